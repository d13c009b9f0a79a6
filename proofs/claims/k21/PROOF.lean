import PyProof.Rows.All
import Wide.All
import OpenK.AllK
import Wide.FinOn
import HandS.ForMost
import HandS.Evl
import HandS.TupLe
import HandS.IsInst
import HandS.AnyAll
import HandS.EndOwn
import HandS.StrMore
import HandS.Conv
import HandS.Sort
import HandS.Star
import HandS.WordsExc
import HandS.ExcIs
import HandS.Wide
import HandS.ExcOwn
import HandS.TryOnly
import HandS.HotCalls
import HandS.Walk
import PySem.Challenge.RW_laminae_k21_space
set_option Elab.async false
set_option linter.all false
set_option maxRecDepth 100000
set_option maxHeartbeats 4000000
namespace LT
open PySem PySem.Spec PyProof.Rows L2 Evl
/-! ### the table of a code object: whatever it holds -/
def TabPhi (P : Addr) (h : Heap) : Prop := ∃ ps : Array Value, h.get? P = some { cls := .none, data := .fields ps } ∧ TriplesOk ps.toList
def Tab (H : Hp) (P : Addr) : Prop := H P = some (.ext (TabPhi P))
theorem tab_stab (P : Addr) : ∀ h1 h2 : Heap, TabPhi P h1 → (∀ o, h1.get? P = some o → h2.get? P = some o) → TabPhi P h2 := fun _ _ ⟨ps, e, t⟩ k => ⟨ps, k _ e, t⟩
theorem tab_ok {p : Program} {w : World} {H : Hp} {h : Heap} {P : Addr} (t : TabPhi P h) : ObjOk p w H h P (.ext (TabPhi P)) := ⟨t, ⟨_, t.choose_spec.1⟩, tab_stab P⟩
theorem Tab.of_ok {p : Program} {w : World} {H : Hp} {h : Heap} {P : Addr} (t : Tab H P) (ok : HOk p w H h) : TabPhi P h := (ok P _ t).1
theorem Tab.mono {H H' : Hp} {P : Addr} (e : Ex H H') (t : Tab H P) : Tab H' P := e _ _ t
open Classical in
def extH (Ps : List Addr) (H : Hp) : Hp := fun b => if b ∈ Ps then some (.ext (TabPhi b)) else H b
theorem extH_in {Ps : List Addr} {H : Hp} {b : Addr} (h : b ∈ Ps) : extH Ps H b = some (.ext (TabPhi b)) := if_pos h
theorem extH_out {Ps : List Addr} {H : Hp} {b : Addr} (h : b ∉ Ps) : extH Ps H b = H b := if_neg h
/-- a promise over heaps whose tables are opaque, for a caller whose tables are all empty -/
def spExt (Ps : List Addr) (sp : Sp) : Sp := fun vs H Q E => (∀ p ∈ Ps, H p = some (.tbl #[])) ∧ sp vs (extH Ps H) (fun v H' => (∀ p ∈ Ps, Tab H' p) ∧ ∀ H2, Q v H2) E
section
variable {P : Program} {w : World} {K : PySem.W.Frag} {mg : Str → Option Value} {base : Heap}
theorem ok_ext {Ps : List Addr} {k : Nat} {f : Addr} {fd : FuncData} {ps : List Str} {sp : Sp} (F : FnOk P w K mg base CX0 k f fd ps sp) : FnOk P w K mg base CX0 k f fd ps (spExt Ps sp) := by
  refine ⟨fun vs H Q E h => F.len _ _ _ _ h.2, fun A outer s H args us vs Q E hr e0 hb hv ⟨hT, hs⟩ => ?_⟩
  have none_ : ∀ {b : Addr}, H b = none → extH Ps H b = none := fun {b} n => by
    rw [extH_out fun hb => by rw [hT b hb] at n; cases n]
    exact n
  have same : ∀ {b : Addr} {u : HO}, H b = some u → (∀ q, u ≠ .tbl q) → extH Ps H b = some u := fun {b u} e n => by
    rw [extH_out fun hb => by rw [hT b hb] at e; exact n _ (Option.some.inj e).symm]
    exact e
  have ok1 : HOk P w (extH Ps H) s.heap := fun b u e => by
    by_cases hb : b ∈ Ps
    · rw [extH_in hb] at e
      cases e
      exact tab_ok ⟨#[], e0.hok b _ (hT b hb), by simp [TriplesOk]⟩
    · rw [extH_out hb] at e
      exact (e0.hok b u e).stay (fun _ _ _ q => q) (fun c q => same q (fun z y => by cases y)) fun c xs q => same q (fun z y => by cases y)
  have e1 : Env0 P w K mg base A outer s (extH Ps H) := ⟨e0.frames, e0.mod, fun b o e => ⟨(e0.bs b o e).1, none_ (e0.bs b o e).2⟩, e0.bsz, e0.funs, fun b hb => none_ (e0.frf b hb), ok1, e0.bare⟩
  refine codeAny_mono (F.run A outer s (extH Ps H) args us vs _ E hr e1 hb hv hs) fun r s' h => ?_
  cases r with
  | error e => exact h.elim
  | ok fl =>
    cases fl with
    | next => exact h
    | brk => exact h
    | cont => exact h
    | ret u =>
      obtain ⟨v, H', os, bare, un, ok', rv, hTab, q⟩ := h
      have more : ∀ p ∈ Ps, TabPhi p s'.heap := fun p hp => (hTab p hp).of_ok ok'
      let H2 : Hp := fun b => if hb : b ∈ Ps then some (.tbl (more b hb).choose) else H' b
      have hin : ∀ {b : Addr} (hb : b ∈ Ps), H2 b = some (.tbl (more b hb).choose) := fun {b} hb => dif_pos hb
      have hout : ∀ {b : Addr}, b ∉ Ps → H2 b = H' b := fun {b} hb => dif_neg hb
      have keepH : ∀ {b : Addr} {u : HO}, H' b = some u → (∀ φ, u ≠ .ext φ) → H2 b = some u := fun {b u} e n => by
        rw [hout fun hb => by rw [hTab b hb] at e; exact n _ (Option.some.inj e).symm]
        exact e
      refine ⟨v, H2, os, bare, ⟨fun b o e n => un.keep b o e (none_ n), fun b o e n => un.slot b o e (none_ n), fun b o e n hx => ?_, un.there, fun b xs e => ?_, fun b o x e => ?_, fun b q e => ?_⟩, fun b y e => ?_, rv, q H2⟩
      · have n' := none_ n
        rw [hout fun hb => by rw [hT b hb] at n; cases n]
        exact un.free b o e n' hx
      · exact keepH (un.tups b xs (same e (fun z y => by cases y))) (fun z y => by cases y)
      · exact keepH (un.frzs b o x (same e (fun z y => by cases y))) (fun z y => by cases y)
      · by_cases hb : b ∈ Ps
        · rw [hT b hb] at e
          cases e
          exact ⟨(more b hb).choose, by rw [hin hb, Array.empty_append]⟩
        · obtain ⟨m, z⟩ := un.tbls b q (by rw [extH_out hb]; exact e)
          exact ⟨m, by rw [hout hb]; exact z⟩
      · by_cases hb : b ∈ Ps
        · rw [hin hb] at e
          cases e
          exact (more b hb).choose_spec.1
        · rw [hout hb] at e
          exact (ok' b y e).stay (fun _ _ _ q => q) (fun c q => keepH q (fun z y => by cases y)) fun c xs q => keepH q (fun z y => by cases y)
end
/-- the law's walk where top-level defs (names) hold generator expressions: their tables are empty at the start -/
theorem walk_tabs {l : PySem.W.OpenLaw} {n k : Nat} {q : Program} {loose : List Str} {XP : (Str → Option Value) → Heap → Prop} {YP : World → Heap → Prop} {d : DefRec} {K : Params → PySem.W.Frag} {x : Str} (names : List Str)
    (hn : l.most = some n) (hn2 : n ≤ sizeLine) (hdf : d.params.defaults = []) (hr : Room k callerA) (hrec : ∀ y ∈ names, ((recsOf q).find? fun e => e.name == y).isSome = true) (hY : ∀ (w : World) (h : Heap), YP w h → (K w.params).In h)
    (F : ∀ (w : World) (mg : Str → Option Value) (fa : Addr) (h : Heap), (K w.params).In h → h.Ns mainGlobals mg → mg d.name = some (.ref fa) →
      ∃ (fd : FuncData) (cs : List (Str × Addr × Addr)) (sp : Sp), (∀ p ∈ cs, p.1 ∈ names ∧ PySem.W.tabIn (K w.params) p.1 = some p.2 ∧ (K w.params).lookup p.2.2 = none) ∧ (∀ (s : Shared) (u : Value), BindsTo s fd ⟨[u], []⟩ [(x, u)]) ∧
        (∀ (H : Hp) (a : Addr) (ns : List Int), ns.length ≤ n → (∀ p ∈ cs, Tab H p.2.2) → SqL (K w.params) H a (ns.map V.int) → ∀ Q : VK, (∀ H', Ex H H' → Q (.bl true) H') → sp [.ref a] H Q fun _ _ _ => False) ∧
        ∀ base : Heap, (K w.params).In base → base.Ns mainGlobals mg → (∀ p ∈ cs, LamX.TabB base mg p.2.1 p.2.2) → FnOk l.prog w (K w.params) mg base CX0 k fa fd [x] sp) :
    PySem.W.WalkO q loose XP YP l.row.toRowW d [] (fun f vs => PySem.call f vs) := by
  refine Att.attach_callB hn hdf fun w s₀ s₁ mg mb fa o pm cd doc a vs ns G Y ho hd hcd hmg hobj hints hlen hbits hg => ?_
  have KX := hY w _ Y
  obtain ⟨fd, cs, sp, hcs, hb, hsp, hF⟩ := F w mg fa _ KX G.T.g hmg
  have two : ∀ p ∈ cs, PySem.W.CodeHd s₁.heap p.2.1 p.2.2 ∧ s₁.heap.get? p.2.2 = some { cls := .none, data := .fields #[] } := fun p hp => by
    obtain ⟨h1, h2, _⟩ := hcs p hp
    obtain ⟨e, he⟩ := Option.isSome_iff_exists.mp (hrec _ h1)
    exact PySem.W.tab_of G.T KX he h2
  have mem : ∀ y ∈ cs.map (fun p => (p.2.1, p.2.2)), ∃ p ∈ cs, p.2 = y := fun y hy => by
    obtain ⟨p, hp, e⟩ := List.mem_map.mp hy
    exact ⟨p, hp, by rw [← e]⟩
  have lim : ∀ b ∈ cs.map (fun p => p.2.2), ∃ p ∈ cs, p.2.2 = b := fun b hb => by
    obtain ⟨p, hp, e⟩ := List.mem_map.mp hb
    exact ⟨p, hp, e⟩
  refine LamX.law_callTs (cs := cs.map fun p => (p.2.1, p.2.2)) (CX := CX0) (sp := spExt (cs.map fun p => p.2.2) sp) KX G.T.g G.T.b G.T.builtins G.T.nolimit hg (fun y hy => ?_) (fun y hy => ?_) (fun y hy => ?_) G.T.bmain hobj hints (Nat.le_trans hlen hn2) hr
    (fun base h1 h2 h3 => ok_ext (hF base h1 h2 fun p hp => h3 (p.2.1, p.2.2) (List.mem_map.mpr ⟨p, hp, rfl⟩))) hb (fun H hH hS => ?_) fun H e s' z => z
  · obtain ⟨p, hp, rfl⟩ := mem y hy
    exact (two p hp).2
  · obtain ⟨p, hp, rfl⟩ := mem y hy
    exact (hcs p hp).2.2
  · obtain ⟨p, hp, rfl⟩ := mem y hy
    exact (two p hp).1
  · refine ⟨fun b hb => ?_, ?_⟩
    · obtain ⟨p, hp, rfl⟩ := lim b hb
      exact hH (p.2.1, p.2.2) (List.mem_map.mpr ⟨p, hp, rfl⟩)
    · have hnt : ∀ p ∈ cs, extH (cs.map fun p => p.2.2) H p.2.2 = some (.ext (TabPhi p.2.2)) := fun p hp => extH_in (List.mem_map.mpr ⟨p, hp, rfl⟩)
      refine hsp _ a ns hlen hnt ?_ _ fun H' e => ⟨fun b hb => ?_, fun _ => rfl⟩
      · rcases hS with (h | ⟨o, h⟩) | h
        · refine .inl (.inl ?_)
          rw [extH_out fun hb => ?_]
          · exact h
          · obtain ⟨p, hp, rfl⟩ := lim a hb
            rw [hH (p.2.1, p.2.2) (List.mem_map.mpr ⟨p, hp, rfl⟩)] at h
            cases h
        · refine .inl (.inr ⟨o, ?_⟩)
          rw [extH_out fun hb => ?_]
          · exact h
          · obtain ⟨p, hp, rfl⟩ := lim a hb
            rw [hH (p.2.1, p.2.2) (List.mem_map.mpr ⟨p, hp, rfl⟩)] at h
            cases h
        · exact .inr h
      · obtain ⟨p, hp, rfl⟩ := lim b hb
        exact e _ _ (hnt p hp)
end LT

set_option Elab.async false
set_option linter.all false
set_option maxRecDepth 100000
set_option maxHeartbeats 4000000
namespace LG
open PySem PySem.Spec PyProof.Rows L2 Evl LT
/-! ### generator expressions whose elements leave everything as it stands -/
theorem kp_tok (s : Shared) (k : Nat) : Keeps s { s with toks := k } := ⟨s.heap, k, rfl, fun _ _ e => e⟩
theorem kp_refl (s : Shared) : Keeps s s := kp_tok s s.toks
theorem kp_trans {s s1 s2 : Shared} (a : Keeps s s1) (b : Keeps s1 s2) : Keeps s s2 := by
  obtain ⟨h1, t1, rfl, k1⟩ := a
  obtain ⟨h2, t2, rfl, k2⟩ := b
  exact ⟨h2, t2, rfl, fun c o e => k2 c o (k1 c o e)⟩
theorem kp_at {s s1 : Shared} (a : Keeps s s1) : ∀ b o, s.heap.get? b = some o → s1.heap.get? b = some o := by
  obtain ⟨h1, t1, rfl, k1⟩ := a
  exact k1
def but (P : Addr) (H : Hp) : Hp := fun b => if b = P then none else H b
theorem but_ne {P b : Addr} {H : Hp} (h : b ≠ P) : but P H b = H b := if_neg h
/-- in the frame of a generator expression, at one turn: its name x holds u -/
structure Fc (X : Cx) (σ : L2.St) (H : Hp) (P : Addr) (scope : Scope) (x : Str) (u : Value) (cenv : Env) (A' : Around) (s₂ : Shared) (m₂ : Str → Option Value) : Prop where
  hd : A'.handled = none
  dp : A'.depth ≤ X.A.depth + 1
  un : A'.units ≤ X.A.units + 8
  sc : cenv.scope = scope
  gl : cenv.globals = mainGlobals
  bi : cenv.builtins = builtinsNs
  ns : s₂.heap.Ns cenv.locals m₂
  mx : m₂ x = some u
  base : ∀ b o, X.base.get? b = some o → s₂.heap.get? b = some o
  md : L2.Mod X.K X.mg X.base
  hok : HOk X.prog X.w (but P H) s₂.heap
  cap : ∀ (i : Nat) (y : Str) (v : V), X.N[i]? = some y → σ[i]? = some (some v) → (X.env.kindOf y = some .cell ∨ X.env.kindOf y = some .free) → scope.names.lookup y = some .free → ∃ r c, RelV v r ∧ cenv.cells.lookup y = some c ∧ s₂.heap.IsCell c (some r)
section
variable {X : Cx} {σ : L2.St} {H : Hp} {P : Addr} {scope : Scope} {x : Str} {u : Value} {cenv : Env} {A' : Around} {s₂ s₃ : Shared} {m₂ : Str → Option Value}
theorem Fc.keeps (F : Fc X σ H P scope x u cenv A' s₂ m₂) (k : Keeps s₂ s₃) : Fc X σ H P scope x u cenv A' s₃ m₂ :=
  have k' := kp_at k
  ⟨F.hd, F.dp, F.un, F.sc, F.gl, F.bi, (let ⟨o, es, ep, e, r⟩ := F.ns; ⟨o, es, ep, k' _ _ e, r⟩), F.mx, fun b o e => k' b o (F.base b o e), F.md, F.hok.kept k', fun i y v h1 h2 h3 h4 => by
    obtain ⟨r, c, a1, a2, o, a3, a4⟩ := F.cap i y v h1 h2 h3 h4
    exact ⟨r, c, a1, a2, o, k' _ _ a3, a4⟩⟩
theorem Fc.kin (F : Fc X σ H P scope x u cenv A' s₂ m₂) : X.K.In s₂.heap := F.md.kin.keeps F.base
theorem Fc.list (F : Fc X σ H P scope x u cenv A' s₂ m₂) (hT : Tab H P) {a : Addr} {xs : List V} (h : SqL X.K H a xs) : ∃ its : List Value, Vals xs its ∧ PlainL s₂.heap a its.toArray ∧ xs.length ≤ sizeLine := by
  have rd : ∀ {o : HO}, H a = some o → (∀ φ, o ≠ .ext φ) → but P H a = some o := fun {o} e n => by
    rw [but_ne fun z => by rw [z, hT] at e; exact n _ (Option.some.inj e).symm]
    exact e
  rcases h with (h | ⟨o, h⟩) | ⟨o, its, n, hk, hc, hd, hs, hz, r⟩
  · obtain ⟨z, its, n, r, e⟩ := F.hok a _ (rd h (fun φ z => by cases z))
    exact ⟨its, r, ⟨_, n, e, rfl, rfl, rfl⟩, z⟩
  · obtain ⟨_, z, its, n, r, e⟩ := F.hok a _ (rd h (fun φ z => by cases z))
    exact ⟨its, r, ⟨_, n, e, rfl, rfl, rfl⟩, z⟩
  · refine ⟨its.toList, r, ⟨o, n, F.kin a o hk, hc, hd, by simpa using hs⟩, ?_⟩
    have e := r.length
    simp only [Array.length_toList] at e
    omega
theorem Fc.tuple (F : Fc X σ H P scope x u cenv A' s₂ m₂) (hT : Tab H P) {a : Addr} {xs : List V} (h : SqT X.K H a xs) : ∃ its : List Value, Vals xs its ∧ IsTup s₂.heap a its.toArray ∧ xs.length ≤ sizeLine := by
  have rd : ∀ {o : HO}, H a = some o → (∀ φ, o ≠ .ext φ) → but P H a = some o := fun {o} e n => by
    rw [but_ne fun z => by rw [z, hT] at e; exact n _ (Option.some.inj e).symm]
    exact e
  rcases h with (h | ⟨o, h⟩) | ⟨o, its, n, hk, hc, hs, hz, r⟩
  · obtain ⟨z, its, r, p⟩ := F.hok a _ (rd h (fun φ z => by cases z))
    exact ⟨its, r, p, z⟩
  · obtain ⟨_, z, its, r, p⟩ := F.hok a _ (rd h (fun φ z => by cases z))
    exact ⟨its, r, p, z⟩
  · refine ⟨its.toList, r, ⟨o, F.kin a o hk, hc, n, by simpa using hs⟩, ?_⟩
    have e := r.length
    simp only [Array.length_toList] at e
    omega
end
/-- the expression has the value z there -/
def QV (X : Cx) (σ : L2.St) (H : Hp) (P : Addr) (scope : Scope) (x : Str) (u : Value) (e : Expr) (z : V) : Prop :=
  ∀ (cenv : Env) (A' : Around) (E' : Value → Shared → Prop) (s₂ : Shared) (m₂ : Str → Option Value), Fc X σ H P scope x u cenv A' s₂ m₂ → wpAny (model X.prog X.w) A' (eval e cenv) (fun y s₃ => RelV z y ∧ Keeps s₂ s₃) E' s₂
section
variable {X : Cx} {σ : L2.St} {H : Hp} {P : Addr} {scope : Scope} {x : Str} {u : Value} {a b : Expr} {za zb z : V} {pos : Pos}
theorem qv_x (hk : scope.kind = .function) (hl : scope.names.lookup x = some .local) (r : RelV z u) (hd : (x == ("__debug__" : Str)) = false := by decide) : QV X σ H P scope x u (.Name x pos) z := fun cenv A' E' s m F =>
  wpAny_Name (wpAny_loadName_local (by rw [F.sc]; exact hk) (show cenv.scope.names.lookup x = some .local by rw [F.sc]; exact hl) F.ns F.mx ⟨r, kp_refl _⟩) hd
theorem qv_cap {i : Nat} {y : Str} (hk : scope.kind = .function) (hl : scope.names.lookup y = some .free) (hN : X.N[i]? = some y) (hs : σ[i]? = some (some z)) (hv : X.env.kindOf y = some .cell ∨ X.env.kindOf y = some .free := by first | exact Or.inl rfl | exact Or.inr rfl) (hd : (y == ("__debug__" : Str)) = false := by decide) (hcd : (y == ("__classdict__" : Str)) = false := by decide) :
    QV X σ H P scope x u (.Name y pos) z := fun cenv A' E' s m F => by
  obtain ⟨r, c, h1, h2, h3⟩ := F.cap i y z hN hs hv hl
  exact wpAny_Name (wpAny_loadName_free (by rw [F.sc]; exact hk) (show cenv.scope.names.lookup y = some .free by rw [F.sc]; exact hl) h2 h3 ⟨h1, kp_refl _⟩ hcd) hd
theorem qv_glob {y : Str} {r : Value} (hk : scope.kind = .function) (hl : scope.names.lookup y = some .globalImplicit) (hm : X.mg y = some r) (h : RelV z r) (hd : (y == ("__debug__" : Str)) = false := by decide) :
    QV X σ H P scope x u (.Name y pos) z := fun cenv A' E' s m F =>
  Calls.Name_function_global (by rw [F.sc]; exact hk) (show cenv.scope.names.lookup y = some .globalImplicit by rw [F.sc]; exact hl) (Calls.loadGlobal_global (by rw [F.gl]; exact F.md.glob.keeps F.base) hm ⟨h, kp_refl _⟩) hd
theorem qv_int {i : Int} {j : Nat} : QV X σ H P scope x u (.Constant (.int i) j pos) (.int i) := fun cenv A' E' s m F => wpAny_Constant_int ⟨⟨_, rfl⟩, kp_tok _ _⟩
theorem qv_str {i : Str} {j : Nat} : QV X σ H P scope x u (.Constant (.str i) j pos) (.str i) := fun cenv A' E' s m F => Calls.Constant_str ⟨⟨_, rfl⟩, kp_tok _ _⟩
/-- an operation on two values -/
def QR (X : Cx) (σ : L2.St) (H : Hp) (P : Addr) (scope : Scope) (x : Str) (u : Value) (f : Value → Value → Sem Value) (za zb z : V) : Prop :=
  ∀ (cenv : Env) (A' : Around) (E' : Value → Shared → Prop) (s₂ : Shared) (m₂ : Str → Option Value) (v w : Value), Fc X σ H P scope x u cenv A' s₂ m₂ → RelV za v → RelV zb w → wpAny (model X.prog X.w) A' (f v w) (fun y s₃ => RelV z y ∧ Keeps s₂ s₃) E' s₂
theorem qv_two {f : Value → Value → Sem Value} (ha : QV X σ H P scope x u a za) (hb : QV X σ H P scope x u b zb) (hr : QR X σ H P scope x u f za zb z) (cenv : Env) (A' : Around) (E' : Value → Shared → Prop) (s : Shared) (m : Str → Option Value) (F : Fc X σ H P scope x u cenv A' s m) :
    wpAny (model X.prog X.w) A' (eval a cenv) (fun v s₁ => wpAny (model X.prog X.w) A' (eval b cenv) (fun w s₂ => wpAny (model X.prog X.w) A' (f v w) (fun y s₃ => RelV z y ∧ Keeps s s₃) E' s₂) E' s₁) E' s :=
  wpAny_mono (ha cenv A' E' s m F) (fun v s1 r1 => wpAny_mono (hb cenv A' E' s1 m (F.keeps r1.2)) (fun w s2 r2 => wpAny_mono (hr cenv A' E' s2 m v w ((F.keeps r1.2).keeps r2.2) r1.1 r2.1)
    (fun y s3 r3 => ⟨r3.1, kp_trans (kp_trans r1.2 r2.2) r3.2⟩) fun _ _ e => e) fun _ _ e => e) fun _ _ e => e
theorem qv_cmp {op : CmpOp} (hr : QR X σ H P scope x u (compareOp op) za zb z) (ha : QV X σ H P scope x u a za) (hb : QV X σ H P scope x u b zb) (hm : behindInMarks op b = false) : QV X σ H P scope x u (.Compare a [op] [b] pos) z := fun cenv A' E' s m F =>
  wpAny_Compare1 (qv_two ha hb hr cenv A' E' s m F) hm
theorem qv_op {op : Operator} (hr : QR X σ H P scope x u (binaryOp op) za zb z) (ha : QV X σ H P scope x u a za) (hb : QV X σ H P scope x u b zb) : QV X σ H P scope x u (.BinOp a op b pos) z := fun cenv A' E' s m F =>
  wpAny_BinOp (qv_two ha hb hr cenv A' E' s m F)
theorem qv_ix (hr : ∀ value slice, subscripted slice false = subscripted slice false → QR X σ H P scope x u (fun v w => subscriptTail value slice v w) za zb z) (ha : QV X σ H P scope x u a za) (hb : QV X σ H P scope x u b zb) : QV X σ H P scope x u (.Subscript a b pos) z := fun cenv A' E' s m F =>
  Subscript_ (qv_two ha hb (hr a b rfl) cenv A' E' s m F)
theorem qr_add {i j : Int} : QR X σ H P scope x u (binaryOp .Add) (.int i) (.int j) (.int (i + j)) := fun cenv A' E' s m v w F r1 r2 => by
  obtain ⟨t, rfl⟩ := r1
  obtain ⟨t', rfl⟩ := r2
  exact add_int ⟨⟨_, rfl⟩, kp_tok _ _⟩
theorem qr_ne_int {i j : Int} : QR X σ H P scope x u (compareOp .NotEq) (.int i) (.int j) (.bl (i != j)) := fun cenv A' E' s m v w F r1 r2 => by
  obtain ⟨t, rfl⟩ := r1
  obtain ⟨t', rfl⟩ := r2
  exact ne_int ⟨rfl, kp_refl _⟩
theorem qr_le_int {i j : Int} : QR X σ H P scope x u (compareOp .LtE) (.int i) (.int j) (.bl (decide (i ≤ j))) := fun cenv A' E' s m v w F r1 r2 => by
  obtain ⟨t, rfl⟩ := r1
  obtain ⟨t', rfl⟩ := r2
  exact le_int ⟨rfl, kp_refl _⟩
theorem qr_ne_str {i j : Str} : QR X σ H P scope x u (compareOp .NotEq) (.str i) (.str j) (.bl (i.cps.toList != j.cps.toList)) := fun cenv A' E' s m v w F r1 r2 => by
  obtain ⟨t, rfl⟩ := r1
  obtain ⟨t', rfl⟩ := r2
  exact PySem.P.ne_str ⟨rfl, kp_refl _⟩
theorem qr_in_sign {c : Nat} {j : Str} : QR X σ H P scope x u (compareOp .In) (.str ⟨#[c]⟩) (.str j) (.bl (decide (c ∈ j.cps.toList))) := fun cenv A' E' s m v w F r1 r2 => by
  obtain ⟨t, rfl⟩ := r1
  obtain ⟨t', rfl⟩ := r2
  exact PyProof.Rows.in_str ⟨(PySem.StrLaws.found_one j c).symm ▸ rfl, kp_refl _⟩
end

/-! ### what is walked -/
def SrcV (K : PySem.W.Frag) (H : Hp) (v : V) (n : Nat) (xs : Nat → V) : Prop :=
  (∃ (a : Addr) (l : List V), v = .ref a ∧ SqL K H a l ∧ n = l.length ∧ ∀ i, xs i = l.getD i .non) ∨
  (∃ z : Str, v = .str z ∧ n = z.cps.size ∧ ∀ i c, z.cps[i]? = some c → xs i = .str ⟨#[c]⟩) ∨
  (∃ (a : Addr) (lo hi : Int), v = .ref a ∧ H a = some (.rng lo hi) ∧ n = (hi - lo).toNat ∧ -(2 ^ 62) ≤ lo ∧ lo < 2 ^ 62 ∧ -(2 ^ 62) ≤ hi ∧ hi < 2 ^ 62 ∧ ∀ i : Nat, xs i = .int (lo + i))
section
variable {X : Cx} {pins : List (Addr × Obj)} {σ : L2.St} {H : Hp} {s : Shared}
theorem src_iter {v : V} {xv : Value} {n : Nat} {xs : Nat → V} {P : Addr} {Q : Value → Shared → Prop} {E : Value → Shared → Prop} (S : SrcV X.K H v n xs) (I : Inv X pins σ H s) (r : RelV v xv) (hT : Tab H P)
    (h : ∀ (o : Obj) (fp : List Addr) (Pf : Nat → Value → Prop) (St : Nat → Heap → Prop), (∀ i u, Pf i u → i < n → RelV (xs i) u) → (∀ A' : Around, A'.handled = none → Walks X.prog X.w A' s.heap.objs.size fp [s.heap.objs.size] n Pf St) →
      St 0 (s.heap.push o) → (∀ b ∈ fp, b ≤ s.heap.objs.size ∧ b ≠ P) → Q (.ref s.heap.objs.size) { s with heap := s.heap.push o }) : wpAny (model X.prog X.w) X.A (pyIter xv) Q E s := by
  have Plt : P < s.heap.objs.size := Heap.lt_size (hT.of_ok I.hok).choose_spec.1
  have szP : s.heap.objs.size ≠ P := fun z => Nat.lt_irrefl _ (z ▸ Plt : s.heap.objs.size < s.heap.objs.size)
  rcases S with ⟨a, l, rfl, hl, rfl, hx⟩ | ⟨z, rfl, rfl, hx⟩ | ⟨a, lo, hi, rfl, ha, rfl, b1, b2, b3, b4, hx⟩
  · cases r
    obtain ⟨its, rv, pl, _⟩ := I.list hl
    have hal : a < s.heap.objs.size := let ⟨_, e, _⟩ := pl.isList; Heap.lt_size e
    have naP : a ≠ P := fun e => by
      obtain ⟨ps, e1, _⟩ := hT.of_ok I.hok
      obtain ⟨o, n, e2, e3, _, e4⟩ := pl
      rw [e, e1] at e2
      cases e2
      cases e3
    refine wpAny_pyIter_list pl.isList ?_
    have hne : a ≠ s.heap.objs.size := Nat.ne_of_lt hal
    have en : its.toArray.size = l.length := by rw [List.size_toArray]; exact rv.length.symm
    refine h _ [s.heap.objs.size, a] (fun i v => its.toArray[i]? = some v) (fun i h => h.IsListIter s.heap.objs.size a i ∧ h.IsList a its.toArray) (fun i u hu hi => ?_) (fun A' hA => by rw [← en]; exact Walks.list hA _ a hne its.toArray) ⟨⟨_, Heap.get?_push_size _ rfl, rfl, rfl⟩, pl.isList.at fun o e => Heap.get?_push_of_some _ e⟩ fun b hb => ?_
    · obtain ⟨w, ew, rw'⟩ := rv.get (List.getElem?_eq_getElem hi)
      have e2 : its.toArray[i]? = some w := by simpa using ew
      rw [e2] at hu
      cases hu
      rw [hx, List.getD_eq_getElem?_getD, List.getElem?_eq_getElem hi]
      exact rw'
    · rcases List.mem_cons.mp hb with e | hb
      · rw [e]
        exact ⟨Nat.le_refl _, szP⟩
      · rw [List.mem_singleton.mp hb]
        exact ⟨Nat.le_of_lt hal, naP⟩
  · obtain ⟨t, rfl⟩ := r
    refine wpAny_pyIter_str fun o St W hst => ?_
    refine h o [s.heap.objs.size] (SignAt z) St (fun i u hu hi => ?_) W hst fun b hb => ?_
    · obtain ⟨c, t', hc, rfl⟩ := hu
      rw [hx i c hc]
      exact ⟨_, rfl⟩
    · rw [List.mem_singleton.mp hb]
      exact ⟨Nat.le_refl _, szP⟩
  · cases r
    obtain ⟨t, t1, t2, e⟩ := I.hok a _ ha
    refine wpAny_pyIter_range (a := lo) (b := hi) (c := 1) e (small_one b1 b2 b3 b4) ?_
    have en : ((Builtin.Range.rangeSize lo hi 1 : Int)) = (((hi - lo).toNat : Nat) : Int) := by
      unfold Builtin.Range.rangeSize
      simp
      omega
    refine h _ [s.heap.objs.size] (fun i v => ∃ t, v = .int (lo + i * 1) t) _ (fun i u hu hi => ?_) (fun A' hA => Walks.range hA _ lo 1 _) ?_ fun b hb => ?_
    · obtain ⟨t, rfl⟩ := hu
      rw [hx]
      exact ⟨t, by rw [Int.mul_one]⟩
    · rw [en]
      show IsRangeIter _ _ (lo + ((0 : Nat) : Int) * 1) ((((hi - lo).toNat : Nat) : Int) - ((0 : Nat) : Int)) 1
      rw [show lo + ((0 : Nat) : Int) * 1 = lo by simp, show (((hi - lo).toNat : Nat) : Int) - ((0 : Nat) : Int) = (((hi - lo).toNat : Nat) : Int) by simp]
      exact Heap.get?_push_size _ rfl
    · rw [List.mem_singleton.mp hb]
      exact ⟨Nat.le_refl _, szP⟩
end
theorem lookup_mem' {α : Type} : ∀ {l : List (Str × α)} {n : Str} {c : α}, l.lookup n = some c → (n, c) ∈ l
  | [], _, _, h => by cases h
  | (k, v) :: r, n, c, h => by
    rw [List.lookup_cons] at h
    cases hb : n == k with
    | true =>
      rw [hb] at h
      cases h
      rw [beq_iff_eq.mp hb]
      exact List.mem_cons_self
    | false =>
      rw [hb] at h
      exact List.mem_cons_of_mem _ (lookup_mem' h)
theorem walks_lt {prog : Program} {w : World} {A : Around} {I : Addr} {fp wr : List Addr} {n : Nat} {Pf : Nat → Value → Prop} {St : Nat → Heap → Prop} (W : Walks prog w A I fp wr n Pf St) : Walks prog w A I fp wr n (fun i u => i < n ∧ Pf i u) St where
  sub := W.sub
  frame := W.frame
  item := fun i s Q E hi st hQ => W.item i s Q E hi st fun v h' tk hp => hQ v h' tk ⟨hi, hp⟩
  done := W.done
  self := W.self
theorem clo_lookup {cells : List (Str × Addr)} {names : List (Str × NameKind)} {y : Str} {c : Addr} (hy : (y, NameKind.free) ∈ names) (hc : cells.lookup y = some c) : (cloFrom cells names []).lookup y = some c := by
  obtain ⟨c', h⟩ := mem_lookup (cloFrom_has (cells := cells) (acc := []) hy)
  rcases cloFrom_mem (lookup_mem' h) with z | ⟨_, z⟩
  · cases z
  · rw [h, z, hc]
    rfl
section
variable {X : Cx} {pins : List (Addr × Obj)} {σ : L2.St} {H : Hp} {s : Shared}
/-- the table has grown: nothing that is tracked changes -/
theorem inv_grown {P : Addr} {s' : Shared} (I : Inv X pins σ H s) (hT : Tab H P) (k : ∀ b o, b ≠ P → s.heap.get? b = some o → s'.heap.get? b = some o) (hP : TabPhi P s'.heap) (ho : s'.os = s.os) (hg : AllBare s'.gens) : Inv X pins σ H s' := by
  have nN : ∀ b, H b = none → b ≠ P := fun b e z => by
    rw [z, hT] at e
    cases e
  have J := I.step (h' := s'.heap) (H' := H) (g' := s'.gens) (t' := s'.toks) (d' := s'.drawn) (ch := []) (fun b hb => absurd hb (by simp)) (fun b o _ _ _ e n => k b o (nN b n) e) (fun b o _ _ _ e n => ⟨o.slots, k b o (nN b n) e⟩) (fun b o _ _ n => n)
    (fun b o _ e => by
      by_cases hb : b = P
      · rw [hb]
        exact ⟨_, hP.choose_spec.1⟩
      · exact ⟨o, k b o hb e⟩)
    (fun b xs e => e) (fun b o u e => e) (fun b ps e => ⟨#[], by rw [e]; simp⟩) (fun m ⟨ob, es, ep, e, r⟩ => ⟨ob, es, ep, k _ ob (nN _ I.free) e, r⟩)
    (fun b u e => by
      by_cases hb : b = P
      · subst hb
        rw [hT] at e
        cases e
        exact tab_ok hP
      · refine (I.hok b u e).stay (fun d v hd q => k d v ?_ q) (fun d q => q) fun d xs q => q
        rcases hd with z | z
        · rw [z]
          exact hb
        · intro e2
          rw [e2, hT] at z
          cases z) hg
  have e : ({ s with heap := s'.heap, gens := s'.gens, drawn := s'.drawn, toks := s'.toks } : Shared) = s' := by
    cases s'
    cases ho
    rfl
  rw [e] at J
  exact J
/-- the generator g, ready to be walked -/
def RdyG (X : Cx) (pins : List (Addr × Obj)) (σ : L2.St) (H : Hp) (n : Nat) (f : Nat → Bool) (g : Addr) (s5 : Shared) : Prop :=
  ∃ (fp wr : List Addr) (G : Array GenState → Array GenState → Prop) (F : Nat → Value → Prop) (St : Nat → Shared → Prop), WalksS X.prog X.w X.A.in1 g fp wr G n F St ∧ St 0 s5 ∧ TruthOf X.prog X.w X.A.in1 F f ∧ ∀ s', Moved wr G s5 s' → Inv X pins σ H s'
theorem gen_make {c P : Addr} {elt iter : Expr} {x : Str} {px gpos : Pos} {scope : Scope} {te : TE} {k : Nat} {Q' : Value → Shared → Prop} {R : Nat → (Nat → Bool) → Hp → Prop}
    (hr : Room k X.A) (TB : LamX.TabB X.base X.mg c P) (hcode : X.env.code = .ref c) (S : GxR.GenS X.env scope x) (hi : PE X iter te) (hs : ∀ v, genFold iter X.env v = pure v) (I : Inv X pins σ H s)
    (h : te σ H fun v H1 => Tab H1 P ∧ ∃ (n : Nat) (xs : Nat → V) (f : Nat → Bool), SrcV X.K H1 v n xs ∧ (∀ i u, i < n → RelV (xs i) u → QV X σ H1 P scope x u elt (.bl (f i))) ∧ R n f H1)
    (hQ : ∀ n f H1 g s5, R n f H1 → RdyG X pins σ H1 n f g s5 → Q' (.ref g) s5) :
    wpAny (model X.prog X.w) X.A (eval (.GeneratorExp elt [⟨.Name x px, iter, [], 0⟩] scope gpos) X.env) Q' X.xe s := by
  refine wpAny_GeneratorExp_walksQD hr.hd S.co (closure_ok S.free) S.cell S.dot S.loc S.kind hr.depth ?_ hs
  refine thn (hi.run pins s σ H _ I h) fun xv s1 ⟨v, H1, I1, r1, hT, n, xs, f, hsrc, hel, hR⟩ => ?_
  refine src_iter hsrc I1 r1 hT fun o fp Pf St hPf hW hst hfp => ?_
  obtain ⟨ps, hPs, ht⟩ := hT.of_ok I1.hok
  have hPlt : P < s1.heap.objs.size := Heap.lt_size hPs
  have hP2 : (s1.heap.push o).get? P = some { cls := .none, data := .fields ps } := Heap.get?_push_of_some _ hPs
  have cd : PySem.W.CodeHd (s1.heap.push o) c P := TB.code.keeps fun b u e => Heap.get?_push_of_some _ (I1.bk b u e)
  have lim2 : (s1.heap.push o).NoLimit := I1.nolimit.push o
  have hcP : cStatics ≠ P := fun e => by
    obtain ⟨_, ⟨o', es, ep, ho, hd, _⟩, _⟩ := I1.nolimit
    rw [e, hPs] at ho
    cases ho
    cases hd
  have hcl : cStatics < s1.heap.objs.size := let ⟨_, hns, _⟩ := I1.nolimit; hns.lt
  have sz2 : (s1.heap.push o).objs.size = s1.heap.objs.size + 1 := Heap.size_push ..
  have nTb : ∀ b, H1 b = none → b ≠ P := fun b e z => by
    rw [z, hT] at e
    cases e
  -- what is left once the code object is known
  have go : ∀ (code : Value) (h3 : Heap) (tk : Nat) (ps' : Array Value), Heap.ExtBut P (s1.heap.push o) h3 → (s1.heap.push o).objs.size ≤ h3.objs.size → h3.get? P = some { cls := .none, data := .fields ps' } → TriplesOk ps'.toList →
      wpAny (model X.prog X.w) X.A (builtinsFor X.env.globals X.env.builtins) (fun bi s₄ => ∃ I fp wr n₀ Pg St₀ pz F, Value.ref s1.heap.objs.size = .ref I ∧ (∀ A' : Around, A'.handled = none → Walks X.prog X.w A' I fp wr n₀ Pg St₀) ∧ St₀ 0 s₄.heap ∧ (∀ b ∈ fp, b < s₄.heap.objs.size) ∧ s₄.heap.NoLimit ∧ cStatics ∉ wr ∧
          (∀ href : Heap, (∀ b o, s₄.heap.get? b = some o → href.get? b = some o) → QuietGenD X.prog X.w (genEnv scope (cloFrom X.env.cells scope.names []) s₄.heap.objs.size code bi X.env) x [] elt (List.range s₄.heap.objs.size) wr Pg pz F href (X.A.depth + 1) (X.A.units + 8)) ∧
          (∀ a h₅ tk gs, gs.bare = true → s₄.heap.objs.size < a → h₅.objs.size = a + 1 → (∀ b o, s₄.heap.get? b = some o → h₅.get? b = some o) →
            WalksS X.prog X.w X.A.in4 a (a :: s₄.heap.objs.size :: List.range s₄.heap.objs.size) (s₄.heap.objs.size :: wr) (GenOnlyQ s₄.gens.size) (passing pz n₀ 0).length (fun j y => ∃ i, (passing pz n₀ 0)[j]? = some i ∧ F i y) (GenAt X.prog X.w X.A.in4 a s₄.gens.size s₄.heap.objs.size (List.range s₄.heap.objs.size) wr pz n₀ F) →
            GenAt X.prog X.w X.A.in4 a s₄.gens.size s₄.heap.objs.size (List.range s₄.heap.objs.size) wr pz n₀ F 0 { s₄ with gens := s₄.gens.push gs, toks := tk, heap := h₅ } →
            Q' (.ref a) { s₄ with gens := s₄.gens.push gs, toks := tk, heap := h₅ })) X.xe { s1 with heap := h3, toks := tk } := by
    intro code h3 tk ps' hx hsz hP3 ht3
    obtain ⟨bm, ob, e1, e2, e3, e4, e5, e6, e7, e8⟩ := TB.bm
    have keep3 : ∀ b u, b ≠ P → s1.heap.get? b = some u → h3.get? b = some u := fun b u hb e => hx b u hb (Heap.get?_push_of_some _ e)
    refine wpAny_builtinsFor (m := X.mg) (by rw [I1.ok.glob]; exact ((I1.mod.glob.keeps I1.bk).push o).extBut hx TB.gP) e1 e2 (keep3 _ _ e4 (I1.bk _ _ e5)) e6 e7 e8 ?_
    have hsz3 : s1.heap.objs.size < h3.objs.size := by omega
    refine ⟨s1.heap.objs.size, fp, [s1.heap.objs.size], n, fun i u => i < n ∧ Pf i u, St, fun _ => true, fun i y => y = .bool (f i), rfl, fun A' hA => walks_lt (hW A' hA), ?_, fun b hb => Nat.lt_of_le_of_lt (hfp b hb).1 hsz3, lim2.extBut hx hcP, ?_, ?_, ?_⟩
    · exact (hW X.A hr.hd).frame _ _ _ hst fun b hb u e => hx b u (hfp b hb).2 e
    · intro z
      rw [List.mem_singleton.mp z] at hcl
      exact Nat.lt_irrefl _ hcl
    · intro href hhref
      refine ⟨fun A' E' i v s₂ m₂ hA hD hU hPv hn hm hk => ?_, fun A' E' i v s₂ m₂ hA hD hU hPv hp hn hm hk => ?_⟩
      · simp only [List.forIn_nil]
        exact wpAny_pure ⟨rfl, kp_refl _⟩
      · have kept : ∀ b u, b ≠ P → s1.heap.get? b = some u → s₂.heap.get? b = some u := fun b u hb e => by
          have hlt := Heap.lt_size e
          refine hk b (List.mem_range.mpr ?_) (fun z => ?_) u (hhref b u (keep3 b u hb e))
          · show b < h3.objs.size
            exact Nat.lt_trans hlt hsz3
          · rw [List.mem_singleton.mp z] at hlt
            exact Nat.lt_irrefl _ hlt
        refine wpAny_mono (hel i v hPv.1 (hPf i v hPv.2 hPv.1) _ A' E' s₂ m₂ ⟨hA, hD, hU, rfl, I1.ok.glob, rfl, hn, hm, fun b u e => kept b u (nTb b (I1.bs b u e).2) (I1.bk b u e), I1.mod, fun b u e => ?_, fun j y w hN hσ hv hfr => ?_⟩) (fun y s3 r => ⟨r.1, r.2⟩) fun _ _ e => e
        · have hb : b ≠ P := fun z => by
            rw [z] at e
            unfold but at e
            rw [if_pos rfl] at e
            cases e
          rw [but_ne hb] at e
          refine (I1.hok b u e).stay (fun d w hd q => kept d w ?_ q) (fun d q => ?_) fun d ys q => ?_
          · rcases hd with z | z
            · rw [z]
              exact hb
            · intro e2
              rw [e2, hT] at z
              cases z
          · rw [but_ne fun e2 => by rw [e2, hT] at q; cases q]
            exact q
          · rw [but_ne fun e2 => by rw [e2, hT] at q; cases q]
            exact q
        · obtain ⟨m, hn1, hl⟩ := I1.loc
          obtain ⟨r, rv, l⟩ := hl j y w hN hσ (hv.elim (fun z => Or.inr (Or.inl z)) (fun z => Or.inr (Or.inr z)))
          rcases l with ⟨z, _⟩ | ⟨_, cc, hc, oc, he, hd⟩
          · rcases hv with z2 | z2
            · rw [z] at z2; cases z2
            · rw [z] at z2; cases z2
          · exact ⟨r, cc, rv, clo_lookup (lookup_mem' hfr) hc, oc, kept cc oc (nTb cc (I1.freeC y cc hc)) he, hd⟩
    · intro g h5 tk5 gs hgb hag hsz5 hk5 W5 hat
      simp only [GxR.passing_true, List.length_range] at W5
      refine hQ n f H1 g _ hR ⟨_, _, _, _, _, W5.in4_1, hat, fun j y sj Qj Ej hy hQj => ?_, fun s' hm => ?_⟩
      · obtain ⟨i, hij, rfl⟩ := hy
        obtain ⟨hj, ej⟩ := List.getElem?_eq_some_iff.mp hij
        rw [List.getElem_range] at ej
        subst ej
        exact wpAny_truthy_bool hQj
      · have nwr : ∀ b u, s1.heap.get? b = some u → b ∉ h3.objs.size :: [s1.heap.objs.size] := fun b u e hb => by
          have hl := Heap.lt_size e
          rcases List.mem_cons.mp hb with z | z
          · rw [z] at hl
            exact Nat.lt_irrefl _ (Nat.lt_trans hl hsz3)
          · rw [List.mem_singleton.mp z] at hl
            exact Nat.lt_irrefl _ hl
        exact inv_grown I1 hT (fun b u hb e => hm.heap b u (nwr b u e) (hk5 b u (keep3 b u hb e))) ⟨ps', hm.heap P _ (nwr P _ hPs) (hk5 P _ hP3), ht3⟩ hm.os (AllBare.movedS (I1.bare.push hgb) hm)
  refine ⟨lim2, ?_⟩
  cases hf : codeAmong gpos ps.toList with
  | some cv => exact wpAny_genexprCode_hit hcode (cd.code hP2 ht) hf (go cv (s1.heap.push o) s1.toks ps (Heap.ExtBut.refl _ _) (Nat.le_refl _) hP2 ht)
  | none =>
    refine wpAny_genexprCodeX hcode (cd.code hP2 ht) (cd.tab hP2) hf fun c' h' tk hx hge hlt hco' _ htab' _ => ?_
    obtain ⟨_, _, _, _, _, _, _, _, _, _, _, _, _, _, _, _, _, _, _, htr, _⟩ := hco'
    exact go _ h' tk _ hx (Nat.le_trans hge (Nat.le_of_lt hlt)) htab'.2 htr
/-- all(.. for x in e), any(.. for x in e) -/
def tGen (X : Cx) (P : Addr) (scope : Scope) (x : Str) (elt : Expr) (fin : Nat → (Nat → Bool) → Bool) (te : TE) : TE := fun σ H Q => te σ H fun v H1 => Tab H1 P ∧ ∃ (n : Nat) (xs : Nat → V) (f : Nat → Bool), SrcV X.K H1 v n xs ∧ (∀ i u, i < n → RelV (xs i) u → QV X σ H1 P scope x u elt (.bl (f i))) ∧ Q (.bl (fin n f)) H1
def allF (n : Nat) (f : Nat → Bool) : Bool := (List.range n).all f
def anyF (n : Nat) (f : Nat → Bool) : Bool := (List.range n).any f
theorem pe_all {c P : Addr} {elt iter : Expr} {x : Str} {px p pos gpos : Pos} {scope : Scope} {te : TE} {k : Nat} (hr : Room k X.A) (hg : Gl X "all") (hm : X.mg "all" = none) (hb : bootBuiltins "all" = some (.builtin "all")) (TB : LamX.TabB X.base X.mg c P) (hcode : X.env.code = .ref c) (S : GxR.GenS X.env scope x)
    (hi : PE X iter te) (hs : ∀ v, genFold iter X.env v = pure v)
    (he : starEach [.GeneratorExp elt [⟨.Name x px, iter, [], 0⟩] scope gpos] X.env = (false, eval (.GeneratorExp elt [⟨.Name x px, iter, [], 0⟩] scope gpos) X.env) :: starEach [] X.env := by rfl) :
    PE X (.Call (.Name "all" p) [.GeneratorExp elt [⟨.Name x px, iter, [], 0⟩] scope gpos] [] pos) (tGen X P scope x elt allF te) := by
  refine ⟨fun pins s σ H Q I h => wpAny_Call_Name_kw (ld_blt I hg hm hb (PyProof.Rows.callWith_builtin1 ?_ he (by rfl)))⟩
  rw [he]
  show wpAny _ _ (spliced ((false, eval (.GeneratorExp elt [⟨.Name x px, iter, [], 0⟩] scope gpos) X.env) :: backTo pos (starEach [] X.env))) _ _ s
  refine Calls.spliced_cons (gen_make (R := fun n f H1 => Q (.bl (allF n f)) H1) hr TB hcode S hi hs I h fun n f H1 g s5 hR ⟨fp, wr, G, F, St₁, W, hst, htr, hI⟩ => Calls.spliced_nil ?_)
  exact call_all_walkS (W.self 0 _ _ _ hst ⟨g, fp, wr, G, _, F, St₁, _, rfl, W, hst, htr, fun s' hmv => ⟨.bl _, H1, hI s' hmv, rfl, hR⟩⟩)
theorem pe_any {c P : Addr} {elt iter : Expr} {x : Str} {px p pos gpos : Pos} {scope : Scope} {te : TE} {k : Nat} (hr : Room k X.A) (hg : Gl X "any") (hm : X.mg "any" = none) (TB : LamX.TabB X.base X.mg c P) (hcode : X.env.code = .ref c) (S : GxR.GenS X.env scope x)
    (hi : PE X iter te) (hs : ∀ v, genFold iter X.env v = pure v)
    (he : starEach [.GeneratorExp elt [⟨.Name x px, iter, [], 0⟩] scope gpos] X.env = (false, eval (.GeneratorExp elt [⟨.Name x px, iter, [], 0⟩] scope gpos) X.env) :: starEach [] X.env := by rfl) :
    PE X (.Call (.Name "any" p) [.GeneratorExp elt [⟨.Name x px, iter, [], 0⟩] scope gpos] [] pos) (tGen X P scope x elt anyF te) := by
  refine ⟨fun pins s σ H Q I h => wpAny_Call_Name_kw (ld_blt I hg hm boot_any (PyProof.Rows.callWith_builtin1 ?_ he (by rfl)))⟩
  rw [he]
  show wpAny _ _ (spliced ((false, eval (.GeneratorExp elt [⟨.Name x px, iter, [], 0⟩] scope gpos) X.env) :: backTo pos (starEach [] X.env))) _ _ s
  refine Calls.spliced_cons (gen_make (R := fun n f H1 => Q (.bl (anyF n f)) H1) hr TB hcode S hi hs I h fun n f H1 g s5 hR ⟨fp, wr, G, F, St₁, W, hst, htr, hI⟩ => Calls.spliced_nil ?_)
  exact call_any_walkS (W.self 0 _ _ _ hst ⟨g, fp, wr, G, _, F, St₁, _, rfl, W, hst, htr, fun s' hmv => ⟨.bl _, H1, hI s' hmv, rfl, hR⟩⟩)
end
end LG

set_option Elab.async false
set_option linter.all false
set_option maxRecDepth 100000
set_option maxHeartbeats 4000000
namespace LS
open PySem PySem.Spec PyProof.Rows L2 Evl LT LG
/-! ### texts -/
section
variable {K : PySem.W.Frag} {σ : L2.St} {H : Hp} {ta tb tc te to : TE} {x y z v : V} {D : Ends} {tu tz : TS}
theorem rv_addS {i j : Str} (h : i.length + j.length ≤ sizeLine) : RV (fun x y H Q => ∃ i j, x = .str i ∧ y = .str j ∧ i.length + j.length ≤ sizeLine ∧ Q (.str (i ++ j)) H) (.str i) (.str j) H (.str (i ++ j)) := rv_val fun _ _ Q q => ⟨i, j, rfl, rfl, h, q⟩
theorem ev_lenS {z : Str} {ta : TE} (h : Ev ta σ H (.str z)) (hz : z.length ≤ sizeLine) : Ev (tCB (fun xs H Q => ∃ x, xs = [.str x] ∧ x.length ≤ sizeLine ∧ Q (.int x.length) H) (tCons ta tNil)) σ H (.int (z.length : Int)) := ev_cb (ea_cons h ea_nil) fun H1 _ Q q => ⟨z, rfl, hz, q H1 (Ex.refl H1)⟩
theorem ev_isi {x : V} {n : String} {t : Value} {b : Bool} (h : Ev ta σ H x) (hn : Ev tb σ H (.ty n)) (ht : ∀ H1, Ex H H1 → TyX K H1 x t) (hk : PySem.W.kitOne K t (.type n) = some b) : Ev (tCB (rIsi K) (tCons ta (tCons tb tNil))) σ H (.bl b) :=
  ev_cb (ea_cons h (ea_cons hn ea_nil)) fun H1 e Q q => ⟨x, .ty n, t, .type n, b, rfl, .ty n, ht H1 e, hk, q H1 (Ex.refl H1)⟩
/-- a < b < c over ints -/
theorem et_chain {f g : Int → Int → Bool} {i j k : Int} (ha : Ev ta σ H (.int i)) (hb : Ev tb σ H (.int j)) (hc : Ev tc σ H (.int k)) : EvT (tTest (tChain (rI0 fun i j => .bl (f i j)) (rI0 fun i j => .bl (g i j)) ta tb tc)) σ H (f i j && g j k) := fun H1 e Q q =>
  ha H1 e _ fun H2 e2 => hb H2 (e.trans e2) _ fun H3 e3 => ⟨i, j, rfl, rfl, f i j, rfl, by
    cases hf : f i j with
    | true =>
      rw [if_pos rfl]
      refine hc H3 ((e.trans e2).trans e3) _ fun H4 e4 => ⟨j, k, rfl, rfl, g j k, rfl, ?_⟩
      have := q H4 ((e2.trans e3).trans e4)
      rw [hf] at this
      exact this
    | false =>
      rw [if_neg Bool.false_ne_true]
      have := q H3 (e2.trans e3)
      rw [hf] at this
      exact ⟨false, rfl, this⟩⟩
theorem s_forS {zs : Str} {j : Nat} (h : Ev te σ H (.str zs)) (Pv : Nat → L2.St → Hp → Prop) (h0 : ∀ H1, Ex H H1 → Pv 0 σ H1)
    (hs : ∀ i c σ' H', zs.cps.toList[i]? = some c → Pv i σ' H' → tu { D with nx := Pv (i + 1), ct := Pv (i + 1), bk := D.nx } (σ'.set j (some (.str ⟨#[c]⟩))) H') (hd : ∀ σ' H', Pv zs.cps.toList.length σ' H' → D.nx σ' H') : tFor (iStr te) (gName j) tu D σ H :=
  h H (Ex.refl H) _ fun H1 e => ⟨zs, rfl, fun i m σ' H' => m + i = zs.cps.size ∧ Pv i σ' H', ⟨zs.cps.size, by omega, h0 H1 e⟩, fun i m σ' H' ⟨hm, p⟩ => by
    by_cases hi : i < zs.cps.size
    · refine .inr ⟨hi, Pv (i + 1), fun σ2 H2 p2 => ⟨m - 1, by omega, by omega, p2⟩, fun v H2 hy => ?_⟩
      obtain ⟨rfl, c, hc, rfl⟩ := hy
      exact hs i c σ' H2 (by rw [Array.getElem?_toList]; exact hc) p
    · have ei : i = zs.cps.toList.length := by
        rw [Array.length_toList]
        omega
      rw [ei] at p
      exact .inl ⟨Nat.le_of_not_lt hi, hd σ' H' p⟩⟩
theorem q_forS {zs : Str} {j : Nat} (h : Ev te σ H (.str zs)) (Pv : Nat → L2.St → Hp → Prop) (h0 : ∀ H1, Ex H H1 → Pv 0 σ H1)
    (hs : ∀ i c σ' H', zs.cps.toList[i]? = some c → Pv i σ' H' → tu { D with nx := Pv (i + 1), ct := Pv (i + 1), bk := tz D } (σ'.set j (some (.str ⟨#[c]⟩))) H') (hd : ∀ σ' H', Pv zs.cps.toList.length σ' H' → tz D σ' H') : tSeq (tFor (iStr te) (gName j) tu) tz D σ H :=
  s_forS (D := { D with nx := tz D }) h Pv h0 hs hd
theorem q_call {i : Nat} {sp : Sp} {dvs vs : List V} {E : XK} {tr : TA} (h : EvA tr σ H vs) (k : ∀ H1, Ex H H1 → sp (vs ++ dvs) H1 (fun v H2 => tz D (σ.set i (some v)) H2) E) : tSeq (tAsg (tCall sp dvs E tr) (gName i)) tz D σ H := h H (Ex.refl H) _ fun H1 e => k H1 e
/-- a call whose first argument is a new tuple -/
theorem ev_callU1 {sp : Sp} {dvs vs xs : List V} {E : XK} {tr : TA} (h : EvU ta σ H xs) (hr : EvA tr σ H vs) (hs : ∀ p H1, H1 p = some (.tup xs) → Ex H H1 → SpV sp ((.ref p :: vs) ++ dvs) H1 z) : Ev (tCall sp dvs E (tCons ta tr)) σ H z := fun H1 e Q q =>
  h H1 e _ fun p H2 hp e2 h2 => hr H2 (e.trans e2) _ fun H3 e3 => hs p H3 (e3 _ _ h2) ((e.trans e2).trans e3) H3 (Ex.refl _) Q (fun H4 e4 => q H4 ((e2.trans e3).trans e4)) E
theorem ev_index {W : WX} {a b : Str} {k : Nat} {tr : TA} (h : Ev to σ H (.str a)) (hb : EvA tr σ H [.str b]) (hk : Txt.index0 a b = some k) : Ev (tBMS K "str" (rIndexX W) to tr) σ H (.int (k : Int)) := fun H1 e Q q =>
  h H1 e _ fun H2 e2 => ⟨rfl, hb H2 (e.trans e2) _ fun H3 e3 => ⟨a, b, rfl, rfl, fun k' hk' => by
    rw [hk] at hk'
    cases hk'
    exact q H3 (e2.trans e3), fun hn => by
    rw [hk] at hn
    cases hn⟩⟩
theorem ev_find {a b : Str} (h : Ev to σ H (.str a)) (hb : Ev te σ H (.str b)) : Ev (tM1 (fun x xs H Q => ∃ a b, x = .str a ∧ xs = [.str b] ∧ Q (.int (Txt.find a b)) H) to te) σ H (.int (Txt.find a b)) := fun H1 e Q q =>
  h H1 e _ fun H2 e2 => ⟨⟨a, rfl⟩, hb H2 (e.trans e2) _ fun H3 e3 => ⟨a, b, rfl, rfl, q H3 (e2.trans e3)⟩⟩
theorem ev_slS {tl th : TO} {z : Str} {lo hi : Option Int} (h : Ev te σ H (.str z)) (h1 : EvO tl σ H lo) (h2 : EvO th σ H hi) (hz : z.length ≤ sizeLine) : Ev (tSl rSlS te tl th) σ H (.str (cutS z lo hi)) := fun H1 e Q q =>
  h H1 e _ fun H2 e2 => h1 H2 (e.trans e2) _ fun H3 e3 => h2 H3 ((e.trans e2).trans e3) _ fun H4 e4 => ⟨z, rfl, hz, q H4 ((e2.trans e3).trans e4)⟩
/-- text * int -/
def rMulS : R2 := fun x y H Q => ∃ a n, x = .str a ∧ y = .int n ∧ a.length ≤ 1000 ∧ 0 ≤ n ∧ n ≤ 1000 ∧ Q (.str (Txt.mul a n)) H
theorem rv_mulS {a : Str} {n : Int} (h1 : a.length ≤ 1000) (h2 : 0 ≤ n) (h3 : n ≤ 1000) : RV rMulS (.str a) (.int n) H (.str (Txt.mul a n)) := rv_val fun _ _ Q q => ⟨a, n, rfl, rfl, h1, h2, h3, q⟩
end
theorem mulOk {a : Str} {n : Int} (h1 : a.length ≤ 1000) (h2 : 0 ≤ n) (h3 : n ≤ 1000) : MulOk a n := by
  refine ⟨by simp; omega, fun h h' hh => ?_, fun h h' => ?_⟩
  · have p : (0 : Int) < n := by omega
    have m : (a.length : Int) * n ≤ 1000 * 1000 := Int.mul_le_mul (by omega) h3 h2 (by decide)
    have := (Int.le_ediv_iff_mul_le p).mpr (show (a.length : Int) * n ≤ 2 ^ 63 - 1 by omega)
    omega
  · have m : a.length * n.toNat ≤ 1000 * 1000 := Nat.mul_le_mul h1 (by omega)
    have z : sizeLine = 16777216 := rfl
    show decide (a.length * n.toNat > sizeLine) = false
    exact decide_eq_false (by omega)
theorem op_mul_str {X : Cx} : OpR X (binaryOp .Mult) rMulS := by
  intro pins s σ H x y v u Q I rx ry h
  obtain ⟨a, n, rfl, rfl, h1, h2, h3, q⟩ := h
  obtain ⟨t, rfl⟩ := rx
  obtain ⟨t', rfl⟩ := ry
  exact SB.mul (mulOk h1 h2 h3) fun t'' k => ⟨.str (Txt.mul a n), H, I.tok _, ⟨_, rfl⟩, q⟩
section
variable {X : Cx} {σ : L2.St} {H : Hp} {P : Addr} {scope : Scope} {x : Str} {elt : Expr} {te : TE} {fin : Nat → (Nat → Bool) → Bool}
theorem ev_gen {v : V} {n : Nat} {xs : Nat → V} {f : Nat → Bool} (h : Ev te σ H v) (hT : Tab H P) (hs : ∀ H1, Ex H H1 → SrcV X.K H1 v n xs) (he : ∀ H1, Ex H H1 → ∀ i u, i < n → RelV (xs i) u → QV X σ H1 P scope x u elt (.bl (f i))) :
    Ev (tGen X P scope x elt fin te) σ H (.bl (fin n f)) := fun H1 e Q q => h H1 e _ fun H2 e2 => ⟨hT.mono (e.trans e2), n, xs, f, hs H2 (e.trans e2), he H2 (e.trans e2), q H2 e2⟩
end
theorem allF_list {α : Type} (l : List α) (d : α) (p : α → Bool) : allF l.length (fun i => p (l.getD i d)) = l.all p := by
  unfold allF
  rw [Bool.eq_iff_iff, List.all_eq_true, List.all_eq_true]
  constructor
  · intro h y hy
    obtain ⟨i, hi, rfl⟩ := List.getElem_of_mem hy
    have q := h i (List.mem_range.mpr hi)
    rw [List.getD_eq_getElem?_getD, List.getElem?_eq_getElem hi] at q
    exact q
  · intro h i hi
    have hi' := List.mem_range.mp hi
    rw [List.getD_eq_getElem?_getD, List.getElem?_eq_getElem hi']
    exact h _ (List.getElem_mem hi')
theorem anyF_list {α : Type} (l : List α) (d : α) (p : α → Bool) : anyF l.length (fun i => p (l.getD i d)) = l.any p := by
  unfold anyF
  rw [Bool.eq_iff_iff, List.any_eq_true, List.any_eq_true]
  constructor
  · rintro ⟨i, hi, h⟩
    have hi' := List.mem_range.mp hi
    rw [List.getD_eq_getElem?_getD, List.getElem?_eq_getElem hi'] at h
    exact ⟨_, List.getElem_mem hi', h⟩
  · rintro ⟨y, hy, h⟩
    obtain ⟨i, hi, rfl⟩ := List.getElem_of_mem hy
    refine ⟨i, List.mem_range.mpr hi, ?_⟩
    rw [List.getD_eq_getElem?_getD, List.getElem?_eq_getElem hi]
    exact h
theorem src_str {K : PySem.W.Frag} {H : Hp} (z : Str) : SrcV K H (.str z) z.cps.toList.length (fun i => .str ⟨#[z.cps.toList.getD i 0]⟩) := .inr (.inl ⟨z, rfl, Array.length_toList, fun i c hc => by
  have e : z.cps.toList[i]? = some c := by rw [Array.getElem?_toList]; exact hc
  show V.str ⟨#[z.cps.toList.getD i 0]⟩ = V.str ⟨#[c]⟩
  rw [List.getD_eq_getElem?_getD, e]
  rfl⟩)
/-! ### a def whose code object is known -/
structure FunC (K : PySem.W.Frag) (x qual : Str) (st : Stmt) (f : Addr) (fd : FuncData) (c : Addr) : Prop where
  ex : ∃ (oc : Value) (od : Option Addr) (kV doc pm : Value) (an : Option Addr) (ct : Value) (osl : Array (Option Value)), fd = PySem.W.fnOf x qual (defArgs st) (defBody st) (defScope st) .none kV doc pm an (.ref c) ct ∧ K.lookup f = some ⟨oc, od, .func fd, osl⟩ ∧ PySem.W.codeIn K (.ref c) qual = true
  kp : PySem.W.keepIn K (.ref f) = true
section
variable {P : Program} {w : World} {K : PySem.W.Frag} {mg : Str → Option Value} {base : Heap}
theorem FunC.ok {x qual : Str} {st : Stmt} {f c : Addr} {fd : FuncData} {N ps : List Str} {k : Nat} {sp : Sp} (F : FunC K x qual st f fd c) (S : FnScope N ps (defScope st)) (len : ∀ vs H Q E, sp vs H Q E → vs.length = ps.length)
    (hbody : ∀ (A : Around) (outer : List Env) (s : Shared) (H : Hp) (vs : List V) (Q : VK) (E : XK), Room k (A.deeper (envOfC qual (defScope st) s.heap.objs.size f (.ref c))) → sp vs H Q E →
      ∃ t, PSs (cxOf CX0 P w K mg base N qual (defScope st) f (.ref c) A outer s H E).nox (defBody st) t ∧ t { nx := fun _ H' => Q .non H', rt := Q } (start N vs) H) : FnOk P w K mg base CX0 (k + 1) f fd ps sp := by
  obtain ⟨oc, od, kV, doc, pm, an, ct, osl, rfl, lk, hcd⟩ := F.ex
  exact fn_of lk hcd S len fun A outer s H vs Q E hr hsp => let ⟨t, h, q⟩ := hbody A outer s H vs Q E hr hsp; ⟨t, h.nox, q⟩
theorem FunC.fun {x qual : Str} {st : Stmt} {f c : Addr} {fd : FuncData} (F : FunC K x qual st f fd c) : Fun K x qual st f fd := let ⟨oc, od, kV, doc, pm, an, ct, osl, e, lk, hcd⟩ := F.ex; ⟨⟨oc, od, kV, doc, pm, an, .ref c, ct, osl, e, lk, hcd⟩, F.kp⟩
theorem tab_mk {x : Str} {f c T : Addr} {oc e : Value} {od dd : Option Addr} {osl sl : Array (Option Value)} {fd : FuncData} {vs : Array Value} (a : PySem.W.nsIn K mainGlobals x = some (some (.ref f))) (l : K.lookup f = some ⟨oc, od, .func fd, osl⟩)
    (h : K.lookup c = some ⟨e, dd, .fields vs, sl⟩) (hv : vs[11]? = some (.ref T)) (hc : fd.code = .ref c := by rfl) : PySem.W.tabIn K x = some (c, T) := by
  unfold PySem.W.tabIn
  rw [a]
  dsimp only
  rw [l]
  dsimp only
  rw [hc]
  dsimp only
  rw [h]
  dsimp only
  rw [hv]
theorem funC_mk {x qual : Str} {st : Stmt} {f c T : Addr} {oc : Value} {od an : Option Addr} {osl : Array (Option Value)} {kV doc pm cdv ct : Value} (a : PySem.W.nsIn K mainGlobals x = some (some (.ref f))) (l : K.lookup f = some ⟨oc, od, .func (PySem.W.fnOf x qual (defArgs st) (defBody st) (defScope st) .none kV doc pm an cdv ct), osl⟩)
    (cd : PySem.W.codeIn K cdv qual = true) (k : PySem.W.keepIn K (.ref f) = true) (ht : PySem.W.tabIn K x = some (c, T)) : FunC K x qual st f (PySem.W.fnOf x qual (defArgs st) (defBody st) (defScope st) .none kV doc pm an cdv ct) c := by
  have e : cdv = .ref c := by
    unfold PySem.W.tabIn at ht
    rw [a] at ht
    dsimp only at ht
    rw [l] at ht
    dsimp only [PySem.W.fnOf] at ht
    cases cdv with
    | ref c' =>
      dsimp only at ht
      split at ht
      · split at ht
        · cases ht
          rfl
        · cases ht
      · cases ht
    | _ => cases ht
  subst e
  exact ⟨⟨oc, od, kV, doc, pm, an, ct, osl, rfl, l, cd⟩, k⟩
end
end LS

set_option Elab.async false
set_option linter.all false
set_option maxRecDepth 100000
set_option maxHeartbeats 4000000
namespace LQ
open PySem PySem.Spec PyProof.Rows L2 Evl LT LG LS
/-! ### calls within the elements of a generator expression -/
section
variable {X : Cx} {σ : L2.St} {H : Hp} {P : Addr} {scope : Scope} {x : Str} {u : Value} {a b : Expr} {za zb z : V} {pos p : Pos}
theorem fc_blt {y : Str} {r : Value} {cenv : Env} {A' : Around} {E' : Value → Shared → Prop} {s : Shared} {m : Str → Option Value} {Q : Value → Shared → Prop} (F : Fc X σ H P scope x u cenv A' s m) (hk : scope.kind = .function) (hl : scope.names.lookup y = some .globalImplicit) (hm : X.mg y = none) (hv : bootBuiltins y = some r) (h : Q r s)
    (hn : y ≠ "__name__" := by decide) (hd : (y == ("__debug__" : Str)) = false := by decide) : wpAny (model X.prog X.w) A' (eval (.Name y p) cenv) Q E' s := by
  obtain ⟨mb, h1, h2⟩ := F.md.blt
  exact Calls.Name_function_global (by rw [F.sc]; exact hk) (show cenv.scope.names.lookup y = some .globalImplicit by rw [F.sc]; exact hl) (Calls.loadGlobal_builtin (by rw [F.gl]; exact F.md.glob.keeps F.base) hm (by rw [F.bi]; exact h1.keeps F.base) ((h2 y hn).trans hv) h) hd
theorem qv_blt {y : Str} {r : Value} (hk : scope.kind = .function) (hl : scope.names.lookup y = some .globalImplicit) (hm : X.mg y = none) (hv : bootBuiltins y = some r) (hz : RelV z r) (hn : y ≠ "__name__" := by decide) (hd : (y == ("__debug__" : Str)) = false := by decide) :
    QV X σ H P scope x u (.Name y p) z := fun cenv A' E' s m F => fc_blt F hk hl hm hv ⟨hz, kp_refl _⟩ hn hd
/-- a built-in function of two arguments -/
theorem qv_blt2 {y : Str} {id : String} (hk : scope.kind = .function) (hl : scope.names.lookup y = some .globalImplicit) (hm : X.mg y = none) (hv : bootBuiltins y = some (.builtin id)) (ha : QV X σ H P scope x u a za) (hb : QV X σ H P scope x u b zb) (hr : QR X σ H P scope x u (fun v w => call (.builtin id) [v, w]) za zb z)
    (he : ∀ env, starEach [a, b] env = (false, eval a env) :: starEach [b] env := by intro _; rfl) (h2 : ∀ env, starEach [b] env = [(false, eval b env)] := by intro _; rfl) (hn : y ≠ "__name__" := by decide) (hd : (y == ("__debug__" : Str)) = false := by decide) :
    QV X σ H P scope x u (.Call (.Name y p) [a, b] [] pos) z := fun cenv A' E' s m F => by
  refine wpAny_Call_Name_kw (fc_blt F hk hl hm hv ?_ hn hd)
  refine PyProof.Rows.callWith_builtin1 ?_ (he cenv) (by rw [h2 cenv]; rfl)
  rw [he cenv, h2 cenv]
  show wpAny _ _ (spliced [(false, eval a cenv), (false, eval b cenv)]) _ _ s
  refine Calls.spliced_cons (wpAny_mono (ha cenv A' E' s m F) (fun v s1 r1 => ?_) fun _ _ e => e)
  refine Calls.spliced_cons (wpAny_mono (hb cenv A' E' s1 m (F.keeps r1.2)) (fun w s2 r2 => ?_) fun _ _ e => e)
  exact Calls.spliced_nil (wpAny_mono (hr cenv A' E' s2 m v w ((F.keeps r1.2).keeps r2.2) r1.1 r2.1) (fun y s3 r3 => ⟨r3.1, kp_trans (kp_trans r1.2 r2.2) r3.2⟩) fun _ _ e => e)
/-- what isinstance asks of a value -/
theorem kit_fc {cenv : Env} {A' : Around} {s : Shared} {m : Str → Option Value} {v : Value} {t : Value} (F : Fc X σ H P scope x u cenv A' s m) (hT : Tab H P) (r : RelV z v) (ty : TyOf X.K H z t) (no : ∀ a C dx fs, H a = some (.ins C dx fs) → z ≠ .ref a) :
    ∃ Pz : Heap → Prop, PySem.W.KitX X.K v t Pz ∧ Pz s.heap ∧ v ≠ .builtin "__main__.__loader__#opaque" := by
  have rd : ∀ {a : Addr} {o : HO}, H a = some o → (∀ φ, o ≠ .ext φ) → but P H a = some o := fun {a o} e n => by
    rw [but_ne fun z => by rw [z, hT] at e; exact n _ (Option.some.inj e).symm]
    exact e
  cases ty with
  | non => cases (show v = Value.none from r); exact ⟨_, PySem.W.kitx_none, True.intro, fun z => nomatch z⟩
  | bl y => cases (show v = Value.bool y from r); exact ⟨_, PySem.W.kitx_bool, True.intro, fun z => nomatch z⟩
  | int i => obtain ⟨t, q⟩ := (show ∃ t, v = Value.int i t from r); cases q; exact ⟨_, PySem.W.kitx_int, True.intro, fun z => nomatch z⟩
  | str y => obtain ⟨t, q⟩ := (show ∃ t, v = Value.str y t from r); cases q; exact ⟨_, PySem.W.kitx_str, True.intro, fun z => nomatch z⟩
  | flt y => obtain ⟨t, q⟩ := (show ∃ t, v = Value.float y t from r); cases q; exact ⟨_, PySem.W.kitx_float, True.intro, fun z => nomatch z⟩
  | @lst a xs ea =>
    cases (show v = Value.ref a from r)
    obtain ⟨_, _, n, _, h1⟩ := (show ObjOk X.prog X.w (but P H) s.heap a (.lst xs) from F.hok a _ (rd ea (fun φ z => by cases z)))
    exact ⟨_, PySem.W.kitx_list, ⟨_, h1, rfl⟩, fun z => nomatch z⟩
  | @frz a ob xs ea =>
    cases (show v = Value.ref a from r)
    obtain ⟨_, _, _, n, _, h1⟩ := (show ObjOk X.prog X.w (but P H) s.heap a (.frz ob (.lst xs)) from F.hok a _ (rd ea (fun φ z => by cases z)))
    exact ⟨_, PySem.W.kitx_list, ⟨_, h1, rfl⟩, fun z => nomatch z⟩
  | @tup a xs ea =>
    cases (show v = Value.ref a from r)
    obtain ⟨_, _, _, o, h1, h2, _⟩ := (show ObjOk X.prog X.w (but P H) s.heap a (.tup xs) from F.hok a _ (rd ea (fun φ z => by cases z)))
    exact ⟨_, PySem.W.kitx_tuple, ⟨o, h1, h2⟩, fun z => nomatch z⟩
  | @dK a kvs ea =>
    cases (show v = Value.ref a from r)
    obtain ⟨_, _, vs, _, o, es, ep, h1, h2, _⟩ := F.hok a _ (rd ea (fun φ z => by cases z))
    exact ⟨_, PySem.W.kitx_dict, ⟨o, h1, h2.1⟩, fun z => nomatch z⟩
  | @dT a kvs ea =>
    cases (show v = Value.ref a from r)
    obtain ⟨_, _, xs, _, o, es, ep, h1, h2, _⟩ := F.hok a _ (rd ea (fun φ z => by cases z))
    exact ⟨_, PySem.W.kitx_dict, ⟨o, h1, h2.1⟩, fun z => nomatch z⟩
  | @ins a C dx fs ea cl ha hn htk hm => exact absurd rfl (no a C dx fs ea)
theorem qr_isi {T : String} {t : Value} {b : Bool} (hT : Tab H P) (ty : TyOf X.K H z t) (no : ∀ a C dx fs, H a = some (.ins C dx fs) → z ≠ .ref a) (hk : PySem.W.kitOne X.K t (.type T) = some b) : QR X σ H P scope x u (fun v w => call (.builtin "isinstance") [v, w]) z (.ty T) (.bl b) := fun cenv A' E' s m v w F r1 r2 => by
  cases (show w = Value.type T from r2)
  obtain ⟨Pz, Z, p, hx⟩ := kit_fc F hT r1 ty no
  exact PySem.W.kia_one Z F.kin p hk hx fun tk => ⟨rfl, kp_tok _ _⟩
theorem qv_is {z' : V} (h : QV X σ H P scope x u a z) (e : z = z') : QV X σ H P scope x u a z' := e ▸ h
theorem qv_not {c : Bool} (ha : QV X σ H P scope x u a (.bl c)) : QV X σ H P scope x u (.UnaryOp .Not a pos) (.bl (!c)) := fun cenv A' E' s m F => by
  refine UnaryOp_ (wpAny_mono (ha cenv A' E' s m F) (fun v s1 r1 => ?_) fun _ _ e => e)
  obtain ⟨rfl, k⟩ := r1
  exact not_of (wpAny_truthy_bool ⟨rfl, k⟩)
theorem qv_one {op : BoolOp} (ha : QV X σ H P scope x u a z) : QV X σ H P scope x u (.BoolOp op [a] pos) z := fun cenv A' E' s m F => BoolOp_one (ha cenv A' E' s m F)
theorem qv_and {rest : List Expr} {c d : Bool} (ha : QV X σ H P scope x u a (.bl c)) (hb : c = true → QV X σ H P scope x u (.BoolOp .And (b :: rest) pos) (.bl d)) : QV X σ H P scope x u (.BoolOp .And (a :: b :: rest) pos) (.bl (c && d)) := fun cenv A' E' s m F => by
  refine BoolOp_and (wpAny_mono (ha cenv A' E' s m F) (fun v s1 r1 => ?_) fun _ _ e => e)
  obtain ⟨rfl, k⟩ := r1
  refine wpAny_truthy_bool ?_
  cases c with
  | true => exact wpAny_mono (hb rfl cenv A' E' s1 m (F.keeps k)) (fun y s3 r3 => ⟨r3.1, kp_trans k r3.2⟩) fun _ _ e => e
  | false => exact ⟨rfl, k⟩
theorem qr_ge_int {i j : Int} : QR X σ H P scope x u (compareOp .GtE) (.int i) (.int j) (.bl (decide (j ≤ i))) := fun cenv A' E' s m v w F r1 r2 => by
  obtain ⟨t, rfl⟩ := r1
  obtain ⟨t', rfl⟩ := r2
  exact ge_int ⟨rfl, kp_refl _⟩
/-- an own def of one argument whose body is one return -/
theorem qv_call1 {nm pn qual : Str} {st : Stmt} {f : Addr} {fd : FuncData} {N : List Str} {e : Expr} {rp : Pos} {k : Nat} (hr : Room k X.A) (hk : scope.kind = .function) (hl : scope.names.lookup nm = some .globalImplicit) (hm : X.mg nm = some (.ref f)) (F : Fun X.K nm qual st f fd) (hbody : defBody st = [.Return (some e) rp]) (S : FnScope N [pn] (defScope st)) (hloc : (defScope st).names.lookup pn = some .local)
    (hb : Binds X.K fd [pn] []) (ha : QV X σ H P scope x u a za) (he : ∀ (A0 : Around) (v : Value), RelV za v → QV { X with A := A0 } σ H P (defScope st) pn v e z) (hs : ∀ env, starEach [a] env = (false, eval a env) :: starEach [] env := by intro _; rfl) (hd : (nm == ("__debug__" : Str)) = false := by decide) :
    QV X σ H P scope x u (.Call (.Name nm p) [a] [] pos) z := fun cenv A' E' s m Fc0 => by
  refine wpAny_Call_Name_kw (Calls.Name_function_global (by rw [Fc0.sc]; exact hk) (show cenv.scope.names.lookup nm = some .globalImplicit by rw [Fc0.sc]; exact hl) (Calls.loadGlobal_global (by rw [Fc0.gl]; exact Fc0.md.glob.keeps Fc0.base) hm ?_) hd)
  refine PySem.W.callWith_K (h₀ := X.base) Fc0.md.kin F.kp ?_ (hs cenv) (by rfl)
  rw [hs cenv]
  show wpAny _ _ (spliced ((false, eval a cenv) :: [])) _ _ s
  refine Calls.spliced_cons (wpAny_mono (ha cenv A' E' s m Fc0) (fun v s1 r1 => Calls.spliced_nil ?_) fun _ _ e => e)
  have F1 := Fc0.keeps r1.2
  refine ⟨F1.kin, ?_⟩
  obtain ⟨oc, od, kV, doc, pm, an, cdv, ct, osl, rfl, lk, hcd⟩ := F.ex
  refine wpAny_call (Att.call_fn (binds := [(pn, v)]) F1.kin (F1.md.nolimit.keeps F1.base) lk hcd (by have := hr.dp; have := Fc0.dp; omega) (hb s1 [v] F1.kin rfl) ?_ (fun s2 IC => ?_) S.co S.gen S.kind)
  · simp only [List.all_cons, List.all_nil, Bool.and_true, Bool.or_eq_true, beq_iff_eq]
    exact .inl hloc
  · obtain ⟨h2, tk2, rfl⟩ := IC.toInCall.same
    have kk : ∀ b o, s1.heap.get? b = some o → h2.get? b = some o := IC.toInCall.keep
    rw [hbody]
    have Fn : Fc { X with A := A' } σ H P (defScope st) pn v (envOfC qual (defScope st) s1.heap.objs.size f cdv) (A'.deeper (envOfC qual (defScope st) s1.heap.objs.size f cdv)) { s1 with heap := h2, toks := tk2 } _ :=
      ⟨Fc0.hd, Nat.le_refl _, by show A'.units + 3 ≤ A'.units + 8; omega, rfl, rfl, rfl, IC.toInCall.ns, by
        show bindL _ [(pn, v)] _ pn = some v
        unfold bindL
        have hkd : (envOfC qual (defScope st) s1.heap.objs.size f cdv).kindOf pn = some .local := hloc
        rw [hkd]
        simp [bindL], fun b o e => kk b o (F1.base b o e), F1.md, F1.hok.kept kk, fun i y w h1 h2 h3 h4 => absurd rfl (S.nofree (y, .free) (lookup_mem' h4))⟩
    refine wpAny_execs_cons (wpAny_Return_some (wpAny_mono (he A' v r1.1 _ _ _ _ _ Fn) (fun y s3 r3 => ⟨r3.1, kp_trans (kp_trans r1.2 ⟨h2, tk2, rfl, kk⟩) r3.2⟩) fun _ _ e => e))
end
end LQ

set_option Elab.async false
set_option linter.all false
set_option maxRecDepth 100000
set_option maxHeartbeats 4000000
namespace LX
open PySem PySem.Spec PyProof.Rows L2 Evl LT LG LS
/-! ### own exceptions without arguments -/
abbrev veTail : List Value := [.type "ValueError", .type "Exception", .type "BaseException", .type "object"]
/-- an exception class of the text: its name, what the written part says of it -/
structure Xc (K : PySem.W.Frag) (mg : Str → Option Value) (nm : Str) (C : Addr) : Prop where
  g : mg nm = some (.ref C)
  x : PySem.W.excIn K C veTail "ValueError.__new__" = true
  k : PySem.W.keepIn K (.ref C) = true
  b : PySem.W.subIn K (.ref C) (.type "BaseException") = some true
  t : PySem.W.typeIn K (.ref C) = some (.type "type")
  d : PySem.W.hasDictIn K C = true
section
variable {X : Cx} {C D : Addr} {nm : Str}
theorem pmk_own0 {p pos : Pos} (T : Xc X.K X.mg nm C) (hg : Gl X nm) (hdb : (nm == ("__debug__" : Str)) = false := by decide) : PMk X (.Call (.Name nm p) [] [] pos) (fun _ H Q => Q (.ref C) none H) := by
  intro pins s σ H Q I h
  refine wpAny_Call_Name_kw (ld_glob I hg T.g ?_ hdb)
  refine PySem.W.callWith_K0 I.kIn T.k ?_
  show wpAny _ _ (call (.ref C) []) _ _ _
  obtain ⟨_, _, _, _, _, _, _, _, _, _, _, _, _, _, _, _, _, hC, hN, hni, TT⟩ := exc_obj I.kIn T.x
  refine wpAny_call_exc_subT PySem.F.excBase_ValueError TT hC hN hni (fun h' e hm => ?_) (Nat.zero_le _)
  exact mk_of I hm (raises_own T.b T.t) h (I.hok.gone hm.new)
theorem ps_raise0 {W : WX} {p pos pos2 : Pos} (hc : X.calm = true) (T : Xc X.K X.mg nm C) (tk : Takes X W) (hg : Gl X nm) (hdb : (nm == ("__debug__" : Str)) = false := by decide) : PS X (.Raise (some (.Call (.Name nm p) [] [] pos)) none pos2) (fun _ σ H => W (.ref C) none σ H) := ps_raise hc tk (pmk_own0 T hg hdb)
/-- isinstance(e, c), e what the suite holds -/
def rIsX (K : PySem.W.Frag) (D a : Addr) (cls : Value) (d : Option Addr) : List V → Hp → VK → Prop := fun xs H Q => cls = .ref D ∧ d = none ∧ rIsE K D a xs H Q
theorem call_isX {a : Addr} {oe : Obj} {cls : Value} {d : Option Addr} {pn : List (Addr × Obj)} (C : ExcC X.K D) (hz : Zc cls d oe) (hf : ∃ vs, oe.data = .fields vs) : CallR (X.suite a ((a, oe) :: pn)) (.builtin "isinstance") (rIsX X.K D a cls d) := by
  intro pins s σ H xs us Q I r h
  obtain ⟨rfl, rfl, h⟩ := h
  exact call_isE C hz hf pins s σ H xs us Q I r h
end
section
variable {K : PySem.W.Frag} {mg : Str → Option Value} {C D : Addr} {nm : Str} {b : Bool}
theorem Xc.exm (T : Xc K mg nm C) {cls : Value} (h : PySem.W.subIn K cls (.ref C) = some b) : PySem.W.exmOne K cls (.ref C) = some b := PySem.W.exm_ref T.b T.d T.t h
theorem Xc.kit (T : Xc K mg nm C) {cls : Value} (h : PySem.W.subIn K cls (.ref C) = some b) (hn : cls = .ref C → b = true) : PySem.W.kitOne K cls (.ref C) = some b := by
  have e := T.exm h
  unfold PySem.W.exmOne at e
  rw [T.b] at e
  unfold PySem.W.kitOne
  by_cases q : cls = .ref C
  · rw [hn q, q]
    simp
  · rw [if_neg (by simpa using q)]
    simpa using e
end
/-- a try whose suite returns: what the body's calls that return do, what the suite does -/
theorem ev_isX {K : PySem.W.Frag} {D a C : Addr} {σ : L2.St} {H : Hp} {ta tb : TE} {b : Bool} (h : Ev ta σ H (.ref a)) (hn : Ev tb σ H (.ref C)) (hk : PySem.W.kitOne K (.ref D) (.ref C) = some b) : Ev (tCB (rIsX K D a (.ref D) none) (tCons ta (tCons tb tNil))) σ H (.bl b) :=
  ev_cb (ea_cons h (ea_cons hn ea_nil)) fun H1 e Q q => ⟨rfl, rfl, .ref C, .ref C, b, rfl, fun u hu => hu, hk, q H1 (Ex.refl H1)⟩
theorem pass_own {X : Cx} {E : XK} (tk : Takes X (fun cls d _ H => E cls d H)) : Passes (L2.CX X.prog X.w) X E := passes_call tk fun _ _ _ _ h => h
end LX

set_option Elab.async false
set_option linter.all false
set_option maxRecDepth 100000
set_option maxHeartbeats 4000000
namespace LO
open PySem PySem.Spec PyProof.Rows L2 L2H Evl LT LG LS LX
/-! ### own objects: fields, methods, items changed -/
theorem get_list {X : Cx} : PGet X (rIxL X.K) := by
  intro pins s σ H x y v u Q I rx ry h
  obtain ⟨p, xs, i, z, rfl, rfl, hq, he, q⟩ := h
  cases rx
  obtain ⟨t, rfl⟩ := ry
  obtain ⟨its, r, pl, hz⟩ := I.list hq
  obtain ⟨j, h1, h2, h3, h4, h5⟩ := atI_get he
  obtain ⟨w, ew, rw'⟩ := r.get h2
  have hl := r.length
  have hn := line63
  have fin : EP X pins σ Q w s := ⟨z, H, I, rw', q⟩
  by_cases h0 : 0 ≤ i
  · have hj : i.toNat = j := by
      rw [seqIndex_of h0 h5] at h1
      exact Option.some.inj h1
    exact wpAny_getItem_list (Q := fun r s' => EP X pins σ Q r s') pl.isList h0 (by omega) (by rw [hj]; simpa using ew) fin
  · have hj : (i + (its.toArray.size : Int)).toNat = j := by
      rw [seqIndex_neg (by omega) h4] at h1
      rw [List.size_toArray, ← hl]
      exact Option.some.inj h1
    exact wpAny_getItem_list_neg (Q := fun r s' => EP X pins σ Q r s') pl.isList (by omega) (by rw [List.size_toArray] <;> omega) (by omega) (by rw [hj]; simpa using ew) fin
/-- o.m(e, ..), what is raised wished for at the slots -/
def tMethA (C : Addr) (m : Str) (sp : Sp) (E : L2.St → XK) (ta : TE) (t : TA) : TE := fun σ H Q => ta σ H fun x H1 => ∃ a dx fs, x = .ref a ∧ H1 a = some (.ins C dx fs) ∧ fs.lookup m = none ∧ t σ H1 fun vs H2 => sp (x :: vs) H2 Q (E σ)
section
variable {X : Cx} {CX : CXT} {k : Nat} {f C : Addr} {fd : FuncData} {ps : List Str} {sp : Sp} {E : L2.St → XK} {m : Str} {pos apos : Pos} {e o : Expr} {es : List Expr} {ta : TE} {t : TA}
theorem pe_methA {pl : Sem Bool} (he : PE X o ta) (c : Cls X.K C) (hm : Meth X.K C m f) (F : FnOk X.prog X.w X.K X.mg X.base CX k f fd ps sp) (hr : Room k X.A) (hb : Binds X.K fd ps []) (hx : ∀ σ, PassesAt CX X σ (E σ)) (ha : PA X (e :: es) t)
    (hst : starEach (e :: es) X.env = (false, eval e X.env) :: starEach es X.env := by rfl) (hpl : (backTo pos (starEach es X.env)).any (·.1) = false := by rfl)
    (ht : eval (.Call (.Attribute o m apos) (e :: es) [] pos) X.env = (do
      let ov ← eval o X.env
      standAt apos.atName
      let (f, first) ← holding [ov] (getMethod ov m pl)
      callWith pos f first (backTo pos (starEach (e :: es) X.env)) (backToKw pos (keywordEach [] X.env))) := by rfl) :
    PE X (.Call (.Attribute o m apos) (e :: es) [] pos) (tMethA C m sp E ta t) := by
  refine ⟨fun pins s σ H Q I h => ?_⟩
  refine PySem.W.methodCall_KW (pl := pl) (thn (he.run pins s σ H _ I h) fun u s1 ⟨x, H1, I1, rx, a, dx, fs, ex, ea, l, q⟩ => ?_) ht
  subst ex
  obtain rfl : u = Value.ref a := rx
  refine getmeth_ok I1 ea c hm l ?_
  refine PySem.W.callWith_K (first := [.ref a]) (h₀ := X.base) I.ok.mod.kin hm.kp (thn (ha.run pos pins s1 σ H1 _ I1 q) fun us s2 ⟨vs, H2, I2, r, q2⟩ => ⟨I2.kIn, ?_⟩) hst hpl
  exact run_fnS (us := .ref a :: us) (vs := .ref a :: vs) F hr hb (hx σ) I2 (.cons rfl r) q2
theorem pe_methA0 {pl : Sem Bool} (he : PE X o ta) (c : Cls X.K C) (hm : Meth X.K C m f) (F : FnOk X.prog X.w X.K X.mg X.base CX k f fd ps sp) (hr : Room k X.A) (hb : Binds X.K fd ps []) (hx : ∀ σ, PassesAt CX X σ (E σ))
    (ht : eval (.Call (.Attribute o m apos) [] [] pos) X.env = (do
      let ov ← eval o X.env
      standAt apos.atName
      let (f, first) ← holding [ov] (getMethod ov m pl)
      callWith pos f first (backTo pos (starEach [] X.env)) (backToKw pos (keywordEach [] X.env))) := by rfl) :
    PE X (.Call (.Attribute o m apos) [] [] pos) (tMethA C m sp E ta tNil) := by
  refine ⟨fun pins s σ H Q I h => ?_⟩
  refine PySem.W.methodCall_KW (pl := pl) (thn (he.run pins s σ H _ I h) fun u s1 ⟨x, H1, I1, rx, a, dx, fs, ex, ea, l, q⟩ => ?_) ht
  subst ex
  obtain rfl : u = Value.ref a := rx
  refine getmeth_ok I1 ea c hm l ?_
  exact PySem.W.callWith_K0 (first := [.ref a]) I1.kIn hm.kp (run_fnS (us := [.ref a]) (vs := [.ref a]) F hr hb (hx σ) I1 (.cons rfl .nil) q)
end
/-! ### a def that is handed the caught exception, within the suite -/
structure FnE (P : Program) (w : World) (K : PySem.W.Frag) (mg : Str → Option Value) (base : Heap) (CX : CXT) (k : Nat) (f : Addr) (fd : FuncData) (ps : List Str) (sp : Addr → Addr → Sp) : Prop where
  len : ∀ D a vs H Q E, sp D a vs H Q E → vs.length = ps.length
  run : ∀ (A : Around) (outer : List Env) (s : Shared) (H : Hp) (args : Args) (us : List Value) (vs : List V) (Q : VK) (E : XK) (p : Addr × Obj) (D : Addr), RoomH k A → Zc (.ref D) none p.2 → (∃ vs, p.2.data = .fields vs) → PinOk outer H s p → Env0 P w K mg base A outer s H → BindsTo s fd args (ps.zip us) → Vals vs us → sp D p.1 vs H Q E →
    codeAny (model P w) A (.call (.ref f) args) (CR CX outer P w H s Q E) s
theorem fn_ofE {CX : CXT} {P : Program} {w : World} {K : PySem.W.Frag} {mg : Str → Option Value} {base : Heap} {k : Nat} {f : Addr} {name qual : Str} {params : Arguments} {body : List Stmt} {scope : Scope} {dV kV doc pm cdv ct oc : Value} {an od : Option Addr}
    {osl : Array (Option Value)} {N ps : List Str} {sp : Addr → Addr → Sp} (lk : K.lookup f = some ⟨oc, od, .func (PySem.W.fnOf name qual params body scope dV kV doc pm an cdv ct), osl⟩) (hcd : PySem.W.codeIn K cdv qual = true) (S : FnScope N ps scope)
    (len : ∀ D a vs H Q E, sp D a vs H Q E → vs.length = ps.length)
    (hbody : ∀ (A : Around) (outer : List Env) (s : Shared) (H : Hp) (vs : List V) (Q : VK) (E : XK) (p : Addr × Obj) (D : Addr), RoomH k (A.deeper (envOfC qual scope s.heap.objs.size f cdv)) → Zc (.ref D) none p.2 → (∃ vs, p.2.data = .fields vs) → sp D p.1 vs H Q E →
      ∃ t, PSs (cxH CX P w K mg base N qual scope f cdv A outer s H E p) body t ∧ t { nx := fun _ H' => Q .non H', rt := Q } (L2.start N vs) H) :
    FnE P w K mg base CX (k + 1) f (PySem.W.fnOf name qual params body scope dV kV doc pm an cdv ct) ps sp := by
  refine ⟨len, fun A outer s H args us vs Q E p D hr hz hf hpin e0 hb r hsp => ?_⟩
  have hl := len _ _ _ _ _ _ hsp
  have KX : K.In s.heap := e0.mod.kin.keeps fun b o e => (e0.bs b o e).1
  have lim : s.heap.NoLimit := e0.mod.nolimit.keeps fun b o e => (e0.bs b o e).1
  have hkind : ∀ y ∈ ps.zip us, scope.names.lookup y.1 = some .local ∨ (scope.names.lookup y.1 = some .cell ∧ ((cellsFrom (s.heap.objs.size + 1) scope.names []).lookup y.1).isSome = true) := fun ⟨n, v⟩ hy => by
    rcases S.par n (List.of_mem_zip hy).1 with q | q
    · exact .inl q
    · exact .inr ⟨q, PySem.W.cellsFrom_some _ _ _ (.inl q)⟩
  refine codeAny_call_function hr.depth (KX _ _ lk) rfl S.co S.gen rfl (PySem.W.codeRec_of KX hcd) (hb _ _ _ _ ?_)
  refine wpAny_newFunctionEnv_cells S.kind hkind fun env he s1 x => ?_
  subst he
  refine ⟨lim.keeps x.toInCall.keep, codeAny_func ?_⟩
  obtain ⟨t, ht, hq⟩ := hbody A outer s H vs Q E p D (hr.deeper _) hz hf hsp
  have I : Inv (cxH CX P w K mg base N qual scope f cdv A outer s H E p) [] (L2.start N vs) H s1 := inv_startH S hpin e0 hl r x
  refine wpAny_mono (ht.run [] s1 (L2.start N vs) H _ I hq) (fun fl s' hs => ?_) fun e s' hs => hs
  have fin : ∀ {σ' : L2.St} {H' : Hp} {v : V} {u : Value}, Inv (cxH CX P w K mg base N qual scope f cdv A outer s H E p) [] σ' H' s' → RelV v u → Q v H' → CE outer P w H s Q u s' :=
    fun {σ' H' v u} J rv q => ⟨v, H', J.os, J.bare, J.base, J.hok, rv, q⟩
  cases fl with
  | ret u =>
    obtain ⟨v, σ', H', J, rv, q⟩ := hs
    exact fin J rv q
  | next =>
    obtain ⟨σ', H', J, q⟩ := hs
    exact fin (v := V.non) (u := Value.none) J rfl q
  | brk =>
    obtain ⟨_, _, _, q⟩ := hs
    exact False.elim q
  | cont =>
    obtain ⟨_, _, _, q⟩ := hs
    exact False.elim q
section
variable {P : Program} {w : World} {K : PySem.W.Frag} {mg : Str → Option Value} {base : Heap}
theorem okE {x qual : Str} {st : Stmt} {f : Addr} {fd : FuncData} {N ps : List Str} {k : Nat} {sp : Addr → Addr → Sp} (F : Fun K x qual st f fd) (S : FnScope N ps (defScope st)) (len : ∀ D a vs H Q E, sp D a vs H Q E → vs.length = ps.length)
    (hbody : ∀ (cdv : Value) (A : Around) (outer : List Env) (s : Shared) (H : Hp) (vs : List V) (Q : VK) (E : XK) (p : Addr × Obj) (D : Addr), RoomH k (A.deeper (envOfC qual (defScope st) s.heap.objs.size f cdv)) → Zc (.ref D) none p.2 → (∃ vs, p.2.data = .fields vs) → sp D p.1 vs H Q E →
      ∃ t, PSs (cxH CX0 P w K mg base N qual (defScope st) f cdv A outer s H E p) (defBody st) t ∧ t { nx := fun _ H' => Q .non H', rt := Q } (L2.start N vs) H) : FnE P w K mg base CX0 (k + 1) f fd ps sp := by
  obtain ⟨oc, od, kV, doc, pm, an, cdv, ct, osl, rfl, lk, hcd⟩ := F.ex
  exact fn_ofE lk hcd S len fun A outer s H vs Q E p D hr hz hf hsp => hbody cdv A outer s H vs Q E p D hr hz hf hsp
end
def tCallE (sp : Addr → Addr → Sp) (cls : Value) (d : Option Addr) (a : Addr) (E : L2.St → XK) (t : TA) : TE := fun σ H Q => t σ H fun vs H1 => ∃ D, cls = .ref D ∧ d = none ∧ sp D a vs H1 Q (E σ)
section
variable {X : Cx} {CX : CXT} {k : Nat} {f : Addr} {fd : FuncData} {ps : List Str} {sp : Addr → Addr → Sp} {E : L2.St → XK} {x : Str} {q pos : Pos} {e : Expr} {es : List Expr} {t : TA} {a : Addr} {oe : Obj} {cls : Value} {d : Option Addr} {pn : List (Addr × Obj)}
theorem pass0E {X : Cx} {σ : L2.St} {E : XK} : PassesAt CX0 X σ E := fun _ _ _ _ _ _ h => h.elim
theorem pe_callE (hz : Zc cls d oe) (hf : ∃ vs, oe.data = .fields vs) (F : FnE X.prog X.w X.K X.mg X.base CX k f fd ps sp) (hr : Room k X.A) (hg : Gl (X.suite a ((a, oe) :: pn)) x) (hm : X.mg x = some (.ref f)) (hk : PySem.W.keepIn X.K (.ref f) = true) (hb : Binds X.K fd ps []) (hx : ∀ σ, PassesAt CX (X.suite a ((a, oe) :: pn)) σ (E σ))
    (ha : PA (X.suite a ((a, oe) :: pn)) (e :: es) t) (hdb : (x == ("__debug__" : Str)) = false := by decide) (he : starEach (e :: es) X.env = (false, eval e X.env) :: starEach es X.env := by rfl) (hpl : (backTo pos (starEach es X.env)).any (·.1) = false := by rfl) :
    PE (X.suite a ((a, oe) :: pn)) (.Call (.Name x q) (e :: es) [] pos) (tCallE sp cls d a E t) := by
  refine ⟨fun pins s σ H Q I h => ?_⟩
  refine wpAny_Call_Name_kw (ld_glob I hg hm ?_ hdb)
  refine PySem.W.callWith_K (h₀ := X.base) I.ok.mod.kin hk (thn (ha.run pos pins s σ H _ I h) fun us s1 ⟨vs, H1, I1, r, q⟩ => ⟨I1.kIn, ?_⟩) he hpl
  obtain ⟨D, rfl, rfl, q⟩ := q
  have hl : us.length = ps.length := by rw [← r.length]; exact F.len _ _ _ _ _ _ q
  have b := hb s1 us I1.kIn (by rw [List.append_nil]; exact hl)
  rw [List.append_nil] at b
  have P1 := I1.pin (a, oe) (List.mem_append_left _ List.mem_cons_self)
  have hpin : PinOk X.stack H1 s1 (a, oe) := ⟨P1.1, P1.2.1, fun hm => (List.mem_cons.mp (I1.stkSub a hm)).elim P1.2.2.1 P1.2.2.2.1, P1.2.2.2.2⟩
  refine wpAny_call (codeAny_mono (F.run _ X.stack s1 H1 ⟨us, []⟩ us vs Q (E σ) (a, oe) D ⟨hr.dp, hr.un⟩ hz hf hpin I1.env0 b r q) fun r s' hq => ?_)
  cases r with
  | error e => exact hx σ pins H1 s1 e s' I1 hq
  | ok fl =>
    cases fl with
    | ret u => exact I1.after hq
    | next => exact False.elim hq
    | brk => exact False.elim hq
    | cont => exact False.elim hq
end
/-- isinstance(e, c), e the exception that is handed in -/
def rIsP (K : PySem.W.Frag) (D a : Addr) : List V → Hp → VK → Prop := fun xs H Q => ExcC K D ∧ rIsE K D a xs H Q
theorem call_isP {X : Cx} {D : Addr} {p : Addr × Obj} (hp : p ∈ X.pn) (hz : Zc (.ref D) none p.2) (hf : ∃ vs, p.2.data = .fields vs) : CallR X (.builtin "isinstance") (rIsP X.K D p.1) := by
  intro pins s σ H xs us Q I r h
  obtain ⟨C, c, cv, b, rfl, hcv, e, q⟩ := h
  cases r with
  | cons rx rr =>
    cases rr with
    | cons rt rr =>
      cases rr
      cases rx
      have ec := hcv _ rt
      subst ec
      obtain ⟨hget, _⟩ := I.pin p (List.mem_append.mpr (.inl hp))
      obtain ⟨vs, hv⟩ := hf
      have J : PySem.W.InstAt s.heap p.1 p.2 D none := by
        obtain ⟨a, oc, od, oda, osl⟩ := p
        obtain ⟨h1, h2⟩ := hz
        dsimp only at h1 h2 hv hget ⊢
        subst h1 h2 hv
        exact ⟨hget, rfl, rfl, trivial⟩
      exact PySem.W.kia_one (PySem.W.handS_kitx_exc C.hg C.hk C.hs C.hd C.ha C.hn C.ht C.hm) I.kIn J e (fun z => nomatch z) fun tk => ⟨.bl b, H, I.kept (t' := tk) fun _ _ z => z, rfl, q⟩
theorem ev_isP {K : PySem.W.Frag} {D a C : Addr} {σ : L2.St} {H : Hp} {ta tb : TE} {b : Bool} (hC : ExcC K D) (h : Ev ta σ H (.ref a)) (hn : Ev tb σ H (.ref C)) (hk : PySem.W.kitOne K (.ref D) (.ref C) = some b) : Ev (tCB (rIsP K D a) (tCons ta (tCons tb tNil))) σ H (.bl b) :=
  ev_cb (ea_cons h (ea_cons hn ea_nil)) fun H1 e Q q => ⟨hC, .ref C, .ref C, b, rfl, fun u hu => hu, hk, q H1 (Ex.refl H1)⟩
/-- isinstance in the suite, the class open -/
def rIsQ (K : PySem.W.Frag) (a : Addr) (cls : Value) (d : Option Addr) : List V → Hp → VK → Prop := fun xs H Q => ∃ D, cls = .ref D ∧ d = none ∧ ExcC K D ∧ rIsE K D a xs H Q
theorem call_isQ {X : Cx} {a : Addr} {oe : Obj} {cls : Value} {d : Option Addr} {pn : List (Addr × Obj)} (hz : Zc cls d oe) (hf : ∃ vs, oe.data = .fields vs) : CallR (X.suite a ((a, oe) :: pn)) (.builtin "isinstance") (rIsQ X.K a cls d) := by
  intro pins s σ H xs us Q I r h
  obtain ⟨D, rfl, rfl, C, h⟩ := h
  exact call_isE C hz hf pins s σ H xs us Q I r h
theorem ev_isQ {K : PySem.W.Frag} {D a C : Addr} {σ : L2.St} {H : Hp} {ta tb : TE} {b : Bool} (hC : ExcC K D) (h : Ev ta σ H (.ref a)) (hn : Ev tb σ H (.ref C)) (hk : PySem.W.kitOne K (.ref D) (.ref C) = some b) : Ev (tCB (rIsQ K a (.ref D) none) (tCons ta (tCons tb tNil))) σ H (.bl b) :=
  ev_cb (ea_cons h (ea_cons hn ea_nil)) fun H1 e Q q => ⟨D, rfl, rfl, hC, .ref C, .ref C, b, rfl, fun u hu => hu, hk, q H1 (Ex.refl H1)⟩
theorem el_is {te : TE} {σ : L2.St} {H : Hp} {xs ys : List V} (h : EvL te σ H xs) (e : xs = ys) : EvL te σ H ys := by
  rw [← e]
  exact h
theorem rv_isN {H : Hp} {x : V} : RV (fun x y H Q => y = .non ∧ Q (.bl (decide (x = .non))) H) x .non H (.bl (decide (x = .non))) := rv_val fun _ _ Q q => ⟨rfl, q⟩
theorem rv_notN {H : Hp} {x : V} : RV (fun x y H Q => y = .non ∧ Q (.bl (!decide (x = .non))) H) x .non H (.bl (!decide (x = .non))) := rv_val fun _ _ Q q => ⟨rfl, q⟩
/-- a call, then a new instance by its __init__ -/
theorem q_make {C : Addr} {sp : Sp} {σ : L2.St} {H : Hp} {t : TA} {vs : List V} {E : XK} {i : Nat} {tz : TS} {D : Ends} (ht : EvA t σ H vs) (k : ∀ p dx H1 H2, H p = none → H1 p = none → Ex H H1 → H2 p = some (.ins C dx []) → Ex H1 H2 → sp (.ref p :: vs) H2 (fun v H3 => v = .non ∧ tz D (σ.set i (some (.ref p))) H3) E) : tSeq (tAsg (tMake C sp [] E t) (gName i)) tz D σ H :=
  ht H (Ex.refl _) _ fun H1 e1 p dx hp hd hne => by
    have h := k p dx H1 (upd (upd H1 dx (.own p)) p (.ins C dx [])) (fresh_back e1 hp) hp e1 upd_same ((Ex.new hd).mut hp)
    rw [show V.ref p :: (vs ++ []) = V.ref p :: vs by rw [List.append_nil]]
    exact h
/-- runs of a call -/
theorem q_run {sp : Sp} {σ : L2.St} {H : Hp} {tr : TA} {vs : List V} {E : XK} {tz : TS} {D : Ends} {i : Nat} (h : EvA tr σ H vs) (k : ∀ H1, Ex H H1 → sp vs H1 (fun v H2 => tz D (σ.set i (some v)) H2) E) : tSeq (tAsg (tCall sp [] E tr) (gName i)) tz D σ H := h H (Ex.refl H) _ fun H1 e => by
    rw [List.append_nil]
    exact k H1 e
/-! ### what fields and methods evaluate to -/
section
variable {K : PySem.W.Frag} {σ : L2.St} {H : Hp} {ta tb te : TE} {t : TA} {v z : V} {C p dx : Addr} {fs : List (Str × V)} {m : Str} {sp : Sp} {vs : List V} {tz : TS} {D : Ends}
theorem ev_fld (ha : Ev ta σ H (.ref p)) (hi : H p = some (.ins C dx fs)) (c : Cls K C) (n : NoAttr K C m) (hl : fs.lookup m = some v) : Ev (tFld K ta m) σ H v := fun H1 e Q q =>
  ha H1 e _ fun H2 e2 => ⟨p, C, dx, fs, v, rfl, e2 _ _ (e _ _ hi), c, n, hl, q H2 e2⟩
theorem ev_meth {E : XK} (ha : Ev ta σ H (.ref p)) (hi : H p = some (.ins C dx fs)) (hl : fs.lookup m = none) (ht : EvA t σ H vs) (hs : SpV sp (.ref p :: vs) H z) : Ev (tMeth C m sp [] E ta t) σ H z := fun H1 e Q q =>
  ha H1 e _ fun H2 e2 => ⟨p, dx, fs, rfl, e2 _ _ (e _ _ hi), hl, ht H2 (e.trans e2) _ fun H3 e3 => by
    rw [List.append_nil]
    exact hs H3 ((e.trans e2).trans e3) Q (fun H4 e4 => q H4 ((e2.trans e3).trans e4)) E⟩
theorem ev_meth0 {E : XK} (ha : Ev ta σ H (.ref p)) (hi : H p = some (.ins C dx fs)) (hl : fs.lookup m = none) (hs : SpV sp [.ref p] H z) : Ev (tMeth C m sp [] E ta tNil) σ H z := ev_meth ha hi hl ea_nil hs
/-- a method that changes something: its own promise, then the rest -/
theorem m_run {E : XK} {Q : VK} (ha : Ev ta σ H (.ref p)) (hi : H p = some (.ins C dx fs)) (hl : fs.lookup m = none) (ht : EvA t σ H vs) (k : ∀ H1, Ex H H1 → sp (.ref p :: vs) H1 Q E) : tMeth C m sp [] E ta t σ H Q :=
  ha H (Ex.refl _) _ fun H2 e2 => ⟨p, dx, fs, rfl, e2 _ _ hi, hl, ht H2 e2 _ fun H3 e3 => by
    rw [List.append_nil]
    exact k H3 (e2.trans e3)⟩
theorem mA_run {E : L2.St → XK} {Q : VK} (ha : Ev ta σ H (.ref p)) (hi : H p = some (.ins C dx fs)) (hl : fs.lookup m = none) (ht : EvA t σ H vs) (k : ∀ H1, Ex H H1 → sp (.ref p :: vs) H1 Q (E σ)) : tMethA C m sp E ta t σ H Q :=
  ha H (Ex.refl _) _ fun H2 e2 => ⟨p, dx, fs, rfl, e2 _ _ hi, hl, ht H2 e2 _ fun H3 e3 => k H3 (e2.trans e3)⟩
theorem q_m {E : XK} (ha : Ev ta σ H (.ref p)) (hi : H p = some (.ins C dx fs)) (hl : fs.lookup m = none) (ht : EvA t σ H vs) (k : ∀ H1, Ex H H1 → sp (.ref p :: vs) H1 (fun _ H2 => tz D σ H2) E) : tSeq (tDrop (tMeth C m sp [] E ta t)) tz D σ H := m_run (Q := fun _ H2 => tz D σ H2) ha hi hl ht k
theorem s_m {E : XK} (ha : Ev ta σ H (.ref p)) (hi : H p = some (.ins C dx fs)) (hl : fs.lookup m = none) (ht : EvA t σ H vs) (k : ∀ H1, Ex H H1 → sp (.ref p :: vs) H1 (fun _ H2 => D.nx σ H2) E) : tDrop (tMeth C m sp [] E ta t) D σ H := m_run (Q := fun _ H2 => D.nx σ H2) ha hi hl ht k
theorem r_m {E : XK} (ha : Ev ta σ H (.ref p)) (hi : H p = some (.ins C dx fs)) (hl : fs.lookup m = none) (ht : EvA t σ H vs) (k : ∀ H1, Ex H H1 → sp (.ref p :: vs) H1 D.rt E) : tRet (tMeth C m sp [] E ta t) D σ H := m_run (Q := D.rt) ha hi hl ht k
theorem q_mA {i : Nat} {E : XK} (ha : Ev ta σ H (.ref p)) (hi : H p = some (.ins C dx fs)) (hl : fs.lookup m = none) (ht : EvA t σ H vs) (k : ∀ H1, Ex H H1 → sp (.ref p :: vs) H1 (fun v H2 => tz D (σ.set i (some v)) H2) E) : tSeq (tAsg (tMeth C m sp [] E ta t) (gName i)) tz D σ H := m_run (Q := fun v H2 => tz D (σ.set i (some v)) H2) ha hi hl ht k
/-- the same in a try's body -/
theorem r_mA {E : L2.St → XK} (ha : Ev ta σ H (.ref p)) (hi : H p = some (.ins C dx fs)) (hl : fs.lookup m = none) (ht : EvA t σ H vs) (k : ∀ H1, Ex H H1 → sp (.ref p :: vs) H1 D.rt (E σ)) : tRet (tMethA C m sp E ta t) D σ H := mA_run (Q := D.rt) ha hi hl ht k
theorem q_mAD {E : L2.St → XK} (ha : Ev ta σ H (.ref p)) (hi : H p = some (.ins C dx fs)) (hl : fs.lookup m = none) (ht : EvA t σ H vs) (k : ∀ H1, Ex H H1 → sp (.ref p :: vs) H1 (fun _ H2 => tz D σ H2) (E σ)) : tSeq (tDrop (tMethA C m sp E ta t)) tz D σ H := mA_run (Q := fun _ H2 => tz D σ H2) ha hi hl ht k
theorem q_mAA {i : Nat} {E : L2.St → XK} (ha : Ev ta σ H (.ref p)) (hi : H p = some (.ins C dx fs)) (hl : fs.lookup m = none) (ht : EvA t σ H vs) (k : ∀ H1, Ex H H1 → sp (.ref p :: vs) H1 (fun v H2 => tz D (σ.set i (some v)) H2) (E σ)) : tSeq (tAsg (tMethA C m sp E ta t) (gName i)) tz D σ H := mA_run (Q := fun v H2 => tz D (σ.set i (some v)) H2) ha hi hl ht k
/-- o.f = e -/
theorem s_fld (hv : Ev te σ H v) (ha : Ev ta σ H (.ref p)) (hi : H p = some (.ins C dx fs)) (c : Cls K C) (n : NoAttr K C m) (hz : fs.length < 1000) (k : ∀ H1, Ex H H1 → D.nx σ (upd H1 p (.ins C dx (putF m v fs)))) : sFld K ta te m D σ H :=
  hv H (Ex.refl _) _ fun H1 e1 => ha H1 e1 _ fun H2 e2 => ⟨p, C, dx, fs, rfl, e2 _ _ (e1 _ _ hi), c, n, hz, k H2 (e1.trans e2)⟩
theorem s_fldL {xs : List V} (hv : EvL te σ H xs) (ha : Ev ta σ H (.ref p)) (hi : H p = some (.ins C dx fs)) (c : Cls K C) (n : NoAttr K C m) (hz : fs.length < 1000) (k : ∀ l H1, H l = none → Ex H H1 → H1 l = some (.lst xs) → D.nx σ (upd H1 p (.ins C dx (putF m (.ref l) fs)))) : sFld K ta te m D σ H :=
  hv H (Ex.refl _) _ fun l H1 hl e1 h1 => ha H1 e1 _ fun H2 e2 => ⟨p, C, dx, fs, rfl, e2 _ _ (e1 _ _ hi), c, n, hz, k l H2 hl (e1.trans e2) (e2 _ _ h1)⟩
theorem q_fld (hv : Ev te σ H v) (ha : Ev ta σ H (.ref p)) (hi : H p = some (.ins C dx fs)) (c : Cls K C) (n : NoAttr K C m) (hz : fs.length < 1000) (k : ∀ H1, Ex H H1 → tz D σ (upd H1 p (.ins C dx (putF m v fs)))) : tSeq (sFld K ta te m) tz D σ H := s_fld (D := { D with nx := tz D }) hv ha hi c n hz k
theorem q_fldL {xs : List V} (hv : EvL te σ H xs) (ha : Ev ta σ H (.ref p)) (hi : H p = some (.ins C dx fs)) (c : Cls K C) (n : NoAttr K C m) (hz : fs.length < 1000) (k : ∀ l H1, H l = none → Ex H H1 → H1 l = some (.lst xs) → tz D σ (upd H1 p (.ins C dx (putF m (.ref l) fs)))) : tSeq (sFld K ta te m) tz D σ H := s_fldL (D := { D with nx := tz D }) hv ha hi c n hz k
/-- xs[j] += e -/
theorem s_augL {f : Int → Int → Int} {l : Addr} {xs : List V} {j : Nat} {a b : Int} (ho : Ev ta σ H (.ref l)) (hi : Ev tb σ H (.int (j : Int))) (hl : H l = some (.lst xs)) (hj : xs[j]? = some (.int a)) (he : Ev te σ H (.int b)) (k : ∀ H1, Ex H H1 → D.nx σ (upd H1 l (.lst (xs.set j (.int (f a b)))))) :
    tAugS ta tb te (rIxL K) (ipI f) rSetL D σ H := ho H (Ex.refl _) _ fun H1 e1 => hi H1 e1 _ fun H2 e2 => ⟨l, xs, (j : Int), .int a, rfl, rfl, sq_of (e2 _ _ (e1 _ _ hl)), atI_nat hj, he H2 (e1.trans e2) _ fun H3 e3 => ⟨a, b, rfl, rfl, l, xs, (j : Int), j, rfl, rfl, e3 _ _ (e2 _ _ (e1 _ _ hl)), ixN_nat (List.getElem?_eq_some_iff.mp hj).1, k H3 ((e1.trans e2).trans e3)⟩⟩
theorem q_augL {f : Int → Int → Int} {l : Addr} {xs : List V} {j : Nat} {a b : Int} (ho : Ev ta σ H (.ref l)) (hi : Ev tb σ H (.int (j : Int))) (hl : H l = some (.lst xs)) (hj : xs[j]? = some (.int a)) (he : Ev te σ H (.int b)) (k : ∀ H1, Ex H H1 → tz D σ (upd H1 l (.lst (xs.set j (.int (f a b)))))) :
    tSeq (tAugS ta tb te (rIxL K) (ipI f) rSetL) tz D σ H := s_augL (D := { D with nx := tz D }) ho hi hl hj he k
end
/-! ### heaps in which the objects of S may change -/
def Fr (S : Addr → Prop) (H H' : Hp) : Prop := ∀ a o, H a = some o → ¬ S a → H' a = some o
theorem Fr.of {S : Addr → Prop} {H H' : Hp} (e : Ex H H') : Fr S H H' := fun a o h _ => e a o h
theorem Fr.trans {S : Addr → Prop} {H H1 H2 : Hp} (e : Fr S H H1) (f : Fr S H1 H2) : Fr S H H2 := fun a o h n => f a o (e a o h n) n
theorem Fr.mut {S : Addr → Prop} {H H' : Hp} {p : Addr} {o : HO} (e : Fr S H H') (h : S p) : Fr S H (upd H' p o) := fun a u ha n => by
  rw [upd_ne fun z => n (by rw [z]; exact h)]
  exact e a u ha n
theorem Fr.fresh {S : Addr → Prop} {H H' : Hp} {p : Addr} (e : Fr S H H') (h : H' p = none) (n : ¬ S p) : H p = none := by
  cases h1 : H p with
  | none => rfl
  | some o =>
    rw [e p o h1 n] at h
    cases h
/-- what H0 has stays, when what changes is none of it -/
theorem Fr.ex {S : Addr → Prop} {H0 H H' : Hp} (e : Ex H0 H) (f : Fr S H H') (n : ∀ a, S a → H0 a = none) : Ex H0 H' := fun a o h => f a o (e a o h) fun s => by
  rw [n a s] at h
  cases h
/-- what is read stands when an instance changes -/
theorem mut_l {K : PySem.W.Frag} {H H1 : Hp} {p C dx a : Addr} {fs fs' : List (Str × V)} {xs : List V} (e : Ex H H1) (hp : H p = some (.ins C dx fs)) (h : SqL K H a xs) : SqL K (upd H1 p (.ins C dx fs')) a xs := by
  rcases h with (h | ⟨o, h⟩) | h
  · exact .inl (.inl (by rw [upd_ne (ne_of h hp (by intro z; cases z))]; exact e _ _ h))
  · exact .inl (.inr ⟨o, by rw [upd_ne (ne_of h hp (by intro z; cases z))]; exact e _ _ h⟩)
  · exact .inr h
theorem mut_t {K : PySem.W.Frag} {H H1 : Hp} {p C dx a : Addr} {fs fs' : List (Str × V)} {xs : List V} (e : Ex H H1) (hp : H p = some (.ins C dx fs)) (h : SqT K H a xs) : SqT K (upd H1 p (.ins C dx fs')) a xs := by
  rcases h with (h | ⟨o, h⟩) | h
  · exact .inl (.inl (by rw [upd_ne (ne_of h hp (by intro z; cases z))]; exact e _ _ h))
  · exact .inl (.inr ⟨o, by rw [upd_ne (ne_of h hp (by intro z; cases z))]; exact e _ _ h⟩)
  · exact .inr h
/-- list(a tuple) -/
theorem el_listT {K : PySem.W.Frag} {σ : L2.St} {H : Hp} {ta : TE} {p : Addr} {xs : List V} (ha : Ev ta σ H (.ref p)) (h : SqT K H p xs) : EvL (tCB (rListS K) (tCons ta tNil)) σ H xs := fun H1 e Q q =>
  ha H1 e _ fun H2 e2 => ⟨p, xs, rfl, Or.inr (ex_t (e.trans e2) h), fun l hl => q l _ (fresh_back e2 hl) (e2.trans (Ex.new hl)) upd_same⟩
/-! ### comprehensions over two lists at once -/
theorem el_lcZ {K : PySem.W.Frag} {σ : L2.St} {H : Hp} {a b : Addr} {xs ys : List V} {t : TA} {tt : TT} {te : TE} {i j : Nat} {vs : List Nat} (f : Nat → Bool) (v : Nat → V) (h : EvA t σ H [.ref a, .ref b]) (hx : SqL K H a xs) (hy : SqL K H b ys) (hlen : xs.length = ys.length) (hz : xs.length ≤ 40000)
    (hw : ∀ x y, wipe (((wipe σ vs).set i (some x)).set j (some y)) vs = wipe σ vs)
    (ht : ∀ (n : Nat) (x y : V) H1, Ex H H1 → xs[n]? = some x → ys[n]? = some y → EvT tt (((wipe σ vs).set i (some x)).set j (some y)) H1 (f n)) (he : ∀ (n : Nat) (x y : V) H1, Ex H H1 → xs[n]? = some x → ys[n]? = some y → f n = true → Ev te (((wipe σ vs).set i (some x)).set j (some y)) H1 (v n)) :
    EvL (tLc (iZip K t) (gTup K 2 (gCons (gName i) (gCons (gName j) gNil))) tt te vs) σ H (given xs.length f v) := fun H0 e Q q => h H0 e _ fun H1 e1 => ⟨a, b, xs, ys, rfl, ex_l (e.trans e1) hx, ex_l (e.trans e1) hy, fun Dl hD =>
  lc_it (walk_zip (K := K) (a := a) (b := b) (xs := xs) (ys := ys) (n := xs.length) (by omega)) (Cw H1 f v Dl) ⟨hD, Ex.new hD, upd_same⟩ (fun i H' _ p => ⟨ex_l ((e.trans e1).trans p.2.1) hx, ex_l ((e.trans e1).trans p.2.1) hy⟩)
    (fun n z H2 H2' hn p y => by
      obtain ⟨T, x1, y1, rfl, hT, rfl, h1, h2⟩ := y
      have p' : Cw H1 f v Dl n (upd H2 T (.tup [x1, y1])) := ⟨p.1, p.2.1.trans (Ex.new hT), (Ex.new hT) _ _ p.2.2⟩
      have e2 := ((e.trans e1).trans p'.2.1)
      refine ⟨T, _, rfl, st_of upd_same, rfl, _, _, rfl, _, _, rfl, rfl, hw x1 y1, cw_turn (H := H1) p' (by omega) ?_ ?_⟩
      · exact ht n x1 y1 H1 (e.trans e1) h1 h2
      · exact fun hf => he n x1 y1 H1 (e.trans e1) h1 h2 hf)
    (fun H' p => q Dl H' (fresh_back e1 p.1) (e1.trans p.2.1) p.2.2)⟩
end LO

set_option Elab.async false
set_option linter.all false
set_option maxRecDepth 100000
set_option maxHeartbeats 4000000
namespace LK
open PySem PySem.Spec PyProof.Rows L2 Evl

/-! ### data that == serves -/
def Sh (n : Nat) (d : PyData) : Prop := d.canLay0 = true ∧ d.depth ≤ n
theorem sh_int (i : Int) (n : Nat := 0) : Sh n (.int i) := ⟨by simp [PyData.canLay0], by simp [PyData.depth]⟩
theorem sh_bool (b : Bool) (n : Nat := 0) : Sh n (.bool b) := ⟨by simp [PyData.canLay0], by simp [PyData.depth]⟩
theorem sh_none (n : Nat := 0) : Sh n .none := ⟨by simp [PyData.canLay0], by simp [PyData.depth]⟩
theorem sh_all {n : Nat} : ∀ {ds : List PyData}, (∀ d ∈ ds, Sh n d) → PyData.canLayAll0 ds = true ∧ PyData.depthAll ds ≤ n
  | [], _ => ⟨by simp [PyData.canLayAll0], by simp [PyData.depthAll]⟩
  | d :: ds, h => by
    obtain ⟨h1, h2⟩ := h d List.mem_cons_self
    obtain ⟨h3, h4⟩ := sh_all fun e he => h e (List.mem_cons_of_mem _ he)
    refine ⟨?_, ?_⟩
    · rw [PyData.canLayAll0, h1, h3]
      rfl
    · rw [PyData.depthAll]
      omega
theorem sh_tup {n : Nat} {ds : List PyData} (h : ∀ d ∈ ds, Sh n d) : Sh (n + 1) (.tuple ds) := by
  obtain ⟨h1, h2⟩ := sh_all h
  refine ⟨?_, ?_⟩
  · rw [PyData.canLay0]
    exact h1
  · rw [PyData.depth]
    omega
theorem sh_lst {n : Nat} {ds : List PyData} (h : ∀ d ∈ ds, Sh n d) : Sh (n + 1) (.list ds) := by
  obtain ⟨h1, h2⟩ := sh_all h
  refine ⟨?_, ?_⟩
  · rw [PyData.canLay0]
    exact h1
  · rw [PyData.depth]
    omega
theorem Sh.up {n m : Nat} {d : PyData} (h : Sh n d) (e : n ≤ m) : Sh m d := ⟨h.1, Nat.le_trans h.2 e⟩
theorem Sh.shaped {n : Nat} {d : PyData} (h : Sh n d) (e : n ≤ 64) : SeqAt.shaped d = true := by
  unfold SeqAt.shaped
  rw [h.1, decide_eq_true (Nat.le_trans h.2 e)]
  rfl
theorem Sh.refl {n : Nat} {d : PyData} (h : Sh n d) : PyData.eqv d d = true := SeqAt.eqv_refl d h.1
theorem sh_ints (ns : List Int) : ∀ d ∈ ns.map PyData.int, Sh 0 d := fun d hd => by
  obtain ⟨i, _, rfl⟩ := List.mem_map.mp hd
  exact sh_int i
section
variable {K : PySem.W.Frag} {H H' : Hp}
theorem dp_ints : ∀ ns : List Int, DpAll K H (ns.map V.int) (ns.map PyData.int)
  | [] => .nil
  | n :: r => .cons (.int n) (dp_ints r)
mutual
theorem dp_mono (e : Ex H H') : ∀ {v : V} (d : PyData), Dp K H v d → Dp K H' v d
  | _, .none, h => by cases h; exact .non
  | _, .bool b, h => by cases h; exact .bl b
  | _, .int i, h => by cases h; exact .int i
  | _, .str x, h => by cases h; exact .str x
  | _, .list ds, h => by
    cases h with
    | lst h1 h2 => exact .lst (ex_l e h1) (dpa_mono e ds h2)
  | _, .tuple ds, h => by
    cases h with
    | tup h1 h2 => exact .tup (ex_t e h1) (dpa_mono e ds h2)
  | _, .dict _, h => by cases h
theorem dpa_mono (e : Ex H H') : ∀ {vs : List V} (ds : List PyData), DpAll K H vs ds → DpAll K H' vs ds
  | _, [], h => by cases h; exact .nil
  | _, d :: ds, h => by
    cases h with
    | cons h1 h2 => exact .cons (dp_mono e d h1) (dpa_mono e ds h2)
end
/-- two values of the same data: == True, != False -/
theorem rv_eqD {x y : V} {d : PyData} {n : Nat} (hx : Dp K H x d) (hy : Dp K H y d) (s : Sh n d) (hn : n ≤ 64) : RV (rEqD K) x y H (.bl true) := rv_val fun H1 e Q q =>
  ⟨d, d, dp_mono e d hx, dp_mono e d hy, s.shaped hn, s.shaped hn, by rw [s.refl]; exact q⟩
theorem rv_neD {x y : V} {d : PyData} {n : Nat} (hx : Dp K H x d) (hy : Dp K H y d) (s : Sh n d) (hn : n ≤ 64) : RV (rNeD K) x y H (.bl false) := rv_val fun H1 e Q q =>
  ⟨d, d, dp_mono e d hx, dp_mono e d hy, s.shaped hn, s.shaped hn, by rw [s.refl]; exact q⟩
/-- of any two data -/
theorem rv_neDD {x y : V} {d f : PyData} {n : Nat} (hx : Dp K H x d) (hy : Dp K H y f) (s : Sh n d) (s' : Sh n f) (hn : n ≤ 64) : RV (rNeD K) x y H (.bl (!PyData.eqv d f)) := rv_val fun H1 e Q q =>
  ⟨d, f, dp_mono e d hx, dp_mono e f hy, s.shaped hn, s'.shaped hn, q⟩
theorem rv_eqDD {x y : V} {d f : PyData} {n : Nat} (hx : Dp K H x d) (hy : Dp K H y f) (s : Sh n d) (s' : Sh n f) (hn : n ≤ 64) : RV (rEqD K) x y H (.bl (PyData.eqv d f)) := rv_val fun H1 e Q q =>
  ⟨d, f, dp_mono e d hx, dp_mono e f hy, s.shaped hn, s'.shaped hn, q⟩
theorem rv_ltT {a b : Addr} {ns ms : List Int} (ha : SqT K H a (ns.map V.int)) (hb : SqT K H b (ms.map V.int)) : RV (rLtT K) (.ref a) (.ref b) H (.bl (HT.lexLt ns ms)) := rv_val fun H1 e Q q =>
  ⟨a, b, ns, ms, rfl, rfl, ex_t e ha, ex_t e hb, q⟩
def leV (ns ms : List Int) : Bool := Ob.lexAt (fun j => decide (ns.getD j 0 = ms.getD j 0)) (fun j => decide (ns.getD j 0 ≤ ms.getD j 0)) (decide (ns.length ≤ ms.length)) 0 (min ns.length ms.length)
theorem rv_leT {a b : Addr} {ns ms : List Int} (ha : SqT K H a (ns.map V.int)) (hb : SqT K H b (ms.map V.int)) : RV (rLeT K) (.ref a) (.ref b) H (.bl (leV ns ms)) := rv_val fun H1 e Q q =>
  ⟨a, b, ns, ms, rfl, rfl, ex_t e ha, ex_t e hb, q⟩

/-! ### reading a cell of the script -/
def cellv (ns : List Int) (k : Nat) : Int := ns.getD k 0
theorem cellv_in {ns : List Int} {k : Nat} (hk : k < ns.length) : (ns.map V.int)[k]? = some (.int (cellv ns k)) := by
  rw [List.getElem?_map, List.getElem?_eq_getElem hk]
  unfold cellv
  rw [List.getD_eq_getElem?_getD, List.getElem?_eq_getElem hk]
  rfl
theorem cellv_out {ns : List Int} {k : Nat} (hk : ns.length ≤ k) : cellv ns k = 0 := by
  unfold cellv
  rw [List.getD_eq_getElem?_getD, List.getElem?_eq_none hk]
  rfl
def spCel (K : PySem.W.Frag) : Sp := fun vs H Q _ => ∃ (a : Addr) (ns : List Int) (k : Nat), vs = [.ref a, .int (k : Int)] ∧ SqL K H a (ns.map V.int) ∧ RetV (.int (cellv ns k)) H Q
theorem sv_cell {a : Addr} {ns : List Int} {k : Nat} {z : Int} (h : SqL K H a (ns.map V.int)) (e : z = (k : Int)) : SpV (spCel K) [.ref a, .int z] H (.int (cellv ns k)) := fun H1 e1 Q q E =>
  ⟨a, ns, k, by rw [e], ex_l e1 h, fun H2 e2 => q H2 e2⟩
end
end LK

namespace K21
open PySem PySem.Spec PyProof.Rows L2 Evl LK LT LG LS LQ LX LO
structure Txt (mg : Str → Option Value) (K : PySem.W.Frag) (C : Addr) : Prop where
  len : mg "len" = none
  range : mg "range" = none
  tuple : mg "tuple" = none
  list : mg "list" = none
  isinstance : mg "isinstance" = none
  zip : mg "zip" = none
  abs : mg "abs" = none
  int : mg "int" = none
  bool : mg "bool" = none
  min : mg "min" = none
  max : mg "max" = none
  gFIRST_BLOCK : ∃ t, mg "FIRST_BLOCK" = some (.int 5 t)
  gADD : ∃ t, mg "ADD" = some (.int 60 t)
  gREMOVE : ∃ t, mg "REMOVE" = some (.int 20 t)
  cl : Cls K C
  nB : NoAttr K C "blocks"
  nC : NoAttr K C "_counts"
  nH : NoAttr K C "_held"
  mgC : mg "Space" = some (.ref C)
def top (i : Nat) : Stmt := PySem.Challenge.pw_laminae_k21_space.main.body.getD i (.Pass ⟨0, 0, 0, 0⟩)
abbrev sIw : Stmt := top 6
theorem scIw : FnScope ["value"] ["value"] (defScope sIw) := ⟨rfl, rfl, rfl, by decide +kernel, rfl, by decide +kernel, by decide +kernel⟩
abbrev sInit : Stmt := inClass (top 10) 0
theorem scInit : FnScope ["self", "uses", "count"] ["self", "uses"] (defScope sInit) := ⟨rfl, rfl, rfl, by decide +kernel, rfl, by decide +kernel, by decide +kernel⟩
abbrev sTake : Stmt := inClass (top 10) 1
theorem scTake : FnScope ["self", "reserve", "block"] ["self", "reserve"] (defScope sTake) := ⟨rfl, rfl, rfl, by decide +kernel, rfl, by decide +kernel, by decide +kernel⟩
abbrev sLeast : Stmt := inClass (top 10) 2
theorem scLeast : FnScope ["self", "block"] ["self"] (defScope sLeast) := ⟨rfl, rfl, rfl, by decide +kernel, rfl, by decide +kernel, by decide +kernel⟩
abbrev sShare : Stmt := inClass (top 10) 3
theorem scShare : FnScope ["self", "block"] ["self", "block"] (defScope sShare) := ⟨rfl, rfl, rfl, by decide +kernel, rfl, by decide +kernel, by decide +kernel⟩
abbrev sDrop : Stmt := inClass (top 10) 4
theorem scDrop : FnScope ["self", "block"] ["self", "block"] (defScope sDrop) := ⟨rfl, rfl, rfl, by decide +kernel, rfl, by decide +kernel, by decide +kernel⟩
abbrev sUses : Stmt := inClass (top 10) 5
theorem scUses : FnScope ["self", "block"] ["self", "block"] (defScope sUses) := ⟨rfl, rfl, rfl, by decide +kernel, rfl, by decide +kernel, by decide +kernel⟩
abbrev sHeld : Stmt := inClass (top 10) 6
theorem scHeld : FnScope ["self", "block"] ["self", "block"] (defScope sHeld) := ⟨rfl, rfl, rfl, by decide +kernel, rfl, by decide +kernel, by decide +kernel⟩
abbrev sNew : Stmt := inClass (top 10) 7
theorem scNew : FnScope ["self", "block"] ["self", "block"] (defScope sNew) := ⟨rfl, rfl, rfl, by decide +kernel, rfl, by decide +kernel, by decide +kernel⟩
abbrev sFree : Stmt := inClass (top 10) 8
theorem scFree : FnScope ["self", "block"] ["self", "block"] (defScope sFree) := ⟨rfl, rfl, rfl, by decide +kernel, rfl, by decide +kernel, by decide +kernel⟩
abbrev sFr : Stmt := inClass (top 10) 9
theorem scFr : FnScope ["self"] ["self"] (defScope sFr) := ⟨rfl, rfl, rfl, by decide +kernel, rfl, by decide +kernel, by decide +kernel⟩
abbrev sPend : Stmt := inClass (top 10) 10
theorem scPend : FnScope ["self"] ["self"] (defScope sPend) := ⟨rfl, rfl, rfl, by decide +kernel, rfl, by decide +kernel, by decide +kernel⟩
abbrev sSettle : Stmt := inClass (top 10) 11
theorem scSettle : FnScope ["self", "count"] ["self"] (defScope sSettle) := ⟨rfl, rfl, rfl, by decide +kernel, rfl, by decide +kernel, by decide +kernel⟩
abbrev sSaved : Stmt := inClass (top 10) 12
theorem scSaved : FnScope ["self"] ["self"] (defScope sSaved) := ⟨rfl, rfl, rfl, by decide +kernel, rfl, by decide +kernel, by decide +kernel⟩
abbrev sRest : Stmt := inClass (top 10) 13
theorem scRest : FnScope ["self", "saved", "counts", "held"] ["self", "saved"] (defScope sRest) := ⟨rfl, rfl, rfl, by decide +kernel, rfl, by decide +kernel, by decide +kernel⟩
abbrev sCu : Stmt := inClass (top 10) 14
theorem scCu : FnScope ["self", "held", "count", "now_held"] ["self", "held"] (defScope sCu) := ⟨rfl, rfl, rfl, by decide +kernel, rfl, by decide +kernel, by decide +kernel⟩
abbrev sCe : Stmt := inClass (top 10) 15
theorem scCe : FnScope ["self", "block"] ["self", "block"] (defScope sCe) := ⟨rfl, rfl, rfl, by decide +kernel, rfl, by decide +kernel, by decide +kernel⟩
abbrev sCk : Stmt := inClass (top 10) 16
theorem scCk : FnScope ["self", "block"] ["self", "block"] (defScope sCk) := ⟨rfl, rfl, rfl, by decide +kernel, rfl, by decide +kernel, by decide +kernel⟩
abbrev sTape : Stmt := top 12
theorem scTape : FnScope ["script", "tape", "k", "value", "step"] ["script"] (defScope sTape) := ⟨rfl, rfl, rfl, by decide +kernel, rfl, by decide +kernel, by decide +kernel⟩
abbrev sAt : Stmt := top 13
theorem scAt : FnScope ["tape", "k"] ["tape", "k"] (defScope sAt) := ⟨rfl, rfl, rfl, by decide +kernel, rfl, by decide +kernel, by decide +kernel⟩
abbrev sKind : Stmt := top 14
theorem scKind : FnScope ["e"] ["e"] (defScope sKind) := ⟨rfl, rfl, rfl, by decide +kernel, rfl, by decide +kernel, by decide +kernel⟩
abbrev sDo : Stmt := top 15
theorem scDo : FnScope ["space", "act", "block", "e"] ["space", "act", "block"] (defScope sDo) := ⟨rfl, rfl, rfl, by decide +kernel, rfl, by decide +kernel, by decide +kernel⟩
abbrev sLf : Stmt := top 16
theorem scLf : FnScope ["numbers", "held", "k"] ["numbers", "held"] (defScope sLf) := ⟨rfl, rfl, rfl, by decide +kernel, rfl, by decide +kernel, by decide +kernel⟩
abbrev sDue : Stmt := top 17
theorem scDue : FnScope ["numbers", "held", "act", "block", "free"] ["numbers", "held", "act", "block"] (defScope sDue) := ⟨rfl, rfl, rfl, by decide +kernel, rfl, by decide +kernel, by decide +kernel⟩
abbrev sSame : Stmt := top 18
theorem scSame : FnScope ["told", "due"] ["told", "due"] (defScope sSame) := ⟨rfl, rfl, rfl, by decide +kernel, rfl, by decide +kernel, by decide +kernel⟩
abbrev sCounts : Stmt := top 19
theorem scCounts : FnScope ["space", "numbers", "held", "free", "pending", "least", "k"] ["space", "numbers", "held"] (defScope sCounts) := ⟨rfl, rfl, rfl, by decide +kernel, rfl, by decide +kernel, by decide +kernel⟩
abbrev sLaw : Stmt := top 20
theorem scLaw : FnScope ["script", "tape", "blocks", "numbers", "k", "number", "held", "passed", "space", "kept", "recent", "block", "act", "free", "due", "many"] ["script"] (defScope sLaw) := ⟨rfl, rfl, rfl, by decide +kernel, rfl, by decide +kernel, by decide +kernel⟩
/-! ### the tape: some numbers from 0 to 999 -/
def Good (ts : List Int) : Prop := ∀ t ∈ ts, 0 ≤ t ∧ t < 1000
theorem Good.snoc {ts : List Int} {t : Int} (h : Good ts) (h0 : 0 ≤ t) (h1 : t < 1000) : Good (ts ++ [t]) := fun z hz => by
  rcases List.mem_append.mp hz with q | q
  · exact h z q
  · rw [List.mem_singleton.mp q]
    exact ⟨h0, h1⟩
theorem Good.cell {ts : List Int} (h : Good ts) (k : Nat) : 0 ≤ cellv ts k ∧ cellv ts k < 1000 := by
  unfold cellv
  rw [List.getD_eq_getElem?_getD]
  cases e : ts[k]? with
  | none => exact ⟨by decide, by decide⟩
  | some t => exact h t (List.mem_of_getElem? e)
def spTape (K : PySem.W.Frag) : Sp := fun vs H Q _ => ∃ (a : Addr) (ns : List Int), vs = [.ref a] ∧ SqL K H a (ns.map V.int) ∧ ns.length ≤ 63 ∧ ∀ (p : Addr) (H' : Hp) (ts : List Int), H p = none → Ex H H' → H' p = some (.lst (ts.map V.int)) → Good ts → ts.length ≤ 3780 → Q (.ref p) H'
section
variable {P : Program} {w : World} {K : PySem.W.Frag} {mg : Str → Option Value} {base : Heap} {C : Addr}
theorem ok_tape {f : Addr} {fd : FuncData} (F : Fun K "_law_tape" "_law_tape" sTape f fd) (T : Txt mg K C) : FnOk P w K mg base CX0 1 f fd ["script"] (spTape K) := by
  refine F.ok scTape (fun vs H Q E h => ?_) (fun cdv A outer s H vs Q E hr h => ?_)
  · obtain ⟨a, ns, rfl, _⟩ := h
    rfl
  · obtain ⟨a, ns, rfl, hS, hlen, q⟩ := h
    refine ⟨_, (pss_cons (ps_set (i := 1) scTape.nd rfl (Or.inl rfl) (pe_lst pa_nil))
      (pss_cons (ps_for PassesOwn.never rfl (pi_range1 (by rfl) T.range (pa_cons (pe_callB call_len_seq (by rfl) T.len (by decide +kernel) (pa_cons (pv 0) pa_nil)) pa_nil)) (pg_name (i := 2) scTape.nd rfl (Or.inl rfl)) (pss_cons (ps_set (i := 3) scTape.nd rfl (Or.inl rfl) (pe_callB call_abs (by rfl) T.abs (by decide +kernel) (pa_cons (pe_callTy call_int1 (by rfl) T.int (by decide +kernel) (pa_cons (pe_ix ix_list (pv 0) (pv 2) (fun _ _ => rfl)) pa_nil)) pa_nil)))
      (pss_one (ps_if (pt_cmpR op_ge (pv 3) (pe_op op_pow pe_int pe_int) (nomark _)) (pss_one (ps_for PassesOwn.never rfl (pi_range1 (by rfl) T.range (pa_cons pe_int pa_nil)) (pg_name (i := 4) scTape.nd rfl (Or.inl rfl)) (pss_one (ps_if (pt_cmpR op_gt (pv 3) pe_int (nomark _)) (pss_cons (ps_expr (pe_bm PySem.F.plainAttrs_list PySem.F.slot_list_append PySem.F.type_list_append mt_append (pv 1) (pa_cons (pe_op op_mod (pv 3) pe_int) pa_nil)))
      (pss_one (ps_set (i := 3) scTape.nd rfl (Or.inl rfl) (pe_op op_fdiv (pv 3) pe_int)))) pss_nil)))) (pss_one (ps_for PassesOwn.never rfl (pi_range1 (by rfl) T.range (pa_cons pe_int pa_nil)) (pg_name (i := 4) scTape.nd rfl (Or.inl rfl)) (pss_cons (ps_set (i := 3) scTape.nd rfl (Or.inl rfl) (pe_op op_mod (pe_op op_add (pe_op op_add (pe_op op_mul (pv 3) pe_int) (pe_op op_mul pe_int (pe_op op_add (pv 2) pe_int))) (pe_op op_mul pe_int (pv 4))) pe_int))
      (pss_cons (ps_set (i := 3) scTape.nd rfl (Or.inl rfl) (pe_op op_mod (pe_op op_mul (pv 3) pe_int) pe_int))
      (pss_one (ps_expr (pe_bm PySem.F.plainAttrs_list PySem.F.slot_list_append PySem.F.type_list_append mt_append (pv 1) (pa_cons (pe_op op_mod (pe_op op_fdiv (pv 3) pe_int) pe_int) pa_nil))))))))))))
      (pss_one (ps_ret (pv 1))))), ?_⟩
    refine q_asgL (el_lst ea_nil (by decide)) fun ta H1 hta e1 h1 => ?_
    have len : Ev (tCB (rLenS K) (tCons (tVar 0) tNil)) [some (.ref a), some (.ref ta), none, none, none] H1 (.int (ns.length : Int)) := ev_is (ev_len (ev_var rfl) (ex_l e1 hS)) (by rw [List.length_map])
    refine q_forR1 (n := (ns.length : Int)) (ea_cons len ea_nil) ⟨by omega, by omega⟩
      (fun i σ' H' => ∃ ts y2 y3 y4, σ' = [some (.ref a), some (.ref ta), y2, y3, y4] ∧ Ex H H' ∧ H' ta = some (.lst (ts.map V.int)) ∧ Good ts ∧ ts.length ≤ 60 * i)
      (fun H2 e2 => ⟨[], none, none, none, rfl, e1.trans e2, e2 _ _ h1, (fun _ z => by cases z), by simp⟩) ?_ ?_
    · rintro i σ' H' hi ⟨ts, y2, y3, y4, rfl, e0, ht, hg, hl⟩
      have hi' : i < ns.length := by omega
      refine q_asg (ev_cb (ea_cons (ev_cb (ea_cons (ev_op (ev_var rfl) (ev_var rfl) (rv_ixL (ex_l e0 hS) (atI_nat (v := .int ns[i]) (by rw [List.getElem?_map, List.getElem?_eq_getElem hi']; rfl)))) ea_nil) (fun H1 _ Q q => .inl ⟨_, rfl, q _ (Ex.refl _)⟩)) ea_nil) (fun H1 _ Q q => ⟨_, rfl, q _ (Ex.refl _)⟩)) fun H2 e2 => ?_
      generalize (if ns[i] < 0 then -ns[i] else ns[i]) = v
      refine s_if (et_test (ev_op (ev_var rfl) (ev_op ev_c ev_c (rv_I ⟨by decide, by decide, by decide⟩)) rv_I0)) (fun _ H3 e3 => ?_) (fun _ H3 e3 => ?_)
      · refine s_forR1 (n := 60) (ea_cons ev_c ea_nil) ⟨by decide, by decide⟩ (fun j σ2 H4 => ∃ us z y4, σ2 = [some (.ref a), some (.ref ta), some (.int (i : Int)), some (.int z), y4] ∧ Ex H H4 ∧ H4 ta = some (.lst (us.map V.int)) ∧ Good us ∧ us.length ≤ 60 * i + j)
          (fun H4 e4 => ⟨ts, v, y4, rfl, ((e0.trans e2).trans e3).trans e4, ((e2.trans e3).trans e4) _ _ ht, hg, by omega⟩) ?_ ?_
        · rintro j σ2 H4 hj ⟨us, z, y4', rfl, e4, hu, hgu, hlu⟩
          refine s_when (et_test (ev_op (ev_var rfl) ev_c rv_I0)) (fun _ H5 e5 => ?_) (fun _ H5 e5 => ⟨us, z, _, rfl, e4.trans e5, e5 _ _ hu, hgu, by omega⟩)
          refine q_app (v := .int (z % 1000)) (e5 _ _ hu) (ev_var rfl) (ev_op (ev_var rfl) ev_c (rv_I (by show (0 : Int) < 1000; decide))) (by rw [List.length_map]; omega) fun H6 e6 => ?_
          have nta : H ta = none := hta
          refine s_asg (ev_op (ev_var rfl) ev_c (rv_I ⟨by decide, by decide⟩)) fun H7 e7 => ⟨us ++ [z % 1000], _, _, rfl, ((e4.trans e5).trans e6).mut nta |>.trans e7, ?_, hgu.snoc (by omega) (by omega), by rw [List.length_append, List.length_singleton]; omega⟩
          rw [e7 ta _ upd_same, List.map_append]
          rfl
        · rintro σ2 H4 ⟨us, z, y4', rfl, e4, hu, hgu, hlu⟩
          exact ⟨us, _, _, _, rfl, e4, hu, hgu, by show us.length ≤ 60 * (i + 1); have : us.length ≤ 60 * i + (60 : Int).toNat := hlu; omega⟩
      · refine s_forR1 (n := 4) (ea_cons ev_c ea_nil) ⟨by decide, by decide⟩ (fun j σ2 H4 => ∃ us z y4, σ2 = [some (.ref a), some (.ref ta), some (.int (i : Int)), some (.int z), y4] ∧ Ex H H4 ∧ H4 ta = some (.lst (us.map V.int)) ∧ Good us ∧ us.length ≤ 60 * i + j)
          (fun H4 e4 => ⟨ts, v, y4, rfl, ((e0.trans e2).trans e3).trans e4, ((e2.trans e3).trans e4) _ _ ht, hg, by omega⟩) ?_ ?_
        · rintro j σ2 H4 hj ⟨us, z, y4', rfl, e4, hu, hgu, hlu⟩
          refine q_asg (ev_op (ev_op (ev_op (ev_op (ev_var rfl) ev_c (rv_I (.inr ⟨by decide, by decide⟩))) (ev_op ev_c (ev_op (ev_var rfl) ev_c rv_I0) (rv_I (.inl ⟨by decide, by decide⟩))) rv_I0) (ev_op ev_c (ev_var rfl) (rv_I (.inl ⟨by decide, by decide⟩))) rv_I0) ev_c (rv_I (by show (0 : Int) < 2147483647; decide))) fun H5 e5 => ?_
          refine q_asg (ev_op (ev_op (ev_var rfl) ev_c (rv_I (.inr ⟨by decide, by decide⟩))) ev_c (rv_I (by show (0 : Int) < 2147483647; decide))) fun H6 e6 => ?_
          generalize (z * 48271 + 69621 * ((i : Int) + 1) + 7 * (j : Int)) % 2147483647 * 16807 % 2147483647 = z2
          refine s_app (v := .int (z2 / 1000 % 1000)) ((e5.trans e6) _ _ hu) (ev_var rfl) (ev_op (ev_op (ev_var rfl) ev_c (rv_I ⟨by decide, by decide⟩)) ev_c (rv_I (by show (0 : Int) < 1000; decide))) (by rw [List.length_map]; omega) fun H7 e7 => ⟨us ++ [z2 / 1000 % 1000], z2, _, rfl, (((e4.trans e5).trans e6).trans e7).mut hta, ?_, hgu.snoc (by omega) (by omega), by rw [List.length_append, List.length_singleton]; omega⟩
          rw [upd_same, List.map_append]
          rfl
        · rintro σ2 H4 ⟨us, z, y4', rfl, e4, hu, hgu, hlu⟩
          exact ⟨us, _, _, _, rfl, e4, hu, hgu, by show us.length ≤ 60 * (i + 1); have : us.length ≤ 60 * i + (4 : Int).toNat := hlu; omega⟩
    · rintro σ' H' ⟨ts, y2, y3, y4, rfl, e0, ht, hg, hl⟩
      exact s_ret (ev_var rfl) fun H2 e2 => q ta H2 ts hta (e0.trans e2) (e2 _ _ ht) hg (by have : ts.length ≤ 60 * (ns.length : Int).toNat := hl; omega)
theorem ok_at {f : Addr} {fd : FuncData} (F : Fun K "_law_at" "_law_at" sAt f fd) (T : Txt mg K C) : FnOk P w K mg base CX0 1 f fd ["tape", "k"] (spCel K) := by
  refine F.ok scAt (fun vs H Q E h => ?_) (fun cdv A outer s H vs Q E hr h => ?_)
  · obtain ⟨a, ns, k, rfl, _⟩ := h
    rfl
  · obtain ⟨a, ns, k, rfl, hS, q⟩ := h
    refine ⟨_, (pss_cons (ps_if (pt_cmpR op_lt (pv 1) (pe_callB call_len_seq (by rfl) T.len (by decide +kernel) (pa_cons (pv 0) pa_nil)) (nomark _)) (pss_one (ps_ret (pe_ix ix_list (pv 0) (pv 1) (fun _ _ => rfl)))) pss_nil)
      (pss_one (ps_ret pe_int))), ?_⟩
    refine q_when (et_test (ev_op (ev_var rfl) (ev_len (ev_var rfl) hS) rv_I0)) (fun hb H1 e1 => ?_) (fun hb H1 e1 => ?_)
    · have hk : k < ns.length := by
        have := of_decide_eq_true hb
        rw [List.length_map] at this
        omega
      exact s_ret (ev_op (ev_var rfl) (ev_var rfl) (rv_ixL (ex_l e1 hS) (atI_nat (cellv_in hk)))) fun H2 e2 => q H2 (e1.trans e2)
    · have hk : ns.length ≤ k := by
        have := of_decide_eq_false hb
        rw [List.length_map] at this
        omega
      rw [cellv_out hk] at q
      exact s_ret ev_c fun H2 e2 => q H2 (e1.trans e2)
end

/-! ### a space: its fields, its lists -/
def flds (n : Int) (cl hl : Addr) : List (Str × V) := [(("blocks" : Str), .int n), (("_counts" : Str), .ref cl), (("_held" : Str), .ref hl)]
theorem fl_b (n : Int) (cl hl : Addr) : (flds n cl hl).lookup ("blocks" : Str) = some (V.int n) := rfl
theorem fl_c (n : Int) (cl hl : Addr) : (flds n cl hl).lookup ("_counts" : Str) = some (V.ref cl) := rfl
theorem fl_h (n : Int) (cl hl : Addr) : (flds n cl hl).lookup ("_held" : Str) = some (V.ref hl) := rfl
theorem fl_pc (n : Int) (cl hl cl' : Addr) : putF "_counts" (V.ref cl') (flds n cl hl) = flds n cl' hl := rfl
theorem fl_ph (n : Int) (cl hl hl' : Addr) : putF "_held" (V.ref hl') (flds n cl hl) = flds n cl hl' := rfl
theorem fl_0 (n : Int) : putF "blocks" (V.int n) [] = [(("blocks" : Str), V.int n)] := rfl
theorem fl_1 (n : Int) (cl : Addr) : putF "_counts" (V.ref cl) [(("blocks" : Str), V.int n)] = [(("blocks" : Str), V.int n), (("_counts" : Str), V.ref cl)] := rfl
theorem fl_2 (n : Int) (cl hl : Addr) : putF "_held" (V.ref hl) [(("blocks" : Str), V.int n), (("_counts" : Str), V.ref cl)] = flds n cl hl := rfl
theorem fl_no (n : Int) (cl hl : Addr) {m : Str} (h : m ≠ "blocks" ∧ m ≠ "_counts" ∧ m ≠ "_held") : (flds n cl hl).lookup m = Option.none := by
  unfold flds
  rw [List.lookup_cons, beq_false_of_ne h.1, List.lookup_cons, beq_false_of_ne h.2.1, List.lookup_cons, beq_false_of_ne h.2.2]
  rfl
structure Sp' (C : Addr) (H : Hp) (p cl hl : Addr) (cs : List Int) (hs : List Bool) : Prop where
  len : cs.length = hs.length
  le : cs.length ≤ 256
  o : ∃ dx, H p = some (.ins C dx (flds cs.length cl hl))
  c : H cl = some (.lst (cs.map V.int))
  h : H hl = some (.lst (hs.map V.bl))
theorem Sp'.ex {C : Addr} {H H' : Hp} {p cl hl : Addr} {cs : List Int} {hs : List Bool} (s : Sp' C H p cl hl cs hs) (e : Ex H H') : Sp' C H' p cl hl cs hs := ⟨s.len, s.le, let ⟨dx, h⟩ := s.o; ⟨dx, e _ _ h⟩, e _ _ s.c, e _ _ s.h⟩
def cv (cs : List Int) (k : Nat) : Int := cs.getD k 0
def hv (hs : List Bool) (k : Nat) : Bool := hs.getD k false
theorem cv_at {cs : List Int} {k : Nat} (hk : k < cs.length) : (cs.map V.int)[k]? = some (.int (cv cs k)) := cellv_in hk
theorem hv_at {hs : List Bool} {k : Nat} (hk : k < hs.length) : (hs.map V.bl)[k]? = some (.bl (hv hs k)) := by
  rw [List.getElem?_map, List.getElem?_eq_getElem hk]
  unfold hv
  rw [List.getD_eq_getElem?_getD, List.getElem?_eq_getElem hk]
  rfl
/-- is block k free | which are -/
def fr1 (cs : List Int) (hs : List Bool) (b : Bool) (k : Nat) : Bool := decide (V.int (cv cs k) = V.int 0) && decide (V.bl (hv hs k) = V.bl b)
def fr (cs : List Int) (hs : List Bool) (b : Bool) : List Nat := (List.range cs.length).filter (fr1 cs hs b)
theorem fr_lt {cs : List Int} {hs : List Bool} {b : Bool} {k : Nat} (h : k ∈ fr cs hs b) : k < cs.length := List.mem_range.mp (List.mem_filter.mp h).1
theorem fr_len (cs : List Int) (hs : List Bool) (b : Bool) : (fr cs hs b).length ≤ cs.length := by
  have := List.length_filter_le (fr1 cs hs b) (List.range cs.length)
  rw [List.length_range] at this
  exact this
def headV (l : List Nat) : V := match l with
  | [] => .non
  | k :: _ => .int (k : Int)
theorem head_some {cs : List Int} {hs : List Bool} {b : Bool} {i : Nat} (hi : i < cs.length) (h : fr1 cs hs b i = true) (hn : ∀ j, j < i → fr1 cs hs b j = false) : headV (fr cs hs b) = .int (i : Int) := by
  have e : (fr cs hs b).head? = some i := by
    unfold fr
    rw [List.head?_filter, List.find?_range_eq_some]
    exact ⟨h, List.mem_range.mpr hi, fun j hj => by rw [hn j hj]; rfl⟩
  cases hf : fr cs hs b with
  | nil => rw [hf] at e; cases e
  | cons x r => rw [hf] at e; cases e; rfl
theorem head_none {cs : List Int} {hs : List Bool} {b : Bool} (hn : ∀ j, j < cs.length → fr1 cs hs b j = false) : headV (fr cs hs b) = .non := by
  have e : fr cs hs b = [] := List.filter_eq_nil_iff.mpr fun j hj => by rw [hn j (List.mem_range.mp hj)]; decide
  rw [e]
  rfl
theorem head_of {cs : List Int} {hs : List Bool} {b : Bool} (h : 0 < (fr cs hs b).length) : ∃ k, headV (fr cs hs b) = .int ((k : Nat) : Int) ∧ k < cs.length ∧ (fr cs hs b)[0]? = some k := by
  cases hf : fr cs hs b with
  | nil => rw [hf] at h; cases h
  | cons x r =>
    have : x ∈ fr cs hs b := by rw [hf]; exact List.mem_cons_self
    exact ⟨x, rfl, fr_lt this, rfl⟩
end K21

set_option Elab.async false
set_option linter.all false
set_option maxRecDepth 100000
set_option maxHeartbeats 4000000
namespace K21
open PySem PySem.Spec PyProof.Rows L2 Evl LK LT LG LS LQ LX LO
/-! ### the methods' promises -/
def spIw : Sp := fun vs H Q _ => ∃ z : Int, vs = [.int z] ∧ RetV (.bl (decide (0 ≤ z))) H Q
def In (cs : List Int) (z : Int) : Prop := 0 ≤ z ∧ z < cs.length
/-- asked at a block: a value where the block exists, else NotValid -/
def spAt (C N : Addr) (ok : List Int → Int → Prop) (f : List Int → List Bool → Nat → V) : Sp := fun vs H Q E => ∃ p cl hl cs hs z, vs = [.ref p, .int z] ∧ Sp' C H p cl hl cs hs ∧ (∀ k : Nat, z = (k : Int) → k < cs.length → ok cs z → RetV (f cs hs k) H Q) ∧ (¬ (In cs z ∧ ok cs z) → ∀ H', Ex H H' → E (.ref N) none H')
def always : List Int → Int → Prop := fun _ _ => True
def used : List Int → Int → Prop := fun cs z => 5 ≤ z ∧ cv cs z.toNat ≠ 0
section
variable {P : Program} {w : World} {K : PySem.W.Frag} {mg : Str → Option Value} {base : Heap} {C CN CS : Addr}
theorem nat_of {cs : List Int} {z : Int} (h : In cs z) : ∃ k : Nat, z = (k : Int) ∧ k < cs.length := ⟨z.toNat, by have := h.1; omega, by have := h.1; have := h.2; omega⟩
theorem ok_iw {f : Addr} {fd : FuncData} (F : Fun K "is_word" "is_word" sIw f fd) (T : Txt mg K C) : FnOk P w K mg base CX0 1 f fd ["value"] spIw := by
  refine F.ok scIw (fun vs H Q E h => ?_) (fun cdv A outer s H vs Q E hr h => ?_)
  · obtain ⟨z, rfl, _⟩ := h
    rfl
  · obtain ⟨z, rfl, q⟩ := h
    refine ⟨_, (pss_one (ps_ret (pe_and (pe_callB call_isi (by rfl) T.isinstance (by decide +kernel) (pa_cons (pv 0) (pa_cons (pe_bltn (v := .ty "int") (u := .type "int") (by rfl) T.int (by decide +kernel) rfl) pa_nil))) (pe_and (pe_not (pe_callB call_isi (by rfl) T.isinstance (by decide +kernel) (pa_cons (pv 0) (pa_cons (pe_bltn (v := .ty "bool") (u := .type "bool") (by rfl) T.bool (by decide +kernel) rfl) pa_nil)))) (pe_one (pe_cmpR op_ge (pv 0) pe_int (nomark _))))))), ?_⟩
    exact s_ret (ev_is (ev_andV (ev_isi (b := true) (ev_var rfl) ev_c (fun _ _ => .base (.int _)) (kit_ty rfl)) (fun _ => ev_andV (ev_notV (ev_isi (b := false) (ev_var rfl) ev_c (fun _ _ => .base (.int _)) (kit_ty rfl))) (fun _ => ev_op (ev_var rfl) ev_c rv_I0))) (by simp)) fun H1 e1 => q H1 e1
theorem ok_ce {f fW : Addr} {fd fdW : FuncData} (F : Fun K "_check_exists" "Space._check_exists" sCe f fd) (FW : Fun K "is_word" "is_word" sIw fW fdW) (bW : Binds K fdW ["value"] []) (gW : mg "is_word" = some (.ref fW)) (T : Txt mg K C) (XN : Xc K mg "NotValid" CN) : FnOk P w K mg base (L2.CX P w) 2 f fd ["self", "block"] (spAt C CN always fun _ _ _ => .non) := by
  have GW : FnOk P w K mg base CX0 1 fW fdW ["value"] spIw := ok_iw FW T
  refine F.okX scCe (fun vs H Q E h => ?_) (fun cdv A outer s H vs Q E hr h => ?_)
  · obtain ⟨p, cl, hl, cs, hs, z, rfl, _⟩ := h
    rfl
  · obtain ⟨p, cl, hl, cs, hs, z, rfl, S, q, qE⟩ := h
    obtain ⟨dx, ho⟩ := S.o
    refine ⟨_, (pss_one (ps_if (PW.pt (pw_or (pt_not (pt_val (pe_call GW (hr.mono (by decide)) (by rfl) gW FW.kp bW .nil pass0 (pa_cons (pv 1) pa_nil)))) (pw_or1 (pt_cmpR op_ge (pv 1) (pe_fld (pv 0) rfl) (nomark _))))) (pss_one (ps_raise0 rfl XN (takes_of rfl rfl rfl rfl) (by rfl))) pss_nil)), ?_⟩
    refine s_when (et_or (et_not (et_B (ev_call (vs := [.int z]) (ea_cons (ev_var rfl) ea_nil) (fun H1 e1 Q' q' E' => ⟨z, rfl, q'⟩)))) (fun _ => et_test (ev_op (ev_var rfl) (ev_fld (ev_var rfl) ho T.cl T.nB (fl_b _ _ _)) rv_I0))) (fun hb H1 e1 => ?_) (fun hb H1 e1 => ?_)
    · refine qE (fun h => ?_) H1 e1
      obtain ⟨h0, h1⟩ := h.1
      simp at hb
      omega
    · simp at hb
      obtain ⟨k, hk, hlt⟩ := nat_of (cs := cs) (z := z) ⟨by omega, by omega⟩
      exact q k hk hlt True.intro H1 e1
theorem ok_ck {f fC : Addr} {fd fdC : FuncData} (F : Fun K "_check_used" "Space._check_used" sCk f fd) (Gcheck_exists : FnOk P w K mg base (L2.CX P w) 2 fC fdC ["self", "block"] (spAt C CN always fun _ _ _ => .non)) (bcheck_exists : Binds K fdC ["self", "block"] []) (mcheck_exists : Meth K C "_check_exists" fC) (T : Txt mg K C) (XN : Xc K mg "NotValid" CN) : FnOk P w K mg base (L2.CX P w) 3 f fd ["self", "block"] (spAt C CN used fun _ _ _ => .non) := by
  obtain ⟨_, gFIRST_BLOCK⟩ := T.gFIRST_BLOCK
  refine F.okX scCk (fun vs H Q E h => ?_) (fun cdv A outer s H vs Q E hr h => ?_)
  · obtain ⟨p, cl, hl, cs, hs, z, rfl, _⟩ := h
    rfl
  · obtain ⟨p, cl, hl, cs, hs, z, rfl, S, q, qE⟩ := h
    obtain ⟨dx, ho⟩ := S.o
    refine ⟨_, (pss_cons (ps_expr (pe_meth (pv 0) T.cl mcheck_exists Gcheck_exists (hr.mono (by decide)) bcheck_exists .nil (pass_own (takes_of rfl rfl rfl rfl)) (pa_cons (pv 1) pa_nil)))
      (pss_one (ps_if (PW.pt (pw_or (pt_cmpR op_lt (pv 1) (pe_glob (v := .int 5) rfl gFIRST_BLOCK ⟨_, rfl⟩) (nomark _)) (pw_or1 (pt_cmpR op_eq (pe_ix ix_list (pe_fld (pv 0) rfl) (pv 1) (fun _ _ => rfl)) pe_int (nomark _))))) (pss_one (ps_raise0 rfl XN (takes_of rfl rfl rfl rfl) (by rfl))) pss_nil))), ?_⟩
    refine q_m (ev_var rfl) ho (fl_no _ _ _ ⟨by decide +kernel, by decide +kernel, by decide +kernel⟩) (ea_cons (ev_var rfl) ea_nil) fun H1 e1 => ⟨p, cl, hl, cs, hs, z, rfl, S.ex e1, fun k hk hlt _ H2 e2 => ?_, fun hn H2 e2 => qE (fun h => hn ⟨h.1, True.intro⟩) H2 (e1.trans e2)⟩
    subst hk
    have S2 := S.ex (e1.trans e2)
    obtain ⟨dx2, ho2⟩ := S2.o
    refine s_when (et_or (et_test (ev_op (ev_var rfl) ev_c rv_I0)) (fun _ => et_test (ev_op (ev_op (ev_fld (ev_var rfl) ho2 T.cl T.nC (fl_c _ _ _)) (ev_var rfl) (rv_ixL (sq_of S2.c) (atI_nat (cv_at hlt)))) ev_c (rv_eq rfl)))) (fun hb H3 e3 => ?_) (fun hb H3 e3 => ?_)
    · refine qE (fun h => ?_) H3 ((e1.trans e2).trans e3)
      obtain ⟨h0, h5, h6⟩ := h
      rw [Int.toNat_natCast] at h6
      simp at hb
      rcases hb with hb | hb
      · omega
      · exact h6 hb
    · simp at hb
      exact q k rfl hlt ⟨by omega, by rw [Int.toNat_natCast]; exact hb.2⟩ H3 ((e1.trans e2).trans e3)
theorem ok_uses {f fC : Addr} {fd fdC : FuncData} (F : Fun K "uses" "Space.uses" sUses f fd) (Gcheck_exists : FnOk P w K mg base (L2.CX P w) 2 fC fdC ["self", "block"] (spAt C CN always fun _ _ _ => .non)) (bcheck_exists : Binds K fdC ["self", "block"] []) (mcheck_exists : Meth K C "_check_exists" fC) (T : Txt mg K C) : FnOk P w K mg base (L2.CX P w) 3 f fd ["self", "block"] (spAt C CN always fun cs _ k => .int (cv cs k)) := by
  refine F.okX scUses (fun vs H Q E h => ?_) (fun cdv A outer s H vs Q E hr h => ?_)
  · obtain ⟨p, cl, hl, cs, hs, z, rfl, _⟩ := h
    rfl
  · obtain ⟨p, cl, hl, cs, hs, z, rfl, S, q, qE⟩ := h
    obtain ⟨dx, ho⟩ := S.o
    refine ⟨_, (pss_cons (ps_expr (pe_meth (pv 0) T.cl mcheck_exists Gcheck_exists (hr.mono (by decide)) bcheck_exists .nil (pass_own (takes_of rfl rfl rfl rfl)) (pa_cons (pv 1) pa_nil)))
      (pss_one (ps_ret (pe_ix ix_list (pe_fld (pv 0) rfl) (pv 1) (fun _ _ => rfl))))), ?_⟩
    refine q_m (ev_var rfl) ho (fl_no _ _ _ ⟨by decide +kernel, by decide +kernel, by decide +kernel⟩) (ea_cons (ev_var rfl) ea_nil) fun H1 e1 => ⟨p, cl, hl, cs, hs, z, rfl, S.ex e1, fun k hk hlt _ H2 e2 => ?_, fun hn H2 e2 => qE hn H2 (e1.trans e2)⟩
    subst hk
    have S2 := S.ex (e1.trans e2)
    obtain ⟨dx2, ho2⟩ := S2.o
    exact s_ret (ev_op (ev_fld (ev_var rfl) ho2 T.cl T.nC (fl_c _ _ _)) (ev_var rfl) (rv_ixL (sq_of S2.c) (atI_nat (cv_at hlt)))) fun H3 e3 => q k rfl hlt True.intro H3 ((e1.trans e2).trans e3)
theorem ok_isheld {f fC : Addr} {fd fdC : FuncData} (F : Fun K "is_held" "Space.is_held" sHeld f fd) (Gcheck_exists : FnOk P w K mg base (L2.CX P w) 2 fC fdC ["self", "block"] (spAt C CN always fun _ _ _ => .non)) (bcheck_exists : Binds K fdC ["self", "block"] []) (mcheck_exists : Meth K C "_check_exists" fC) (T : Txt mg K C) : FnOk P w K mg base (L2.CX P w) 3 f fd ["self", "block"] (spAt C CN always fun _ hs k => .bl (hv hs k)) := by
  refine F.okX scHeld (fun vs H Q E h => ?_) (fun cdv A outer s H vs Q E hr h => ?_)
  · obtain ⟨p, cl, hl, cs, hs, z, rfl, _⟩ := h
    rfl
  · obtain ⟨p, cl, hl, cs, hs, z, rfl, S, q, qE⟩ := h
    obtain ⟨dx, ho⟩ := S.o
    refine ⟨_, (pss_cons (ps_expr (pe_meth (pv 0) T.cl mcheck_exists Gcheck_exists (hr.mono (by decide)) bcheck_exists .nil (pass_own (takes_of rfl rfl rfl rfl)) (pa_cons (pv 1) pa_nil)))
      (pss_one (ps_ret (pe_ix ix_list (pe_fld (pv 0) rfl) (pv 1) (fun _ _ => rfl))))), ?_⟩
    refine q_m (ev_var rfl) ho (fl_no _ _ _ ⟨by decide +kernel, by decide +kernel, by decide +kernel⟩) (ea_cons (ev_var rfl) ea_nil) fun H1 e1 => ⟨p, cl, hl, cs, hs, z, rfl, S.ex e1, fun k hk hlt _ H2 e2 => ?_, fun hn H2 e2 => qE hn H2 (e1.trans e2)⟩
    subst hk
    have S2 := S.ex (e1.trans e2)
    obtain ⟨dx2, ho2⟩ := S2.o
    exact s_ret (ev_op (ev_fld (ev_var rfl) ho2 T.cl T.nH (fl_h _ _ _)) (ev_var rfl) (rv_ixL (sq_of S2.h) (atI_nat (hv_at (by rw [← S.len]; exact hlt))))) fun H3 e3 => q k rfl hlt True.intro H3 ((e1.trans e2).trans e3)
/-- uses(block), where the block exists -/
theorem sv_uses {H : Hp} {p cl hl : Addr} {cs : List Int} {hs : List Bool} {k : Nat} {f : List Int → List Bool → Nat → V} (S : Sp' C H p cl hl cs hs) (hk : k < cs.length) : SpV (spAt C CN always f) [.ref p, .int (k : Int)] H (f cs hs k) := fun H1 e1 Q q E =>
  ⟨p, cl, hl, cs, hs, k, rfl, S.ex e1, fun k' hk' _ _ H2 e2 => by
    have : k = k' := by omega
    subst this
    exact q H2 e2, fun hn => absurd ⟨⟨by omega, by omega⟩, True.intro⟩ hn⟩
theorem ok_isnew {f fC : Addr} {fd fdC : FuncData} (F : Fun K "is_new" "Space.is_new" sNew f fd) (Guses : FnOk P w K mg base (L2.CX P w) 3 fC fdC ["self", "block"] (spAt C CN always fun cs _ k => .int (cv cs k))) (buses : Binds K fdC ["self", "block"] []) (muses : Meth K C "uses" fC) (T : Txt mg K C) : FnOk P w K mg base (L2.CX P w) 4 f fd ["self", "block"] (spAt C CN always fun cs hs k => .bl (decide (cv cs k > 0) && !hv hs k)) := by
  refine F.okX scNew (fun vs H Q E h => ?_) (fun cdv A outer s H vs Q E hr h => ?_)
  · obtain ⟨p, cl, hl, cs, hs, z, rfl, _⟩ := h
    rfl
  · obtain ⟨p, cl, hl, cs, hs, z, rfl, S, q, qE⟩ := h
    obtain ⟨dx, ho⟩ := S.o
    refine ⟨_, (pss_one (ps_ret (pe_and (pe_cmpR op_gt (pe_meth (pv 0) T.cl muses Guses (hr.mono (by decide)) buses .nil (pass_own (takes_of rfl rfl rfl rfl)) (pa_cons (pv 1) pa_nil)) pe_int (nomark _)) (pe_one (pe_not (pe_ix ix_list (pe_fld (pv 0) rfl) (pv 1) (fun _ _ => rfl))))))), ?_⟩
    by_cases hz : In cs z
    · obtain ⟨k, rfl, hlt⟩ := nat_of hz
      exact s_ret (ev_andV (ev_op (ev_meth (ev_var rfl) ho (fl_no _ _ _ ⟨by decide +kernel, by decide +kernel, by decide +kernel⟩) (ea_cons (ev_var rfl) ea_nil) (sv_uses (CN := CN) (f := fun cs _ k => .int (cv cs k)) S hlt)) ev_c rv_I0) (fun _ => ev_notV (ev_op (ev_fld (ev_var rfl) ho T.cl T.nH (fl_h _ _ _)) (ev_var rfl) (rv_ixL (sq_of S.h) (atI_nat (hv_at (by rw [← S.len]; exact hlt))))))) fun H1 e1 => q k rfl hlt True.intro H1 e1
    · refine ⟨.ref p, rfl, p, dx, _, rfl, ho, fl_no _ _ _ ⟨by decide +kernel, by decide +kernel, by decide +kernel⟩, .int z, rfl, p, cl, hl, cs, hs, z, rfl, S, fun k hk hlt => absurd ⟨by omega, by omega⟩ hz, fun hn H2 e2 => qE hn H2 e2⟩
theorem ok_isfree {f fC : Addr} {fd fdC : FuncData} (F : Fun K "is_free" "Space.is_free" sFree f fd) (Guses : FnOk P w K mg base (L2.CX P w) 3 fC fdC ["self", "block"] (spAt C CN always fun cs _ k => .int (cv cs k))) (buses : Binds K fdC ["self", "block"] []) (muses : Meth K C "uses" fC) (T : Txt mg K C) : FnOk P w K mg base (L2.CX P w) 4 f fd ["self", "block"] (spAt C CN always fun cs hs k => .bl (decide (V.int (cv cs k) = V.int 0) && !hv hs k)) := by
  refine F.okX scFree (fun vs H Q E h => ?_) (fun cdv A outer s H vs Q E hr h => ?_)
  · obtain ⟨p, cl, hl, cs, hs, z, rfl, _⟩ := h
    rfl
  · obtain ⟨p, cl, hl, cs, hs, z, rfl, S, q, qE⟩ := h
    obtain ⟨dx, ho⟩ := S.o
    refine ⟨_, (pss_one (ps_ret (pe_and (pe_cmpR op_eq (pe_meth (pv 0) T.cl muses Guses (hr.mono (by decide)) buses .nil (pass_own (takes_of rfl rfl rfl rfl)) (pa_cons (pv 1) pa_nil)) pe_int (nomark _)) (pe_one (pe_not (pe_ix ix_list (pe_fld (pv 0) rfl) (pv 1) (fun _ _ => rfl))))))), ?_⟩
    by_cases hz : In cs z
    · obtain ⟨k, rfl, hlt⟩ := nat_of hz
      exact s_ret (ev_andV (ev_op (ev_meth (ev_var rfl) ho (fl_no _ _ _ ⟨by decide +kernel, by decide +kernel, by decide +kernel⟩) (ea_cons (ev_var rfl) ea_nil) (sv_uses (CN := CN) (f := fun cs _ k => .int (cv cs k)) S hlt)) ev_c (rv_eq rfl)) (fun _ => ev_notV (ev_op (ev_fld (ev_var rfl) ho T.cl T.nH (fl_h _ _ _)) (ev_var rfl) (rv_ixL (sq_of S.h) (atI_nat (hv_at (by rw [← S.len]; exact hlt))))))) fun H1 e1 => q k rfl hlt True.intro H1 e1
    · refine ⟨.ref p, rfl, p, dx, _, rfl, ho, fl_no _ _ _ ⟨by decide +kernel, by decide +kernel, by decide +kernel⟩, .int z, rfl, p, cl, hl, cs, hs, z, rfl, S, fun k hk hlt => absurd ⟨by omega, by omega⟩ hz, fun hn H2 e2 => qE hn H2 e2⟩
end
end K21

set_option Elab.async false
set_option linter.all false
set_option maxRecDepth 100000
set_option maxHeartbeats 4000000
namespace K21
open PySem PySem.Spec PyProof.Rows L2 Evl LK LT LG LS LQ LX LO
theorem given_length (n : Nat) (f : Nat → Bool) (v : Nat → V) : (given n f v).length = ((List.range n).filter f).length := by
  unfold given
  rw [List.length_map]
theorem given_map (n : Nat) (v : Nat → V) : given n (fun _ => true) v = (List.range n).map v := by
  unfold given
  rw [List.filter_eq_self.mpr fun _ _ => rfl]
def pos (cs : List Int) : List Bool := cs.map fun c => decide (c > 0)
theorem pos_map (cs : List Int) : given (cs.map V.int).length (fun _ => true) (fun i => .bl (decide (cv cs i > 0))) = (pos cs).map V.bl := by
  rw [given_map, List.length_map]
  unfold pos
  rw [List.map_map]
  apply List.ext_getElem
  · simp
  · intro i h1 h2
    simp only [List.length_map, List.length_range] at h1
    simp [cv, List.getD_eq_getElem?_getD, List.getElem?_eq_getElem h1]
theorem not_dec (b : Bool) : (!b) = decide (V.bl b = V.bl false) := by
  cases b
  · rw [decide_eq_true rfl]; rfl
  · rw [decide_eq_false (by intro h; cases h)]; rfl
theorem map_set (cs : List Int) (k : Nat) (x : Int) : (cs.map V.int).set k (.int x) = (cs.set k x).map V.int := (List.map_set).symm
def spCu (C : Addr) (b? : Bool → Prop) : Sp := fun vs H Q _ => ∃ p cl hl cs hs b, vs = [.ref p, .bl b] ∧ Sp' C H p cl hl cs hs ∧ RetV (.int ((fr cs hs b).length : Nat)) H Q
def spSelf (C : Addr) (f : List Int → List Bool → V) : Sp := fun vs H Q _ => ∃ p cl hl cs hs, vs = [.ref p] ∧ Sp' C H p cl hl cs hs ∧ RetV (f cs hs) H Q
def spTake (C N : Addr) : Sp := fun vs H Q E => ∃ p cl hl cs hs r, vs = [.ref p, .int r] ∧ Sp' C H p cl hl cs hs ∧ 0 ≤ r ∧ (((fr cs hs false).length : Int) ≤ r → ∀ H', Ex H H' → E (.ref N) none H') ∧
  (r < ((fr cs hs false).length : Int) → ∀ (k : Nat) H1 H2, headV (fr cs hs false) = .int (k : Int) → k < cs.length → Ex H H1 → Ex (upd H1 cl (.lst ((cs.set k 1).map V.int))) H2 → Q (.int (k : Int)) H2)
def spChg (C N : Addr) (d : Int) (f : List Int → Nat → V) : Sp := fun vs H Q E => ∃ p cl hl cs hs z, vs = [.ref p, .int z] ∧ Sp' C H p cl hl cs hs ∧ (∀ k : Nat, z = (k : Int) → k < cs.length → used cs z → ∀ H1 H2, Ex H H1 → Ex (upd H1 cl (.lst ((cs.set k (cv cs k + d)).map V.int))) H2 → Q (f cs k) H2) ∧ (¬ (In cs z ∧ used cs z) → ∀ H', Ex H H' → E (.ref N) none H')
def spSettle (C : Addr) : Sp := fun vs H Q _ => ∃ p cl hl cs hs dx, vs = [.ref p] ∧ Sp' C H p cl hl cs hs ∧ H p = some (.ins C dx (flds cs.length cl hl)) ∧ ∀ l H1, H l = none → Ex H H1 → H1 l = some (.lst ((pos cs).map V.bl)) → Q .non (upd H1 p (.ins C dx (flds cs.length cl l)))
def spSaved (C : Addr) : Sp := fun vs H Q _ => ∃ p cl hl cs hs, vs = [.ref p] ∧ Sp' C H p cl hl cs hs ∧ ∀ t ct ht H1, H t = none → H ct = none → H ht = none → Ex H H1 → H1 t = some (.tup [.ref ct, .ref ht]) → H1 ct = some (.tup (cs.map V.int)) → H1 ht = some (.tup (hs.map V.bl)) → Q (.ref t) H1
def spRest (K : PySem.W.Frag) (C : Addr) : Sp := fun vs H Q _ => ∃ p t ct ht cl hl cs hs cs' hs', vs = [.ref p, .ref t] ∧ Sp' C H p cl hl cs hs ∧ SqT K H t [.ref ct, .ref ht] ∧ SqT K H ct (cs'.map V.int) ∧ SqT K H ht (hs'.map V.bl) ∧ cs'.length = cs.length ∧ hs'.length = cs.length ∧
  ∀ cl' hl' H1, Fr (fun a => a = p) H H1 → H cl' = none → H hl' = none → cl' ≠ hl' → Sp' C H1 p cl' hl' cs' hs' → Q .non H1
def spInit (K : PySem.W.Frag) (C : Addr) : Sp := fun vs H Q _ => ∃ p u dx cs, vs = [.ref p, .ref u] ∧ H p = some (.ins C dx []) ∧ SqL K H u (cs.map V.int) ∧ cs.length ≤ 256 ∧ ∀ cl hl H1, Fr (fun a => a = p) H H1 → H cl = none → H hl = none → cl ≠ hl → Sp' C H1 p cl hl cs (pos cs) → Q .non H1
section
variable {P : Program} {w : World} {K : PySem.W.Frag} {mg : Str → Option Value} {base : Heap} {C CN CS : Addr}
theorem ok_cu {f : Addr} {fd : FuncData} (F : Fun K "_count_unused" "Space._count_unused" sCu f fd) (T : Txt mg K C) : FnOk P w K mg base CX0 1 f fd ["self", "held"] (spCu C fun _ => True) := by
  refine F.ok scCu (fun vs H Q E h => ?_) (fun cdv A outer s H vs Q E hr h => ?_)
  · obtain ⟨p, cl, hl, cs, hs, b, rfl, _⟩ := h
    rfl
  · obtain ⟨p, cl, hl, cs, hs, b, rfl, S, q⟩ := h
    obtain ⟨dx, ho⟩ := S.o
    refine ⟨_, (pss_one (ps_ret (pe_callB call_len_seq (by rfl) T.len (by decide +kernel) (pa_cons (pe_lc (own := [("count", 2), ("now_held", 3)]) (g := gTup K 2 (gCons (gName 2) (gCons (gName 3) gNil))) rfl scCu.nd (pi_zip (by rfl) T.zip (pa_cons (pe_fld (pv 0) rfl) (pa_cons (pe_fld (pv 0) rfl) pa_nil))) (blkOk_by (own := [("count", 2), ("now_held", 3)]) (N := ["self", "held", "count", "now_held"]) (sc := defScope sCu) (by decide +kernel)) (fun _ _ _ _ _ => pg_tup rfl (pgs_cons (pg_name (i := 2) scCu.nd rfl (Or.inl rfl)) (pgs_cons (pg_name (i := 3) scCu.nd rfl (Or.inl rfl)) pgs_nil))) (fun _ _ _ _ _ => (pts_one (PW.pt (pw_and (pt_cmpR op_eq (pv 2) pe_int (nomark _)) (pw_and1 (pt_cmpR op_eq (pv 3) (pv 1) (nomark _))))))) (fun _ _ _ _ _ => (pv 2))) pa_nil)))), ?_⟩
    refine s_ret (ev_is (ev_lenN (el_lcZ (fr1 cs hs b) (fun i => .int (cv cs i)) (ea_cons (ev_fld (ev_var rfl) ho T.cl T.nC (fl_c _ _ _)) (ea_cons (ev_fld (ev_var rfl) ho T.cl T.nH (fl_h _ _ _)) ea_nil)) (sq_of S.c) (sq_of S.h) (by rw [List.length_map, List.length_map]; exact S.len) (by rw [List.length_map]; have := S.le; omega) (fun _ _ => rfl)
      (fun n x y H1 e1 hx hy => ?_) (fun n x y H1 e1 hx hy _ => ?_))) (show _ = V.int ((fr cs hs b).length : Nat) by rw [given_length, List.length_map]; rfl)) fun H1 e1 => q H1 e1
    · have hn : n < cs.length := by
        have := (List.getElem?_eq_some_iff.mp hx).1
        rwa [List.length_map] at this
      rw [cv_at hn] at hx
      cases hx
      rw [hv_at (by rw [← S.len]; exact hn)] at hy
      cases hy
      exact et_and (et_test (ev_op (ev_var rfl) ev_c (rv_eq rfl))) (fun _ => et_test (ev_op (ev_var rfl) (ev_var rfl) (rv_eq rfl)))
    · have hn : n < cs.length := by
        have := (List.getElem?_eq_some_iff.mp hx).1
        rwa [List.length_map] at this
      rw [cv_at hn] at hx
      cases hx
      exact ev_var rfl
theorem ok_free {f fC : Addr} {fd fdC : FuncData} (F : Fun K "free" "Space.free" sFr f fd) (Gcount_unused : FnOk P w K mg base CX0 1 fC fdC ["self", "held"] (spCu C fun _ => True)) (bcount_unused : Binds K fdC ["self", "held"] []) (mcount_unused : Meth K C "_count_unused" fC) (T : Txt mg K C) : FnOk P w K mg base CX0 2 f fd ["self"] (spSelf C fun cs hs => .int ((fr cs hs false).length : Nat)) := by
  refine F.ok scFr (fun vs H Q E h => ?_) (fun cdv A outer s H vs Q E hr h => ?_)
  · obtain ⟨p, cl, hl, cs, hs, rfl, _⟩ := h
    rfl
  · obtain ⟨p, cl, hl, cs, hs, rfl, S, q⟩ := h
    obtain ⟨dx, ho⟩ := S.o
    refine ⟨_, (pss_one (ps_ret (pe_meth (pv 0) T.cl mcount_unused Gcount_unused (hr.mono (by decide)) bcount_unused .nil pass0 (pa_cons pe_bl pa_nil)))), ?_⟩
    exact r_m (ev_var rfl) ho (fl_no _ _ _ ⟨by decide +kernel, by decide +kernel, by decide +kernel⟩) (ea_cons ev_c ea_nil) fun H1 e1 => ⟨p, cl, hl, cs, hs, false, rfl, S.ex e1, fun H2 e2 => q H2 (e1.trans e2)⟩
theorem ok_pend {f fC : Addr} {fd fdC : FuncData} (F : Fun K "pending" "Space.pending" sPend f fd) (Gcount_unused : FnOk P w K mg base CX0 1 fC fdC ["self", "held"] (spCu C fun _ => True)) (bcount_unused : Binds K fdC ["self", "held"] []) (mcount_unused : Meth K C "_count_unused" fC) (T : Txt mg K C) : FnOk P w K mg base CX0 2 f fd ["self"] (spSelf C fun cs hs => .int ((fr cs hs true).length : Nat)) := by
  refine F.ok scPend (fun vs H Q E h => ?_) (fun cdv A outer s H vs Q E hr h => ?_)
  · obtain ⟨p, cl, hl, cs, hs, rfl, _⟩ := h
    rfl
  · obtain ⟨p, cl, hl, cs, hs, rfl, S, q⟩ := h
    obtain ⟨dx, ho⟩ := S.o
    refine ⟨_, (pss_one (ps_ret (pe_meth (pv 0) T.cl mcount_unused Gcount_unused (hr.mono (by decide)) bcount_unused .nil pass0 (pa_cons pe_bl pa_nil)))), ?_⟩
    exact r_m (ev_var rfl) ho (fl_no _ _ _ ⟨by decide +kernel, by decide +kernel, by decide +kernel⟩) (ea_cons ev_c ea_nil) fun H1 e1 => ⟨p, cl, hl, cs, hs, true, rfl, S.ex e1, fun H2 e2 => q H2 (e1.trans e2)⟩
theorem sv_self {H : Hp} {p cl hl : Addr} {cs : List Int} {hs : List Bool} {f : List Int → List Bool → V} (S : Sp' C H p cl hl cs hs) : SpV (spSelf C f) [.ref p] H (f cs hs) := fun H1 e1 Q q E => ⟨p, cl, hl, cs, hs, rfl, S.ex e1, q⟩
theorem ok_least {f fC : Addr} {fd fdC : FuncData} (F : Fun K "least_free" "Space.least_free" sLeast f fd) (Gis_free : FnOk P w K mg base (L2.CX P w) 4 fC fdC ["self", "block"] (spAt C CN always fun cs hs k => .bl (decide (V.int (cv cs k) = V.int 0) && !hv hs k))) (bis_free : Binds K fdC ["self", "block"] []) (mis_free : Meth K C "is_free" fC) (T : Txt mg K C) : FnOk P w K mg base CX0 5 f fd ["self"] (spSelf C fun cs hs => headV (fr cs hs false)) := by
  refine F.ok scLeast (fun vs H Q E h => ?_) (fun cdv A outer s H vs Q E hr h => ?_)
  · obtain ⟨p, cl, hl, cs, hs, rfl, _⟩ := h
    rfl
  · obtain ⟨p, cl, hl, cs, hs, rfl, S, q⟩ := h
    obtain ⟨dx, ho⟩ := S.o
    replace q : RetV (headV (fr cs hs false)) H Q := q
    refine ⟨_, (pss_cons (ps_for PassesOwn.never rfl (pi_range1 (by rfl) T.range (pa_cons (pe_fld (pv 0) rfl) pa_nil)) (pg_name (i := 1) scLeast.nd rfl (Or.inl rfl)) (pss_one (ps_if (pt_val (pe_meth (pv 0) T.cl mis_free Gis_free (hr.mono (by decide)) bis_free .nil passL (pa_cons (pv 1) pa_nil))) (pss_one (ps_ret (pv 1))) pss_nil)))
      (pss_one (ps_ret pe_non))), ?_⟩
    have hle := S.le
    refine q_forR1 (n := (cs.length : Int)) (ea_cons (ev_fld (ev_var rfl) ho T.cl T.nB (fl_b _ _ _)) ea_nil) ⟨by omega, by omega⟩ (fun i σ' H' => ∃ y, σ' = [some (.ref p), y] ∧ Ex H H' ∧ ∀ j, j < i → fr1 cs hs false j = false) (fun H1 e1 => ⟨none, rfl, e1, fun j hj => absurd hj (by omega)⟩) ?_ ?_
    · rintro i σ' H' hi ⟨y, rfl, e0, hn⟩
      have hi' : i < cs.length := by omega
      have eb : (decide (V.int (cv cs i) = V.int 0) && !hv hs i) = fr1 cs hs false i := by
        unfold fr1
        rw [not_dec]
      have S0 := S.ex e0
      refine s_when (et_is (et_B (ev_meth (z := .bl (decide (V.int (cv cs i) = V.int 0) && !hv hs i)) (ev_var rfl) (e0 _ _ ho) (fl_no _ _ _ ⟨by decide +kernel, by decide +kernel, by decide +kernel⟩) (ea_cons (ev_var rfl) ea_nil) (sv_uses (CN := CN) (f := fun cs hs k => .bl (decide (V.int (cv cs k) = V.int 0) && !hv hs k)) S0 hi'))) eb) (fun hb H1 e1 => ?_) (fun hb H1 e1 => ⟨_, rfl, e0.trans e1, fun j hj => ?_⟩)
      · rw [head_some hi' hb hn] at q
        exact s_ret (ev_var rfl) fun H2 e2 => q H2 ((e0.trans e1).trans e2)
      · by_cases hji : j = i
        · rw [hji]
          exact hb
        · exact hn j (by omega)
    · rintro σ' H' ⟨y, rfl, e0, hn⟩
      rw [head_none fun j hj => hn j (by simpa using hj)] at q
      exact s_ret ev_c fun H2 e2 => q H2 (e0.trans e2)
theorem ok_take {f fF fL : Addr} {fd fdF fdL : FuncData} (F : Fun K "take" "Space.take" sTake f fd) (Gfree : FnOk P w K mg base CX0 2 fF fdF ["self"] (spSelf C fun cs hs => .int ((fr cs hs false).length : Nat))) (bfree : Binds K fdF ["self"] []) (mfree : Meth K C "free" fF) (Gleast_free : FnOk P w K mg base CX0 5 fL fdL ["self"] (spSelf C fun cs hs => headV (fr cs hs false))) (bleast_free : Binds K fdL ["self"] []) (mleast_free : Meth K C "least_free" fL) (T : Txt mg K C) (XS : Xc K mg "NoSpace" CS) : FnOk P w K mg base (L2.CX P w) 6 f fd ["self", "reserve"] (spTake C CS) := by
  refine F.okX scTake (fun vs H Q E h => ?_) (fun cdv A outer s H vs Q E hr h => ?_)
  · obtain ⟨p, cl, hl, cs, hs, r, rfl, _⟩ := h
    rfl
  · obtain ⟨p, cl, hl, cs, hs, r, rfl, S, hr0, qE, q⟩ := h
    obtain ⟨dx, ho⟩ := S.o
    refine ⟨_, (pss_cons (ps_if (pt_cmpR op_le (pe_meth0 (pv 0) T.cl mfree Gfree (hr.mono (by decide)) bfree .nil pass0) (pv 1) (nomark _)) (pss_one (ps_raise0 rfl XS (takes_of rfl rfl rfl rfl) (by rfl))) pss_nil)
      (pss_cons (ps_set (i := 2) scTake.nd rfl (Or.inl rfl) (pe_meth0 (pv 0) T.cl mleast_free Gleast_free (hr.mono (by decide)) bleast_free .nil pass0))
      (pss_cons (ps_asg pe_int (pg_sub (pe_fld (pv 0) rfl) (pv 2) set_list))
      (pss_one (ps_ret (pv 2)))))), ?_⟩
    refine q_when (et_test (ev_op (ev_meth0 (ev_var rfl) ho (fl_no _ _ _ ⟨by decide +kernel, by decide +kernel, by decide +kernel⟩) (sv_self (f := fun cs hs => .int ((fr cs hs false).length : Nat)) S)) (ev_var rfl) rv_I0)) (fun hb H1 e1 => qE (of_decide_eq_true hb) H1 e1) (fun hb H1 e1 => ?_)
    have hlt : r < ((fr cs hs false).length : Int) := by
      have := of_decide_eq_false hb
      omega
    obtain ⟨k, hk, hkl, _⟩ := head_of (cs := cs) (hs := hs) (b := false) (by omega)
    have S1 := S.ex e1
    refine q_asg (ev_is (ev_meth0 (ev_var rfl) (e1 _ _ ho) (fl_no _ _ _ ⟨by decide +kernel, by decide +kernel, by decide +kernel⟩) (sv_self (f := fun cs hs => headV (fr cs hs false)) S1)) hk) fun H2 e2 => ?_
    have S2 := S1.ex e2
    refine q_setL (j := k) S2.c ev_c (ev_fld (ev_var rfl) (e2 _ _ (e1 _ _ ho)) T.cl T.nC (fl_c _ _ _)) (ev_var rfl) (by rw [List.length_map]; exact hkl) fun H3 e3 => ?_
    rw [map_set]
    exact s_ret (ev_var rfl) fun H4 e4 => q hlt k H3 H4 hk hkl ((e1.trans e2).trans e3) e4
theorem ok_share {f fC : Addr} {fd fdC : FuncData} (F : Fun K "share" "Space.share" sShare f fd) (Gcheck_used : FnOk P w K mg base (L2.CX P w) 3 fC fdC ["self", "block"] (spAt C CN used fun _ _ _ => .non)) (bcheck_used : Binds K fdC ["self", "block"] []) (mcheck_used : Meth K C "_check_used" fC) (T : Txt mg K C) : FnOk P w K mg base (L2.CX P w) 4 f fd ["self", "block"] (spChg C CN 1 fun _ _ => .non) := by
  refine F.okX scShare (fun vs H Q E h => ?_) (fun cdv A outer s H vs Q E hr h => ?_)
  · obtain ⟨p, cl, hl, cs, hs, z, rfl, _⟩ := h
    rfl
  · obtain ⟨p, cl, hl, cs, hs, z, rfl, S, q, qE⟩ := h
    obtain ⟨dx, ho⟩ := S.o
    refine ⟨_, (pss_cons (ps_expr (pe_meth (pv 0) T.cl mcheck_used Gcheck_used (hr.mono (by decide)) bcheck_used .nil (pass_own (takes_of rfl rfl rfl rfl)) (pa_cons (pv 1) pa_nil)))
      (pss_one (ps_augS (pe_fld (pv 0) rfl) (pv 1) get_list pe_int ip_add set_list))), ?_⟩
    refine q_m (ev_var rfl) ho (fl_no _ _ _ ⟨by decide +kernel, by decide +kernel, by decide +kernel⟩) (ea_cons (ev_var rfl) ea_nil) fun H1 e1 => ⟨p, cl, hl, cs, hs, z, rfl, S.ex e1, fun k hk hlt hu H2 e2 => ?_, fun hn H2 e2 => qE hn H2 (e1.trans e2)⟩
    subst hk
    have S2 := S.ex (e1.trans e2)
    obtain ⟨dx2, ho2⟩ := S2.o
    refine s_augL (ev_fld (ev_var rfl) ho2 T.cl T.nC (fl_c _ _ _)) (ev_var rfl) S2.c (cv_at hlt) ev_c fun H3 e3 => ?_
    rw [map_set]
    exact q k rfl hlt hu H3 _ ((e1.trans e2).trans e3) (Ex.refl _)
theorem ok_drop {f fC : Addr} {fd fdC : FuncData} (F : Fun K "drop" "Space.drop" sDrop f fd) (Gcheck_used : FnOk P w K mg base (L2.CX P w) 3 fC fdC ["self", "block"] (spAt C CN used fun _ _ _ => .non)) (bcheck_used : Binds K fdC ["self", "block"] []) (mcheck_used : Meth K C "_check_used" fC) (T : Txt mg K C) : FnOk P w K mg base (L2.CX P w) 4 f fd ["self", "block"] (spChg C CN (-1) fun cs k => .int (cv cs k - 1)) := by
  refine F.okX scDrop (fun vs H Q E h => ?_) (fun cdv A outer s H vs Q E hr h => ?_)
  · obtain ⟨p, cl, hl, cs, hs, z, rfl, _⟩ := h
    rfl
  · obtain ⟨p, cl, hl, cs, hs, z, rfl, S, q, qE⟩ := h
    obtain ⟨dx, ho⟩ := S.o
    refine ⟨_, (pss_cons (ps_expr (pe_meth (pv 0) T.cl mcheck_used Gcheck_used (hr.mono (by decide)) bcheck_used .nil (pass_own (takes_of rfl rfl rfl rfl)) (pa_cons (pv 1) pa_nil)))
      (pss_cons (ps_augS (pe_fld (pv 0) rfl) (pv 1) get_list pe_int ip_sub set_list)
      (pss_one (ps_ret (pe_ix ix_list (pe_fld (pv 0) rfl) (pv 1) (fun _ _ => rfl)))))), ?_⟩
    refine q_m (ev_var rfl) ho (fl_no _ _ _ ⟨by decide +kernel, by decide +kernel, by decide +kernel⟩) (ea_cons (ev_var rfl) ea_nil) fun H1 e1 => ⟨p, cl, hl, cs, hs, z, rfl, S.ex e1, fun k hk hlt hu H2 e2 => ?_, fun hn H2 e2 => qE hn H2 (e1.trans e2)⟩
    subst hk
    have S2 := S.ex (e1.trans e2)
    obtain ⟨dx2, ho2⟩ := S2.o
    refine q_augL (ev_fld (ev_var rfl) ho2 T.cl T.nC (fl_c _ _ _)) (ev_var rfl) S2.c (cv_at hlt) ev_c fun H3 e3 => ?_
    rw [map_set]
    have hpc : p ≠ cl := fun e => by
      have h1 := S2.c
      rw [← e, ho2] at h1
      cases h1
    have ho3 : (upd H3 cl (.lst ((cs.set k (cv cs k - 1)).map V.int))) p = some (.ins C dx2 (flds cs.length cl hl)) := by
      rw [upd_ne hpc]
      exact e3 _ _ ho2
    refine s_ret (ev_op (ev_fld (ev_var rfl) ho3 T.cl T.nC (fl_c _ _ _)) (ev_var rfl) (rv_ixL (v := .int (cv cs k - 1)) (sq_of upd_same) (atI_nat (by rw [List.getElem?_map, List.getElem?_set_self hlt]; rfl)))) fun H4 e4 => q k rfl hlt hu H3 H4 ((e1.trans e2).trans e3) e4
theorem el_pos {H : Hp} {σ : L2.St} {te : TE} {a : Addr} {j : Nat} {vs : List Nat} {cs : List Int} (h : Ev te σ H (.ref a)) (hx : SqL K H a (cs.map V.int)) (hz : cs.length ≤ 256) (hw : ∀ x, wipe ((wipe σ vs).set j (some x)) vs = wipe σ vs) (hj : j < (wipe σ vs).length) :
    EvL (tLc (iList K te) (gName j) tYes (tOp (rI0 fun i j => .bl (decide (i > j))) (tVar j) (tC (.int 0))) vs) σ H ((pos cs).map V.bl) := by
  rw [← pos_map]
  refine el_lcL (fun _ => true) (fun i => .bl (decide (cv cs i > 0))) h hx (by rw [List.length_map]; omega) hw (fun _ _ H1 _ _ => fun H2 _ Q q => q _ (Ex.refl _)) fun i x H1 e1 hi _ => ?_
  have hn : i < cs.length := by
    have := (List.getElem?_eq_some_iff.mp hi).1
    rwa [List.length_map] at this
  rw [cv_at hn] at hi
  cases hi
  exact ev_op (ev_var (by rw [List.getElem?_set_self hj])) ev_c rv_I0
theorem ok_settle {f : Addr} {fd : FuncData} (F : Fun K "settle" "Space.settle" sSettle f fd) (T : Txt mg K C) : FnOk P w K mg base CX0 1 f fd ["self"] (spSettle C) := by
  refine F.ok scSettle (fun vs H Q E h => ?_) (fun cdv A outer s H vs Q E hr h => ?_)
  · obtain ⟨p, cl, hl, cs, hs, dx, rfl, _⟩ := h
    rfl
  · obtain ⟨p, cl, hl, cs, hs, dx, rfl, S, ho, q⟩ := h
    refine ⟨_, (pss_one (ps_fld (pv 0) (pe_lc (own := [("count", 1)]) (g := gName 1) (tt := tYes) rfl scSettle.nd (pi_list (pe_fld (pv 0) rfl)) (blkOk_by (own := [("count", 1)]) (N := ["self", "count"]) (sc := defScope sSettle) (by decide +kernel)) (fun _ _ _ _ _ => pg_name (i := 1) scSettle.nd rfl (Or.inl rfl)) (fun _ _ _ _ _ => pts_nil) (fun _ _ _ _ _ => (pe_cmpR op_gt (pv 1) pe_int (nomark _)))) rfl)), ?_⟩
    exact s_fldL (el_pos (ev_fld (ev_var rfl) ho T.cl T.nC (fl_c _ _ _)) (sq_of S.c) S.le (fun _ => rfl) (by show 1 < 2; decide)) (ev_var rfl) ho T.cl T.nH (by show 3 < 1000; decide) fun l H1 hl' e1 h1 => q l H1 hl' e1 h1
theorem eu_tuple {H : Hp} {σ : L2.St} {te : TE} {a : Addr} {xs : List V} (h : Ev te σ H (.ref a)) (hx : SqL K H a xs) : EvU (tCB (fun us H Q => ∃ p ys, us = [.ref p] ∧ ((SqL K H p ys ∧ ∀ l, H l = none → Q (.ref l) (upd H l (.tup ys))) ∨ (SqT K H p ys ∧ Q (.ref p) H))) (tCons te tNil)) σ H xs := fun H1 e Q q =>
  h H1 e _ fun H2 e2 => ⟨a, xs, rfl, .inl ⟨ex_l (e.trans e2) hx, fun l hl => q l _ (fresh_back e2 hl) (e2.trans (Ex.new hl)) upd_same⟩⟩
theorem r_pair {σ : L2.St} {H : Hp} {te tf : TE} {xs ys : List V} {D : Ends} (h1 : EvU te σ H xs) (h2 : EvU tf σ H ys) (q : ∀ t ct ht H1, H t = none → H ct = none → H ht = none → Ex H H1 → H1 t = some (.tup [.ref ct, .ref ht]) → H1 ct = some (.tup xs) → H1 ht = some (.tup ys) → D.rt (.ref t) H1) : tRet (tTup (tCons te (tCons tf tNil))) D σ H :=
  h1 H (Ex.refl _) _ fun ct H1 hct e1 g1 => h2 H1 e1 _ fun ht H2 hht e2 g2 => ⟨by show 2 ≤ sizeLine; decide, fun t ht' => q t ct ht _ (fresh_back (e1.trans e2) ht') hct (fresh_back e1 hht) ((e1.trans e2).trans (Ex.new ht')) upd_same ((Ex.new ht') _ _ (e2 _ _ g1)) ((Ex.new ht') _ _ g2)⟩
theorem ok_saved {f : Addr} {fd : FuncData} (F : Fun K "saved" "Space.saved" sSaved f fd) (T : Txt mg K C) : FnOk P w K mg base CX0 1 f fd ["self"] (spSaved C) := by
  refine F.ok scSaved (fun vs H Q E h => ?_) (fun cdv A outer s H vs Q E hr h => ?_)
  · obtain ⟨p, cl, hl, cs, hs, rfl, _⟩ := h
    rfl
  · obtain ⟨p, cl, hl, cs, hs, rfl, S, q⟩ := h
    obtain ⟨dx, ho⟩ := S.o
    refine ⟨_, (pss_one (ps_ret (pe_tup (pa_cons (pe_callTy call_tuple_of (by rfl) T.tuple (by decide +kernel) (pa_cons (pe_fld (pv 0) rfl) pa_nil)) (pa_cons (pe_callTy call_tuple_of (by rfl) T.tuple (by decide +kernel) (pa_cons (pe_fld (pv 0) rfl) pa_nil)) pa_nil))))), ?_⟩
    exact r_pair (eu_tuple (ev_fld (ev_var rfl) ho T.cl T.nC (fl_c _ _ _)) (sq_of S.c)) (eu_tuple (ev_fld (ev_var rfl) ho T.cl T.nH (fl_h _ _ _)) (sq_of S.h)) q
theorem ok_rest {f : Addr} {fd : FuncData} (F : Fun K "restore" "Space.restore" sRest f fd) (T : Txt mg K C) : FnOk P w K mg base CX0 1 f fd ["self", "saved"] (spRest K C) := by
  refine F.ok scRest (fun vs H Q E h => ?_) (fun cdv A outer s H vs Q E hr h => ?_)
  · obtain ⟨p, t, ct, ht, cl, hl, cs, hs, cs', hs', rfl, _⟩ := h
    rfl
  · obtain ⟨p, t, ct, ht, cl, hl, cs, hs, cs', hs', rfl, S, hT, hC, hH, l1, l2, q⟩ := h
    obtain ⟨dx, ho⟩ := S.o
    refine ⟨_, (pss_cons (ps_asg (pv 1) (pg_tup (by rfl) (pgs_cons (pg_name (i := 2) scRest.nd rfl (Or.inl rfl)) (pgs_cons (pg_name (i := 3) scRest.nd rfl (Or.inl rfl)) pgs_nil))))
      (pss_cons (ps_fld (pv 0) (pe_callTy call_list_of (by rfl) T.list (by decide +kernel) (pa_cons (pv 2) pa_nil)) rfl)
      (pss_one (ps_fld (pv 0) (pe_callTy call_list_of (by rfl) T.list (by decide +kernel) (pa_cons (pv 3) pa_nil)) rfl)))), ?_⟩
    refine ⟨.ref t, rfl, t, _, rfl, hT, rfl, _, _, rfl, _, _, rfl, rfl, ?_⟩
    refine q_fldL (el_listT (ev_var rfl) hC) (ev_var rfl) ho T.cl T.nC (by show 3 < 1000; decide) fun c1 H1 hc1 e1 h1 => ?_
    rw [fl_pc]
    have np : p ≠ c1 := ne_of_none ho hc1
    refine s_fldL (el_listT (ev_var rfl) (mut_t e1 ho hH)) (ev_var rfl) upd_same T.cl T.nH (by show 3 < 1000; decide) fun h1' H2 hh1 e2 h2 => ?_
    rw [fl_ph]
    have hp1 : h1' ≠ p := fun e => by
      rw [e, upd_same] at hh1
      cases hh1
    have hfr : H h1' = none := by
      rw [upd_ne hp1] at hh1
      exact fresh_back e1 hh1
    have hc1' : H2 c1 = some (.lst (cs'.map V.int)) := e2 _ _ (by rw [upd_ne np.symm]; exact h1)
    refine q c1 h1' _ (fun a o ha hn => ?_) hc1 hfr (fun e => ?_) ⟨by omega, by have := S.le; omega, ⟨dx, by rw [upd_same, l1]⟩, by rw [upd_ne np.symm]; exact hc1', by rw [upd_ne hp1]; exact h2⟩
    · rw [upd_ne hn]
      exact e2 _ _ (by rw [upd_ne hn]; exact e1 _ _ ha)
    · rw [← e, upd_ne np.symm, h1] at hh1
      cases hh1
theorem ok_init {f : Addr} {fd : FuncData} (F : Fun K "__init__" "Space.__init__" sInit f fd) (T : Txt mg K C) : FnOk P w K mg base CX0 1 f fd ["self", "uses"] (spInit K C) := by
  refine F.ok scInit (fun vs H Q E h => ?_) (fun cdv A outer s H vs Q E hr h => ?_)
  · obtain ⟨p, u, dx, cs, rfl, _⟩ := h
    rfl
  · obtain ⟨p, u, dx, cs, rfl, ho, hU, hle, q⟩ := h
    refine ⟨_, (pss_cons (ps_fld (pv 0) (pe_callB call_len_seq (by rfl) T.len (by decide +kernel) (pa_cons (pv 1) pa_nil)) rfl)
      (pss_cons (ps_fld (pv 0) (pe_callTy call_list_of (by rfl) T.list (by decide +kernel) (pa_cons (pv 1) pa_nil)) rfl)
      (pss_one (ps_fld (pv 0) (pe_lc (own := [("count", 2)]) (g := gName 2) (tt := tYes) rfl scInit.nd (pi_list (pv 1)) (blkOk_by (own := [("count", 2)]) (N := ["self", "uses", "count"]) (sc := defScope sInit) (by decide +kernel)) (fun _ _ _ _ _ => pg_name (i := 2) scInit.nd rfl (Or.inl rfl)) (fun _ _ _ _ _ => pts_nil) (fun _ _ _ _ _ => (pe_cmpR op_gt (pv 2) pe_int (nomark _)))) rfl)))), ?_⟩
    refine q_fld (ev_is (ev_len (ev_var rfl) hU) (by rw [List.length_map])) (ev_var rfl) ho T.cl T.nB (by show 0 < 1000; decide) fun H1 e1 => ?_
    rw [fl_0]
    have u1 := mut_l (fs' := [(("blocks" : Str), V.int cs.length)]) e1 ho hU
    refine q_fldL (el_list (ev_var rfl) u1) (ev_var rfl) upd_same T.cl T.nC (by show 1 < 1000; decide) fun c1 H2 hc1 e2 h2 => ?_
    rw [fl_1]
    have u2 := mut_l (fs' := [(("blocks" : Str), V.int cs.length), (("_counts" : Str), V.ref c1)]) e2 upd_same u1
    refine s_fldL (el_pos (ev_var rfl) u2 hle (fun _ => rfl) (by show 2 < 3; decide)) (ev_var rfl) upd_same T.cl T.nH (by show 2 < 1000; decide) fun h1' H3 hh1 e3 h3 => ?_
    rw [fl_2]
    have nc : c1 ≠ p := fun e => by
      rw [e, upd_same] at hc1
      cases hc1
    have nh : h1' ≠ p := fun e => by
      rw [e, upd_same] at hh1
      cases hh1
    have c3 : H3 c1 = some (.lst (cs.map V.int)) := e3 _ _ (by rw [upd_ne nc]; exact h2)
    refine q c1 h1' _ (fun a o ha hn => ?_) ?_ ?_ (fun e => ?_) ⟨by unfold pos; rw [List.length_map], hle, ⟨dx, upd_same⟩, by rw [upd_ne nc]; exact c3, by rw [upd_ne nh]; exact h3⟩
    · rw [upd_ne hn]
      exact e3 _ _ (by rw [upd_ne hn]; exact e2 _ _ (by rw [upd_ne hn]; exact e1 _ _ ha))
    · rw [upd_ne nc] at hc1
      exact fresh_back e1 hc1
    · rw [upd_ne nh] at hh1
      have := fresh_back e2 hh1
      rw [upd_ne nh] at this
      exact fresh_back e1 this
    · rw [← e, upd_ne nc, h2] at hh1
      cases hh1
end
end K21

set_option Elab.async false
set_option linter.all false
set_option maxRecDepth 100000
set_option maxHeartbeats 4000000
namespace K21
open PySem PySem.Spec PyProof.Rows L2 Evl LK LT LG LS LQ LX LO
/-! ### what an act gives -/
inductive Out
  | val (v : V)
  | ref (b : Bool)
def wS (b : Bool) : Str := if b = true then "room" else "invalid"
def IsOut (H : Hp) (v : V) : Out → Prop
  | .val u => v = u
  | .ref b => ∃ q, v = .ref q ∧ H q = some (.lst [.str "refused", .str (wS b)])
inductive Act (cs : List Int) (hs : List Bool) : Str → Int → Out → List Int → Prop
  | take_no {z : Int} (h : ((fr cs hs false).length : Int) ≤ z) : Act cs hs "take" z (.ref true) cs
  | take {z : Int} {k : Nat} (h : z < ((fr cs hs false).length : Int)) (hk : headV (fr cs hs false) = .int (k : Int)) (hkl : k < cs.length) : Act cs hs "take" z (.val (.int (k : Int))) (cs.set k 1)
  | share_no {z : Int} (hn : ¬ (In cs z ∧ used cs z)) : Act cs hs "share" z (.ref false) cs
  | share {k : Nat} (hlt : k < cs.length) (hu : used cs (k : Int)) : Act cs hs "share" (k : Int) (.val .non) (cs.set k (cv cs k + 1))
  | drop_no {z : Int} (hn : ¬ (In cs z ∧ used cs z)) : Act cs hs "drop" z (.ref false) cs
  | drop {k : Nat} (hlt : k < cs.length) (hu : used cs (k : Int)) : Act cs hs "drop" (k : Int) (.val (.int (cv cs k - 1))) (cs.set k (cv cs k + -1))
  | uses_no {z : Int} (hn : ¬ In cs z) : Act cs hs "uses" z (.ref false) cs
  | uses {k : Nat} (hlt : k < cs.length) : Act cs hs "uses" (k : Int) (.val (.int (cv cs k))) cs
  | held_no {z : Int} (hn : ¬ In cs z) : Act cs hs "held" z (.ref false) cs
  | held {k : Nat} (hlt : k < cs.length) : Act cs hs "held" (k : Int) (.val (.bl (hv hs k))) cs
  | new_no {z : Int} (hn : ¬ In cs z) : Act cs hs "new" z (.ref false) cs
  | new {k : Nat} (hlt : k < cs.length) : Act cs hs "new" (k : Int) (.val (.bl (decide (cv cs k > 0) && !hv hs k))) cs
  | free_no {z : Int} (hn : ¬ In cs z) : Act cs hs "free" z (.ref false) cs
  | free {k : Nat} (hlt : k < cs.length) : Act cs hs "free" (k : Int) (.val (.bl (decide (V.int (cv cs k) = V.int 0) && !hv hs k))) cs
theorem usedA {cs : List Int} {k : Nat} (hlt : k < cs.length) (h : used cs (k : Int)) : (decide ((k : Int) < 5) || decide (V.int (cv cs k) = V.int 0)) = false := by
  obtain ⟨h5, h6⟩ := h
  rw [Int.toNat_natCast] at h6
  rw [decide_eq_false (by omega), decide_eq_false (fun e => h6 (V.int.inj e))]
  rfl
theorem usedB {cs : List Int} {k : Nat} (hlt : k < cs.length) (h : ¬ used cs (k : Int)) : (decide ((k : Int) < 5) || decide (V.int (cv cs k) = V.int 0)) = true := by
  by_cases h5 : (k : Int) < 5
  · rw [decide_eq_true h5]
    rfl
  · rw [decide_eq_false h5, decide_eq_true (congrArg V.int (by
      by_cases h6 : cv cs k = 0
      · exact h6
      · exact absurd ⟨by omega, by rw [Int.toNat_natCast]; exact h6⟩ h))]
    rfl
def actS : List Str := ["take", "share", "drop", "uses", "held", "new", "free"]
theorem act_ex (cs : List Int) (hs : List Bool) {a : Str} (ha : a ∈ actS) (z : Int) (hz : a = "take" → 0 ≤ z) : ∃ o cs', Act cs hs a z o cs' := by
  have two : ∀ {s : Str}, (¬ In cs z → ∃ o cs', Act cs hs s z o cs') → (∀ k : Nat, k < cs.length → ∃ o cs', Act cs hs s (k : Int) o cs') → ∃ o cs', Act cs hs s z o cs' := fun h1 h2 => by
    by_cases hin : In cs z
    · obtain ⟨k, rfl, hlt⟩ := nat_of hin
      exact h2 k hlt
    · exact h1 hin
  have two' : ∀ {s : Str}, (¬ (In cs z ∧ used cs z) → ∃ o cs', Act cs hs s z o cs') → (∀ k : Nat, k < cs.length → used cs (k : Int) → ∃ o cs', Act cs hs s (k : Int) o cs') → ∃ o cs', Act cs hs s z o cs' := fun h1 h2 => by
    by_cases hin : In cs z ∧ used cs z
    · obtain ⟨k, rfl, hlt⟩ := nat_of hin.1
      exact h2 k hlt hin.2
    · exact h1 hin
  unfold actS at ha
  simp only [List.mem_cons, List.not_mem_nil, or_false] at ha
  rcases ha with rfl | rfl | rfl | rfl | rfl | rfl | rfl
  · by_cases h : ((fr cs hs false).length : Int) ≤ z
    · exact ⟨_, _, .take_no h⟩
    · have := hz rfl
      obtain ⟨k, hk, hkl, _⟩ := head_of (cs := cs) (hs := hs) (b := false) (by omega)
      exact ⟨_, _, .take (by omega) hk hkl⟩
  · exact two' (fun h => ⟨_, _, .share_no h⟩) (fun k h u => ⟨_, _, .share h u⟩)
  · exact two' (fun h => ⟨_, _, .drop_no h⟩) (fun k h u => ⟨_, _, .drop h u⟩)
  · exact two (fun h => ⟨_, _, .uses_no h⟩) (fun k h => ⟨_, _, .uses h⟩)
  · exact two (fun h => ⟨_, _, .held_no h⟩) (fun k h => ⟨_, _, .held h⟩)
  · exact two (fun h => ⟨_, _, .new_no h⟩) (fun k h => ⟨_, _, .new h⟩)
  · exact two (fun h => ⟨_, _, .free_no h⟩) (fun k h => ⟨_, _, .free h⟩)
theorem Act.len {cs cs' : List Int} {hs : List Bool} {a : Str} {z : Int} {o : Out} (h : Act cs hs a z o cs') : cs'.length = cs.length := by
  cases h <;> simp
/-! ### the law's own defs -/
def spKind (CS CN : Addr) : Addr → Addr → Sp := fun D a vs H Q _ => vs = [.ref a] ∧ ∃ b : Bool, ((D = CS ∧ b = true) ∨ (D = CN ∧ b = false)) ∧ ∀ q H', H q = none → Ex H H' → H' q = some (.lst [.str "refused", .str (wS b)]) → Q (.ref q) H'
def spDo (C : Addr) : Sp := fun vs H Q _ => ∃ p cl hl cs hs a z o cs', vs = [.ref p, .str a, .int z] ∧ Sp' C H p cl hl cs hs ∧ (a = "take" → 0 ≤ z) ∧ Act cs hs a z o cs' ∧ ∀ H1 v, Fr (fun x => x = cl) H H1 → H1 cl = some (.lst (cs'.map V.int)) → IsOut H1 v o → Q v H1
def spFree (K : PySem.W.Frag) : Sp := fun vs H Q _ => ∃ na ha cs hs, vs = [.ref na, .ref ha] ∧ SqL K H na (cs.map V.int) ∧ SqL K H ha (hs.map V.bl) ∧ cs.length = hs.length ∧ cs.length ≤ 256 ∧ ∀ p H', H p = none → Ex H H' → H' p = some (.lst ((fr cs hs false).map fun k => .int ((k : Nat) : Int))) → Q (.ref p) H'
def spDue (K : PySem.W.Frag) : Sp := fun vs H Q _ => ∃ na ha cs hs a z o cs', vs = [.ref na, .ref ha, .str a, .int z] ∧ SqL K H na (cs.map V.int) ∧ SqL K H ha (hs.map V.bl) ∧ cs.length = hs.length ∧ cs.length ≤ 256 ∧ (a = "take" → 0 ≤ z) ∧ Act cs hs a z o cs' ∧ ∀ H1 v, Ex H H1 → IsOut H1 v o → Q v H1
section
variable {P : Program} {w : World} {K : PySem.W.Frag} {mg : Str → Option Value} {base : Heap} {C CN CS CL : Addr}
theorem ok_kind {f : Addr} {fd : FuncData} (F : Fun K "_law_kind" "_law_kind" sKind f fd) (T : Txt mg K C) (XS : Xc K mg "NoSpace" CS) (XN : Xc K mg "NotValid" CN) (XCS : ExcC K CS) (XCN : ExcC K CN) (sSS : PySem.W.subIn K (.ref CS) (.ref CS) = some true) (sNS : PySem.W.subIn K (.ref CN) (.ref CS) = some false) (sNN : PySem.W.subIn K (.ref CN) (.ref CN) = some true) : FnE P w K mg base CX0 1 f fd ["e"] (spKind CS CN) := by
  refine okE F scKind (fun D a vs H Q E h => ?_) (fun cdv A outer s H vs Q E p D hr hz hf h => ?_)
  · obtain ⟨rfl, _⟩ := h
    rfl
  · obtain ⟨rfl, b, hD, q⟩ := h
    refine ⟨_, (pss_cons (ps_if (pt_val (pe_callB (call_isP (List.mem_singleton.mpr rfl) hz hf) (by rfl) T.isinstance (by decide +kernel) (pa_cons (pv 0) (pa_cons (pe_glob (v := .ref CS) rfl XS.g rfl) pa_nil)))) (pss_one (ps_ret (pe_lst (pa_cons pe_str (pa_cons pe_str pa_nil))))) pss_nil)
      (pss_cons (ps_if (pt_val (pe_callB (call_isP (List.mem_singleton.mpr rfl) hz hf) (by rfl) T.isinstance (by decide +kernel) (pa_cons (pv 0) (pa_cons (pe_glob (v := .ref CN) rfl XN.g rfl) pa_nil)))) (pss_one (ps_ret (pe_lst (pa_cons pe_str (pa_cons pe_str pa_nil))))) pss_nil)
      (pss_one (ps_ret (pe_lst (pa_cons pe_str (pa_cons pe_str pa_nil))))))), ?_⟩
    rcases hD with ⟨rfl, rfl⟩ | ⟨rfl, rfl⟩
    · refine q_when (b := true) (et_B (ev_isP XCS (ev_var rfl) ev_c (XS.kit sSS fun _ => rfl))) (fun _ H1 e1 => ?_) (fun h => by cases h)
      exact s_retL (el_lst (ea_cons ev_c (ea_cons ev_c ea_nil)) (by simp)) fun q' H2 hq e2 h2 => q q' H2 (fresh_back e1 hq) (e1.trans e2) h2
    · refine q_when (b := false) (et_B (ev_isP XCN (ev_var rfl) ev_c (XS.kit sNS fun e => by
        cases e
        rw [sSS] at sNS
        cases sNS))) (fun h => by cases h) (fun _ H1 e1 => ?_)
      refine q_when (b := true) (et_B (ev_isP XCN (ev_var rfl) ev_c (XN.kit sNN fun _ => rfl))) (fun _ H2 e2 => ?_) (fun h => by cases h)
      exact s_retL (el_lst (ea_cons ev_c (ea_cons ev_c ea_nil)) (by simp)) fun q' H3 hq e3 h3 => q q' H3 (fresh_back (e1.trans e2) hq) ((e1.trans e2).trans e3) h3
theorem ok_do {f fK f1 f2 f3 f4 f5 f6 f7 : Addr} {fd fdK fd1 fd2 fd3 fd4 fd5 fd6 fd7 : FuncData} (F : Fun K "_law_do" "_law_do" sDo f fd) (FKi : Fun K "_law_kind" "_law_kind" sKind fK fdK) (GKi : FnE P w K mg base CX0 1 fK fdK ["e"] (spKind CS CN)) (bKi : Binds K fdK ["e"] []) (gKi : mg "_law_kind" = some (.ref fK))
    (Gtake : FnOk P w K mg base (L2.CX P w) 6 f1 fd1 ["self", "reserve"] (spTake C CS)) (btake : Binds K fd1 ["self", "reserve"] []) (mtake : Meth K C "take" f1)
    (Gshare : FnOk P w K mg base (L2.CX P w) 4 f2 fd2 ["self", "block"] (spChg C CN 1 fun _ _ => .non)) (bshare : Binds K fd2 ["self", "block"] []) (mshare : Meth K C "share" f2)
    (Gdrop : FnOk P w K mg base (L2.CX P w) 4 f3 fd3 ["self", "block"] (spChg C CN (-1) fun cs k => .int (cv cs k - 1))) (bdrop : Binds K fd3 ["self", "block"] []) (mdrop : Meth K C "drop" f3)
    (Guses : FnOk P w K mg base (L2.CX P w) 3 f4 fd4 ["self", "block"] (spAt C CN always fun cs _ k => .int (cv cs k))) (buses : Binds K fd4 ["self", "block"] []) (muses : Meth K C "uses" f4)
    (Gis_held : FnOk P w K mg base (L2.CX P w) 3 f5 fd5 ["self", "block"] (spAt C CN always fun _ hs k => .bl (hv hs k))) (bis_held : Binds K fd5 ["self", "block"] []) (mis_held : Meth K C "is_held" f5)
    (Gis_new : FnOk P w K mg base (L2.CX P w) 4 f6 fd6 ["self", "block"] (spAt C CN always fun cs hs k => .bl (decide (cv cs k > 0) && !hv hs k))) (bis_new : Binds K fd6 ["self", "block"] []) (mis_new : Meth K C "is_new" f6)
    (Gis_free : FnOk P w K mg base (L2.CX P w) 4 f7 fd7 ["self", "block"] (spAt C CN always fun cs hs k => .bl (decide (V.int (cv cs k) = V.int 0) && !hv hs k))) (bis_free : Binds K fd7 ["self", "block"] []) (mis_free : Meth K C "is_free" f7)
    (T : Txt mg K C) (XL : Xc K mg "LaminaError" CL) (sSL : PySem.W.subIn K (.ref CS) (.ref CL) = some true) (sNL : PySem.W.subIn K (.ref CN) (.ref CL) = some true) : FnOk P w K mg base CX0 7 f fd ["space", "act", "block"] (spDo C) := by
  refine F.ok scDo (fun vs H Q E h => ?_) (fun cdv A outer s H vs Q E hr h => ?_)
  · obtain ⟨p, cl, hl, cs, hs, a, z, o, cs', rfl, _⟩ := h
    rfl
  · obtain ⟨p, cl, hl, cs, hs, a, z, o, cs', rfl, S, hz, hA, q⟩ := h
    refine ⟨_, (pss_one (ps_try_as (i := 3) rfl rfl scDo.nd rfl rfl ⟨rfl, by decide, .inl XL.g⟩ takes0 (fun W pn xe tk _ => (pss_cons (ps_if (pt_cmpR op_eq (pv 1) pe_str (nomark _)) (pss_one (ps_ret (pe_methA (pv 0) T.cl mtake Gtake (hr.mono (by decide)) btake (fun σ => passAt tk σ) (pa_cons (pv 2) pa_nil)))) pss_nil)
      (pss_cons (ps_if (pt_cmpR op_eq (pv 1) pe_str (nomark _)) (pss_one (ps_ret (pe_methA (pv 0) T.cl mshare Gshare (hr.mono (by decide)) bshare (fun σ => passAt tk σ) (pa_cons (pv 2) pa_nil)))) pss_nil)
      (pss_cons (ps_if (pt_cmpR op_eq (pv 1) pe_str (nomark _)) (pss_one (ps_ret (pe_methA (pv 0) T.cl mdrop Gdrop (hr.mono (by decide)) bdrop (fun σ => passAt tk σ) (pa_cons (pv 2) pa_nil)))) pss_nil)
      (pss_cons (ps_if (pt_cmpR op_eq (pv 1) pe_str (nomark _)) (pss_one (ps_ret (pe_methA (pv 0) T.cl muses Guses (hr.mono (by decide)) buses (fun σ => passAt tk σ) (pa_cons (pv 2) pa_nil)))) pss_nil)
      (pss_cons (ps_if (pt_cmpR op_eq (pv 1) pe_str (nomark _)) (pss_one (ps_ret (pe_methA (pv 0) T.cl mis_held Gis_held (hr.mono (by decide)) bis_held (fun σ => passAt tk σ) (pa_cons (pv 2) pa_nil)))) pss_nil)
      (pss_cons (ps_if (pt_cmpR op_eq (pv 1) pe_str (nomark _)) (pss_one (ps_ret (pe_methA (pv 0) T.cl mis_new Gis_new (hr.mono (by decide)) bis_new (fun σ => passAt tk σ) (pa_cons (pv 2) pa_nil)))) pss_nil)
      (pss_one (ps_ret (pe_methA (pv 0) T.cl mis_free Gis_free (hr.mono (by decide)) bis_free (fun σ => passAt tk σ) (pa_cons (pv 2) pa_nil))))))))))) (fun a oe cls d pn hz hf => (pss_one (ps_ret (pe_callE (E := fun _ => E0) hz hf GKi (hr.mono (by decide)) (by rfl) gKi FKi.kp bKi (fun σ => pass0E) (pa_cons (pv 3) pa_nil))))))), ?_⟩
    have fin1 : ∀ H2 H3 v, Ex H H2 → Ex (upd H2 cl (.lst (cs'.map V.int))) H3 → IsOut H3 v o → Q v H3 := fun H2 H3 v e1 e2 h => q H3 v (fun x u hx hn => e2 _ _ (by rw [upd_ne hn]; exact e1 _ _ hx)) (e2 _ _ upd_same) h
    have fin2' : cs' = cs → ∀ H2 v, Ex H H2 → IsOut H2 v o → Q v H2 := fun e H2 v e1 h => q H2 v (fun x u hx hn => e1 _ _ hx) (by rw [e]; exact e1 _ _ S.c) h
    cases hA with
    | take_no h =>
      refine q_when (b := true) (et_is (et_test (ev_op (ev_var rfl) ev_c (rv_eq rfl))) (by decide +kernel)) (fun _ K1 k1 => ?_) (fun h => by cases h)
      have S1 := S.ex k1
      obtain ⟨dx, ho⟩ := S1.o
      exact r_mA (ev_var rfl) ho (fl_no _ _ _ ⟨by decide +kernel, by decide +kernel, by decide +kernel⟩) (ea_cons (ev_var rfl) ea_nil) fun H1 e1 => ⟨p, cl, hl, cs, hs, _, rfl, S1.ex e1, hz rfl, fun _ H2 e2 => ⟨true, XL.exm sSL, fun _ a ha => ⟨.ref a, rfl, CS, rfl, rfl, rfl, true, .inl ⟨rfl, rfl⟩, fun q H3 hq e3 h3 => fin2' rfl H3 _ ((k1.trans e1).trans (e2.trans e3)) ⟨q, rfl, h3⟩⟩, fun q => nomatch q⟩, fun h => absurd h (by omega)⟩
    | take h hk hkl =>
      refine q_when (b := true) (et_is (et_test (ev_op (ev_var rfl) ev_c (rv_eq rfl))) (by decide +kernel)) (fun _ K1 k1 => ?_) (fun h => by cases h)
      have S1 := S.ex k1
      obtain ⟨dx, ho⟩ := S1.o
      exact r_mA (ev_var rfl) ho (fl_no _ _ _ ⟨by decide +kernel, by decide +kernel, by decide +kernel⟩) (ea_cons (ev_var rfl) ea_nil) fun H1 e1 => ⟨p, cl, hl, cs, hs, _, rfl, S1.ex e1, hz rfl, fun h => absurd h (by omega), fun h j2 H2 H3 hk2 hl2 e2 e3 => by
        rw [hk] at hk2
        cases V.int.inj hk2
        exact fin1 H2 H3 _ ((k1.trans e1).trans e2) e3 rfl⟩
    | share_no hn =>
      refine q_when (b := false) (et_is (et_test (ev_op (ev_var rfl) ev_c (rv_eq rfl))) (by decide +kernel)) (fun h => by cases h) (fun _ K1 k1 => ?_)
      refine q_when (b := true) (et_is (et_test (ev_op (ev_var rfl) ev_c (rv_eq rfl))) (by decide +kernel)) (fun _ K2 k2 => ?_) (fun h => by cases h)
      have S1 := S.ex (k1.trans k2)
      obtain ⟨dx, ho⟩ := S1.o
      exact r_mA (ev_var rfl) ho (fl_no _ _ _ ⟨by decide +kernel, by decide +kernel, by decide +kernel⟩) (ea_cons (ev_var rfl) ea_nil) fun H1 e1 => ⟨p, cl, hl, cs, hs, _, rfl, S1.ex e1, fun k hk hlt hu => absurd ⟨⟨by omega, by omega⟩, hu⟩ hn, fun _ H2 e2 => ⟨true, XL.exm sNL, fun _ a ha => ⟨.ref a, rfl, CN, rfl, rfl, rfl, false, .inr ⟨rfl, rfl⟩, fun q H3 hq e3 h3 => fin2' rfl H3 _ (((k1.trans k2).trans e1).trans (e2.trans e3)) ⟨q, rfl, h3⟩⟩, fun q => nomatch q⟩⟩
    | @share k hlt hu =>
      refine q_when (b := false) (et_is (et_test (ev_op (ev_var rfl) ev_c (rv_eq rfl))) (by decide +kernel)) (fun h => by cases h) (fun _ K1 k1 => ?_)
      refine q_when (b := true) (et_is (et_test (ev_op (ev_var rfl) ev_c (rv_eq rfl))) (by decide +kernel)) (fun _ K2 k2 => ?_) (fun h => by cases h)
      have S1 := S.ex (k1.trans k2)
      obtain ⟨dx, ho⟩ := S1.o
      exact r_mA (ev_var rfl) ho (fl_no _ _ _ ⟨by decide +kernel, by decide +kernel, by decide +kernel⟩) (ea_cons (ev_var rfl) ea_nil) fun H1 e1 => ⟨p, cl, hl, cs, hs, _, rfl, S1.ex e1, fun j2 hk2 hlt2 hu2 H2 H3 e2 e3 => by
        have e0 : j2 = k := by omega
        subst e0
        exact fin1 H2 H3 _ (((k1.trans k2).trans e1).trans e2) e3 rfl, fun h => absurd ⟨⟨by omega, by omega⟩, hu⟩ h⟩
    | drop_no hn =>
      refine q_when (b := false) (et_is (et_test (ev_op (ev_var rfl) ev_c (rv_eq rfl))) (by decide +kernel)) (fun h => by cases h) (fun _ K1 k1 => ?_)
      refine q_when (b := false) (et_is (et_test (ev_op (ev_var rfl) ev_c (rv_eq rfl))) (by decide +kernel)) (fun h => by cases h) (fun _ K2 k2 => ?_)
      refine q_when (b := true) (et_is (et_test (ev_op (ev_var rfl) ev_c (rv_eq rfl))) (by decide +kernel)) (fun _ K3 k3 => ?_) (fun h => by cases h)
      have S1 := S.ex ((k1.trans k2).trans k3)
      obtain ⟨dx, ho⟩ := S1.o
      exact r_mA (ev_var rfl) ho (fl_no _ _ _ ⟨by decide +kernel, by decide +kernel, by decide +kernel⟩) (ea_cons (ev_var rfl) ea_nil) fun H1 e1 => ⟨p, cl, hl, cs, hs, _, rfl, S1.ex e1, fun k hk hlt hu => absurd ⟨⟨by omega, by omega⟩, hu⟩ hn, fun _ H2 e2 => ⟨true, XL.exm sNL, fun _ a ha => ⟨.ref a, rfl, CN, rfl, rfl, rfl, false, .inr ⟨rfl, rfl⟩, fun q H3 hq e3 h3 => fin2' rfl H3 _ ((((k1.trans k2).trans k3).trans e1).trans (e2.trans e3)) ⟨q, rfl, h3⟩⟩, fun q => nomatch q⟩⟩
    | @drop k hlt hu =>
      refine q_when (b := false) (et_is (et_test (ev_op (ev_var rfl) ev_c (rv_eq rfl))) (by decide +kernel)) (fun h => by cases h) (fun _ K1 k1 => ?_)
      refine q_when (b := false) (et_is (et_test (ev_op (ev_var rfl) ev_c (rv_eq rfl))) (by decide +kernel)) (fun h => by cases h) (fun _ K2 k2 => ?_)
      refine q_when (b := true) (et_is (et_test (ev_op (ev_var rfl) ev_c (rv_eq rfl))) (by decide +kernel)) (fun _ K3 k3 => ?_) (fun h => by cases h)
      have S1 := S.ex ((k1.trans k2).trans k3)
      obtain ⟨dx, ho⟩ := S1.o
      exact r_mA (ev_var rfl) ho (fl_no _ _ _ ⟨by decide +kernel, by decide +kernel, by decide +kernel⟩) (ea_cons (ev_var rfl) ea_nil) fun H1 e1 => ⟨p, cl, hl, cs, hs, _, rfl, S1.ex e1, fun j2 hk2 hlt2 hu2 H2 H3 e2 e3 => by
        have e0 : j2 = k := by omega
        subst e0
        exact fin1 H2 H3 _ ((((k1.trans k2).trans k3).trans e1).trans e2) e3 rfl, fun h => absurd ⟨⟨by omega, by omega⟩, hu⟩ h⟩
    | uses_no hn =>
      refine q_when (b := false) (et_is (et_test (ev_op (ev_var rfl) ev_c (rv_eq rfl))) (by decide +kernel)) (fun h => by cases h) (fun _ K1 k1 => ?_)
      refine q_when (b := false) (et_is (et_test (ev_op (ev_var rfl) ev_c (rv_eq rfl))) (by decide +kernel)) (fun h => by cases h) (fun _ K2 k2 => ?_)
      refine q_when (b := false) (et_is (et_test (ev_op (ev_var rfl) ev_c (rv_eq rfl))) (by decide +kernel)) (fun h => by cases h) (fun _ K3 k3 => ?_)
      refine q_when (b := true) (et_is (et_test (ev_op (ev_var rfl) ev_c (rv_eq rfl))) (by decide +kernel)) (fun _ K4 k4 => ?_) (fun h => by cases h)
      have S1 := S.ex (((k1.trans k2).trans k3).trans k4)
      obtain ⟨dx, ho⟩ := S1.o
      exact r_mA (ev_var rfl) ho (fl_no _ _ _ ⟨by decide +kernel, by decide +kernel, by decide +kernel⟩) (ea_cons (ev_var rfl) ea_nil) fun H1 e1 => ⟨p, cl, hl, cs, hs, _, rfl, S1.ex e1, fun k hk hlt _ => absurd ⟨by omega, by omega⟩ hn, fun _ H2 e2 => ⟨true, XL.exm sNL, fun _ a ha => ⟨.ref a, rfl, CN, rfl, rfl, rfl, false, .inr ⟨rfl, rfl⟩, fun q H3 hq e3 h3 => fin2' rfl H3 _ (((((k1.trans k2).trans k3).trans k4).trans e1).trans (e2.trans e3)) ⟨q, rfl, h3⟩⟩, fun q => nomatch q⟩⟩
    | @uses k hlt =>
      refine q_when (b := false) (et_is (et_test (ev_op (ev_var rfl) ev_c (rv_eq rfl))) (by decide +kernel)) (fun h => by cases h) (fun _ K1 k1 => ?_)
      refine q_when (b := false) (et_is (et_test (ev_op (ev_var rfl) ev_c (rv_eq rfl))) (by decide +kernel)) (fun h => by cases h) (fun _ K2 k2 => ?_)
      refine q_when (b := false) (et_is (et_test (ev_op (ev_var rfl) ev_c (rv_eq rfl))) (by decide +kernel)) (fun h => by cases h) (fun _ K3 k3 => ?_)
      refine q_when (b := true) (et_is (et_test (ev_op (ev_var rfl) ev_c (rv_eq rfl))) (by decide +kernel)) (fun _ K4 k4 => ?_) (fun h => by cases h)
      have S1 := S.ex (((k1.trans k2).trans k3).trans k4)
      obtain ⟨dx, ho⟩ := S1.o
      exact r_mA (ev_var rfl) ho (fl_no _ _ _ ⟨by decide +kernel, by decide +kernel, by decide +kernel⟩) (ea_cons (ev_var rfl) ea_nil) fun H1 e1 => ⟨p, cl, hl, cs, hs, _, rfl, S1.ex e1, fun j2 hk2 hlt2 _ H2 e2 => by
        have e0 : j2 = k := by omega
        subst e0
        exact fin2' rfl H2 _ (((((k1.trans k2).trans k3).trans k4).trans e1).trans e2) rfl, fun h => absurd ⟨⟨by omega, by omega⟩, True.intro⟩ h⟩
    | held_no hn =>
      refine q_when (b := false) (et_is (et_test (ev_op (ev_var rfl) ev_c (rv_eq rfl))) (by decide +kernel)) (fun h => by cases h) (fun _ K1 k1 => ?_)
      refine q_when (b := false) (et_is (et_test (ev_op (ev_var rfl) ev_c (rv_eq rfl))) (by decide +kernel)) (fun h => by cases h) (fun _ K2 k2 => ?_)
      refine q_when (b := false) (et_is (et_test (ev_op (ev_var rfl) ev_c (rv_eq rfl))) (by decide +kernel)) (fun h => by cases h) (fun _ K3 k3 => ?_)
      refine q_when (b := false) (et_is (et_test (ev_op (ev_var rfl) ev_c (rv_eq rfl))) (by decide +kernel)) (fun h => by cases h) (fun _ K4 k4 => ?_)
      refine q_when (b := true) (et_is (et_test (ev_op (ev_var rfl) ev_c (rv_eq rfl))) (by decide +kernel)) (fun _ K5 k5 => ?_) (fun h => by cases h)
      have S1 := S.ex ((((k1.trans k2).trans k3).trans k4).trans k5)
      obtain ⟨dx, ho⟩ := S1.o
      exact r_mA (ev_var rfl) ho (fl_no _ _ _ ⟨by decide +kernel, by decide +kernel, by decide +kernel⟩) (ea_cons (ev_var rfl) ea_nil) fun H1 e1 => ⟨p, cl, hl, cs, hs, _, rfl, S1.ex e1, fun k hk hlt _ => absurd ⟨by omega, by omega⟩ hn, fun _ H2 e2 => ⟨true, XL.exm sNL, fun _ a ha => ⟨.ref a, rfl, CN, rfl, rfl, rfl, false, .inr ⟨rfl, rfl⟩, fun q H3 hq e3 h3 => fin2' rfl H3 _ ((((((k1.trans k2).trans k3).trans k4).trans k5).trans e1).trans (e2.trans e3)) ⟨q, rfl, h3⟩⟩, fun q => nomatch q⟩⟩
    | @held k hlt =>
      refine q_when (b := false) (et_is (et_test (ev_op (ev_var rfl) ev_c (rv_eq rfl))) (by decide +kernel)) (fun h => by cases h) (fun _ K1 k1 => ?_)
      refine q_when (b := false) (et_is (et_test (ev_op (ev_var rfl) ev_c (rv_eq rfl))) (by decide +kernel)) (fun h => by cases h) (fun _ K2 k2 => ?_)
      refine q_when (b := false) (et_is (et_test (ev_op (ev_var rfl) ev_c (rv_eq rfl))) (by decide +kernel)) (fun h => by cases h) (fun _ K3 k3 => ?_)
      refine q_when (b := false) (et_is (et_test (ev_op (ev_var rfl) ev_c (rv_eq rfl))) (by decide +kernel)) (fun h => by cases h) (fun _ K4 k4 => ?_)
      refine q_when (b := true) (et_is (et_test (ev_op (ev_var rfl) ev_c (rv_eq rfl))) (by decide +kernel)) (fun _ K5 k5 => ?_) (fun h => by cases h)
      have S1 := S.ex ((((k1.trans k2).trans k3).trans k4).trans k5)
      obtain ⟨dx, ho⟩ := S1.o
      exact r_mA (ev_var rfl) ho (fl_no _ _ _ ⟨by decide +kernel, by decide +kernel, by decide +kernel⟩) (ea_cons (ev_var rfl) ea_nil) fun H1 e1 => ⟨p, cl, hl, cs, hs, _, rfl, S1.ex e1, fun j2 hk2 hlt2 _ H2 e2 => by
        have e0 : j2 = k := by omega
        subst e0
        exact fin2' rfl H2 _ ((((((k1.trans k2).trans k3).trans k4).trans k5).trans e1).trans e2) rfl, fun h => absurd ⟨⟨by omega, by omega⟩, True.intro⟩ h⟩
    | new_no hn =>
      refine q_when (b := false) (et_is (et_test (ev_op (ev_var rfl) ev_c (rv_eq rfl))) (by decide +kernel)) (fun h => by cases h) (fun _ K1 k1 => ?_)
      refine q_when (b := false) (et_is (et_test (ev_op (ev_var rfl) ev_c (rv_eq rfl))) (by decide +kernel)) (fun h => by cases h) (fun _ K2 k2 => ?_)
      refine q_when (b := false) (et_is (et_test (ev_op (ev_var rfl) ev_c (rv_eq rfl))) (by decide +kernel)) (fun h => by cases h) (fun _ K3 k3 => ?_)
      refine q_when (b := false) (et_is (et_test (ev_op (ev_var rfl) ev_c (rv_eq rfl))) (by decide +kernel)) (fun h => by cases h) (fun _ K4 k4 => ?_)
      refine q_when (b := false) (et_is (et_test (ev_op (ev_var rfl) ev_c (rv_eq rfl))) (by decide +kernel)) (fun h => by cases h) (fun _ K5 k5 => ?_)
      refine q_when (b := true) (et_is (et_test (ev_op (ev_var rfl) ev_c (rv_eq rfl))) (by decide +kernel)) (fun _ K6 k6 => ?_) (fun h => by cases h)
      have S1 := S.ex (((((k1.trans k2).trans k3).trans k4).trans k5).trans k6)
      obtain ⟨dx, ho⟩ := S1.o
      exact r_mA (ev_var rfl) ho (fl_no _ _ _ ⟨by decide +kernel, by decide +kernel, by decide +kernel⟩) (ea_cons (ev_var rfl) ea_nil) fun H1 e1 => ⟨p, cl, hl, cs, hs, _, rfl, S1.ex e1, fun k hk hlt _ => absurd ⟨by omega, by omega⟩ hn, fun _ H2 e2 => ⟨true, XL.exm sNL, fun _ a ha => ⟨.ref a, rfl, CN, rfl, rfl, rfl, false, .inr ⟨rfl, rfl⟩, fun q H3 hq e3 h3 => fin2' rfl H3 _ (((((((k1.trans k2).trans k3).trans k4).trans k5).trans k6).trans e1).trans (e2.trans e3)) ⟨q, rfl, h3⟩⟩, fun q => nomatch q⟩⟩
    | @new k hlt =>
      refine q_when (b := false) (et_is (et_test (ev_op (ev_var rfl) ev_c (rv_eq rfl))) (by decide +kernel)) (fun h => by cases h) (fun _ K1 k1 => ?_)
      refine q_when (b := false) (et_is (et_test (ev_op (ev_var rfl) ev_c (rv_eq rfl))) (by decide +kernel)) (fun h => by cases h) (fun _ K2 k2 => ?_)
      refine q_when (b := false) (et_is (et_test (ev_op (ev_var rfl) ev_c (rv_eq rfl))) (by decide +kernel)) (fun h => by cases h) (fun _ K3 k3 => ?_)
      refine q_when (b := false) (et_is (et_test (ev_op (ev_var rfl) ev_c (rv_eq rfl))) (by decide +kernel)) (fun h => by cases h) (fun _ K4 k4 => ?_)
      refine q_when (b := false) (et_is (et_test (ev_op (ev_var rfl) ev_c (rv_eq rfl))) (by decide +kernel)) (fun h => by cases h) (fun _ K5 k5 => ?_)
      refine q_when (b := true) (et_is (et_test (ev_op (ev_var rfl) ev_c (rv_eq rfl))) (by decide +kernel)) (fun _ K6 k6 => ?_) (fun h => by cases h)
      have S1 := S.ex (((((k1.trans k2).trans k3).trans k4).trans k5).trans k6)
      obtain ⟨dx, ho⟩ := S1.o
      exact r_mA (ev_var rfl) ho (fl_no _ _ _ ⟨by decide +kernel, by decide +kernel, by decide +kernel⟩) (ea_cons (ev_var rfl) ea_nil) fun H1 e1 => ⟨p, cl, hl, cs, hs, _, rfl, S1.ex e1, fun j2 hk2 hlt2 _ H2 e2 => by
        have e0 : j2 = k := by omega
        subst e0
        exact fin2' rfl H2 _ (((((((k1.trans k2).trans k3).trans k4).trans k5).trans k6).trans e1).trans e2) rfl, fun h => absurd ⟨⟨by omega, by omega⟩, True.intro⟩ h⟩
    | free_no hn =>
      refine q_when (b := false) (et_is (et_test (ev_op (ev_var rfl) ev_c (rv_eq rfl))) (by decide +kernel)) (fun h => by cases h) (fun _ K1 k1 => ?_)
      refine q_when (b := false) (et_is (et_test (ev_op (ev_var rfl) ev_c (rv_eq rfl))) (by decide +kernel)) (fun h => by cases h) (fun _ K2 k2 => ?_)
      refine q_when (b := false) (et_is (et_test (ev_op (ev_var rfl) ev_c (rv_eq rfl))) (by decide +kernel)) (fun h => by cases h) (fun _ K3 k3 => ?_)
      refine q_when (b := false) (et_is (et_test (ev_op (ev_var rfl) ev_c (rv_eq rfl))) (by decide +kernel)) (fun h => by cases h) (fun _ K4 k4 => ?_)
      refine q_when (b := false) (et_is (et_test (ev_op (ev_var rfl) ev_c (rv_eq rfl))) (by decide +kernel)) (fun h => by cases h) (fun _ K5 k5 => ?_)
      refine q_when (b := false) (et_is (et_test (ev_op (ev_var rfl) ev_c (rv_eq rfl))) (by decide +kernel)) (fun h => by cases h) (fun _ K6 k6 => ?_)
      have S1 := S.ex (((((k1.trans k2).trans k3).trans k4).trans k5).trans k6)
      obtain ⟨dx, ho⟩ := S1.o
      exact r_mA (ev_var rfl) ho (fl_no _ _ _ ⟨by decide +kernel, by decide +kernel, by decide +kernel⟩) (ea_cons (ev_var rfl) ea_nil) fun H1 e1 => ⟨p, cl, hl, cs, hs, _, rfl, S1.ex e1, fun k hk hlt _ => absurd ⟨by omega, by omega⟩ hn, fun _ H2 e2 => ⟨true, XL.exm sNL, fun _ a ha => ⟨.ref a, rfl, CN, rfl, rfl, rfl, false, .inr ⟨rfl, rfl⟩, fun q H3 hq e3 h3 => fin2' rfl H3 _ (((((((k1.trans k2).trans k3).trans k4).trans k5).trans k6).trans e1).trans (e2.trans e3)) ⟨q, rfl, h3⟩⟩, fun q => nomatch q⟩⟩
    | @free k hlt =>
      refine q_when (b := false) (et_is (et_test (ev_op (ev_var rfl) ev_c (rv_eq rfl))) (by decide +kernel)) (fun h => by cases h) (fun _ K1 k1 => ?_)
      refine q_when (b := false) (et_is (et_test (ev_op (ev_var rfl) ev_c (rv_eq rfl))) (by decide +kernel)) (fun h => by cases h) (fun _ K2 k2 => ?_)
      refine q_when (b := false) (et_is (et_test (ev_op (ev_var rfl) ev_c (rv_eq rfl))) (by decide +kernel)) (fun h => by cases h) (fun _ K3 k3 => ?_)
      refine q_when (b := false) (et_is (et_test (ev_op (ev_var rfl) ev_c (rv_eq rfl))) (by decide +kernel)) (fun h => by cases h) (fun _ K4 k4 => ?_)
      refine q_when (b := false) (et_is (et_test (ev_op (ev_var rfl) ev_c (rv_eq rfl))) (by decide +kernel)) (fun h => by cases h) (fun _ K5 k5 => ?_)
      refine q_when (b := false) (et_is (et_test (ev_op (ev_var rfl) ev_c (rv_eq rfl))) (by decide +kernel)) (fun h => by cases h) (fun _ K6 k6 => ?_)
      have S1 := S.ex (((((k1.trans k2).trans k3).trans k4).trans k5).trans k6)
      obtain ⟨dx, ho⟩ := S1.o
      exact r_mA (ev_var rfl) ho (fl_no _ _ _ ⟨by decide +kernel, by decide +kernel, by decide +kernel⟩) (ea_cons (ev_var rfl) ea_nil) fun H1 e1 => ⟨p, cl, hl, cs, hs, _, rfl, S1.ex e1, fun j2 hk2 hlt2 _ H2 e2 => by
        have e0 : j2 = k := by omega
        subst e0
        exact fin2' rfl H2 _ (((((((k1.trans k2).trans k3).trans k4).trans k5).trans k6).trans e1).trans e2) rfl, fun h => absurd ⟨⟨by omega, by omega⟩, True.intro⟩ h⟩

theorem ok_lf {f : Addr} {fd : FuncData} (F : Fun K "_law_free" "_law_free" sLf f fd) (T : Txt mg K C) : FnOk P w K mg base CX0 1 f fd ["numbers", "held"] (spFree K) := by
  refine F.ok scLf (fun vs H Q E h => ?_) (fun cdv A outer s H vs Q E hr h => ?_)
  · obtain ⟨na, ha, cs, hs, rfl, _⟩ := h
    rfl
  · obtain ⟨na, ha, cs, hs, rfl, hN, hH, hlen, hle, q⟩ := h
    refine ⟨_, (pss_one (ps_ret (pe_lc (own := [("k", 2)]) (g := gName 2) rfl scLf.nd (pi_range1 (by rfl) T.range (pa_cons (pe_callB call_len_seq (by rfl) T.len (by decide +kernel) (pa_cons (pv 0) pa_nil)) pa_nil)) (blkOk_by (own := [("k", 2)]) (N := ["numbers", "held", "k"]) (sc := defScope sLf) (by decide +kernel)) (fun _ _ _ _ _ => pg_name (i := 2) scLf.nd rfl (Or.inl rfl)) (fun _ _ _ _ _ => (pts_one (PW.pt (pw_and (pt_cmpR op_eq (pe_ix (r := rIxL K) ix_list (pv 0) (pv 2) (fun _ _ => rfl)) pe_int (nomark _)) (pw_and1 (pt_not (pt_val (pe_ix (r := rIxL K) ix_list (pv 1) (pv 2) (fun _ _ => rfl))))))))) (fun _ _ _ _ _ => (pv 2))))), ?_⟩
    have eg : given ((cs.length : Int)).toNat (fr1 cs hs false) (fun k => V.int ((k : Nat) : Int)) = (fr cs hs false).map fun k => .int ((k : Nat) : Int) := rfl
    refine s_retL (el_is (el_lcR1 (n := (cs.length : Int)) (fr1 cs hs false) (fun k => V.int ((k : Nat) : Int)) (ea_cons (ev_is (ev_len (ev_var rfl) hN) (by rw [List.length_map])) ea_nil) ⟨by omega, by omega⟩ (fun _ => rfl) (fun k H1 e1 hk => ?_) (fun k H1 e1 hk _ => ev_var rfl)) eg) fun p H1 hp e1 h1 => q p H1 hp e1 h1
    have hk' : k < cs.length := by omega
    have eb : (decide (V.int (cv cs k) = V.int 0) && !hv hs k) = fr1 cs hs false k := by
      unfold fr1
      rw [not_dec]
    exact et_is (et_and (et_test (ev_op (ev_op (ev_var rfl) (ev_var rfl) (rv_ixL (ex_l e1 hN) (atI_nat (cv_at hk')))) ev_c (rv_eq rfl))) (fun _ => et_not (et_B (ev_op (ev_var rfl) (ev_var rfl) (rv_ixL (ex_l e1 hH) (atI_nat (hv_at (by rw [← hlen]; exact hk')))))))) eb
theorem ok_due {f fF : Addr} {fd fdF : FuncData} (F : Fun K "_law_due" "_law_due" sDue f fd) (FFr : Fun K "_law_free" "_law_free" sLf fF fdF) (bFr : Binds K fdF ["numbers", "held"] []) (gFr : mg "_law_free" = some (.ref fF)) (T : Txt mg K C) : FnOk P w K mg base CX0 2 f fd ["numbers", "held", "act", "block"] (spDue K) := by
  have GFr : FnOk P w K mg base CX0 1 fF fdF ["numbers", "held"] (spFree K) := ok_lf FFr T
  refine F.ok scDue (fun vs H Q E h => ?_) (fun cdv A outer s H vs Q E hr h => ?_)
  · obtain ⟨na, ha, cs, hs, a, z, o, cs', rfl, _⟩ := h
    rfl
  · obtain ⟨na, ha, cs, hs, a, z, o, cs', rfl, hN, hH, hlen, hle, hz, hA, q⟩ := h
    refine ⟨_, (pss_cons (ps_if (pt_cmpR op_eq (pv 2) pe_str (nomark _)) (pss_cons (ps_set (i := 4) scDue.nd rfl (Or.inl rfl) (pe_call GFr (hr.mono (by decide)) (by rfl) gFr FFr.kp bFr .nil pass0 (pa_cons (pv 0) (pa_cons (pv 1) pa_nil))))
      (pss_cons (ps_if (pt_cmpR op_le (pe_callB call_len_seq (by rfl) T.len (by decide +kernel) (pa_cons (pv 4) pa_nil)) (pv 3) (nomark _)) (pss_one (ps_ret (pe_lst (pa_cons pe_str (pa_cons pe_str pa_nil))))) pss_nil)
      (pss_one (ps_ret (pe_ix ix_list (pv 4) pe_int (fun _ _ => rfl)))))) pss_nil)
      (pss_cons (ps_if (PW.pt (pw_or (pt_cmpR op_lt (pv 3) pe_int (nomark _)) (pw_or1 (pt_cmpR op_ge (pv 3) (pe_callB call_len_seq (by rfl) T.len (by decide +kernel) (pa_cons (pv 0) pa_nil)) (nomark _))))) (pss_one (ps_ret (pe_lst (pa_cons pe_str (pa_cons pe_str pa_nil))))) pss_nil)
      (pss_cons (ps_if (pt_cmpR op_eq (pv 2) pe_str (nomark _)) (pss_one (ps_ret (pe_ix ix_list (pv 0) (pv 3) (fun _ _ => rfl)))) pss_nil)
      (pss_cons (ps_if (pt_cmpR op_eq (pv 2) pe_str (nomark _)) (pss_one (ps_ret (pe_ix ix_list (pv 1) (pv 3) (fun _ _ => rfl)))) pss_nil)
      (pss_cons (ps_if (pt_cmpR op_eq (pv 2) pe_str (nomark _)) (pss_one (ps_ret (pe_and (pe_cmpR op_gt (pe_ix ix_list (pv 0) (pv 3) (fun _ _ => rfl)) pe_int (nomark _)) (pe_one (pe_not (pe_ix ix_list (pv 1) (pv 3) (fun _ _ => rfl))))))) pss_nil)
      (pss_cons (ps_if (pt_cmpR op_eq (pv 2) pe_str (nomark _)) (pss_one (ps_ret (pe_and (pe_cmpR op_eq (pe_ix ix_list (pv 0) (pv 3) (fun _ _ => rfl)) pe_int (nomark _)) (pe_one (pe_not (pe_ix ix_list (pv 1) (pv 3) (fun _ _ => rfl))))))) pss_nil)
      (pss_cons (ps_if (PW.pt (pw_or (pt_cmpR op_lt (pv 3) pe_int (nomark _)) (pw_or1 (pt_cmpR op_eq (pe_ix ix_list (pv 0) (pv 3) (fun _ _ => rfl)) pe_int (nomark _))))) (pss_one (ps_ret (pe_lst (pa_cons pe_str (pa_cons pe_str pa_nil))))) pss_nil)
      (pss_cons (ps_if (pt_cmpR op_eq (pv 2) pe_str (nomark _)) (pss_one (ps_ret (pe_op op_sub (pe_ix ix_list (pv 0) (pv 3) (fun _ _ => rfl)) pe_int))) pss_nil)
      (pss_one (ps_ret pe_non)))))))))), ?_⟩
    have fin : ∀ H2 v, Ex H H2 → IsOut H2 v o → Q v H2 := fun H2 v e1 h => q H2 v e1 h
    cases hA with
    | take_no h =>
      refine q_when (b := true) (et_is (et_test (ev_op (ev_var rfl) ev_c (rv_eq rfl))) (by decide +kernel)) (fun _ K1 k1 => ?_) (fun h => by cases h)
      refine q_asgL (el_call (vs := [.ref na, .ref ha]) (ea_cons (ev_var rfl) (ea_cons (ev_var rfl) ea_nil)) (fun H1 e1 Q q E => ⟨na, ha, cs, hs, rfl, ex_l (k1.trans e1) hN, ex_l (k1.trans e1) hH, hlen, hle, q⟩)) fun fa H2 hfa e2 h2 => ?_
      refine q_when (b := true) (et_is (et_test (ev_op (ev_len (ev_var rfl) (sq_of h2)) (ev_var rfl) rv_I0)) (by rw [List.length_map]; exact decide_eq_true h)) (fun _ H3 e3 => ?_) (fun h => by cases h)
      exact s_retL (el_lst (ea_cons ev_c (ea_cons ev_c ea_nil)) (by simp)) fun q H4 hq e4 h4 => fin H4 _ (((k1.trans e2).trans e3).trans e4) ⟨q, rfl, h4⟩
    | take h hk hkl =>
      refine q_when (b := true) (et_is (et_test (ev_op (ev_var rfl) ev_c (rv_eq rfl))) (by decide +kernel)) (fun _ K1 k1 => ?_) (fun h => by cases h)
      refine q_asgL (el_call (vs := [.ref na, .ref ha]) (ea_cons (ev_var rfl) (ea_cons (ev_var rfl) ea_nil)) (fun H1 e1 Q q E => ⟨na, ha, cs, hs, rfl, ex_l (k1.trans e1) hN, ex_l (k1.trans e1) hH, hlen, hle, q⟩)) fun fa H2 hfa e2 h2 => ?_
      obtain ⟨k2, hk2, _, hk3⟩ := head_of (cs := cs) (hs := hs) (b := false) (by have := hz rfl; omega)
      rw [hk] at hk2
      cases V.int.inj hk2
      refine q_when (b := false) (et_is (et_test (ev_op (ev_len (ev_var rfl) (sq_of h2)) (ev_var rfl) rv_I0)) (by rw [List.length_map]; exact decide_eq_false (by omega))) (fun h => by cases h) (fun _ H3 e3 => ?_)
      exact s_ret (ev_op (ev_var rfl) ev_c (rv_ixL (sq_of (e3 _ _ h2)) (atI_nat (j := 0) (by rw [List.getElem?_map, hk3]; rfl)))) fun H4 e4 => fin H4 _ (((k1.trans e2).trans e3).trans e4) rfl
    | share_no hn =>
      refine q_when (b := false) (et_is (et_test (ev_op (ev_var rfl) ev_c (rv_eq rfl))) (by decide +kernel)) (fun h => by cases h) (fun _ K1 k1 => ?_)
      by_cases hin : In cs z
      · obtain ⟨k, rfl, hlt⟩ := nat_of hin
        refine q_when (b := false) (et_is (et_or (et_test (ev_op (ev_var rfl) ev_c rv_I0)) (fun _ => et_test (ev_op (ev_var rfl) (ev_len (ev_var rfl) (ex_l k1 hN)) rv_I0))) (by rw [List.length_map]; simp; omega)) (fun h => by cases h) (fun _ K2 k2 => ?_)
        refine q_when (b := false) (et_is (et_test (ev_op (ev_var rfl) ev_c (rv_eq rfl))) (by decide +kernel)) (fun h => by cases h) (fun _ K3 k3 => ?_)
        refine q_when (b := false) (et_is (et_test (ev_op (ev_var rfl) ev_c (rv_eq rfl))) (by decide +kernel)) (fun h => by cases h) (fun _ K4 k4 => ?_)
        refine q_when (b := false) (et_is (et_test (ev_op (ev_var rfl) ev_c (rv_eq rfl))) (by decide +kernel)) (fun h => by cases h) (fun _ K5 k5 => ?_)
        refine q_when (b := false) (et_is (et_test (ev_op (ev_var rfl) ev_c (rv_eq rfl))) (by decide +kernel)) (fun h => by cases h) (fun _ K6 k6 => ?_)
        refine q_when (b := true) (et_is (et_or (et_test (ev_op (ev_var rfl) ev_c rv_I0)) (fun _ => et_test (ev_op (ev_op (ev_var rfl) (ev_var rfl) (rv_ixL (ex_l (((((k1.trans k2).trans k3).trans k4).trans k5).trans k6) hN) (atI_nat (cv_at hlt)))) ev_c (rv_eq rfl)))) (usedB hlt (fun h => hn ⟨hin, h⟩))) (fun _ K7 k7 => ?_) (fun h => by cases h)
        exact s_retL (el_lst (ea_cons ev_c (ea_cons ev_c ea_nil)) (by simp)) fun q H4 hq e4 h4 => fin H4 _ (((((((k1.trans k2).trans k3).trans k4).trans k5).trans k6).trans k7).trans e4) ⟨q, rfl, h4⟩
      · refine q_when (b := true) (et_is (et_or (et_test (ev_op (ev_var rfl) ev_c rv_I0)) (fun _ => et_test (ev_op (ev_var rfl) (ev_len (ev_var rfl) (ex_l k1 hN)) rv_I0))) (by rw [List.length_map]; simp; unfold In at hin; omega)) (fun _ K2 k2 => ?_) (fun h => by cases h)
        exact s_retL (el_lst (ea_cons ev_c (ea_cons ev_c ea_nil)) (by simp)) fun q H4 hq e4 h4 => fin H4 _ ((k1.trans k2).trans e4) ⟨q, rfl, h4⟩
    | @share k hlt hu =>
      refine q_when (b := false) (et_is (et_test (ev_op (ev_var rfl) ev_c (rv_eq rfl))) (by decide +kernel)) (fun h => by cases h) (fun _ K1 k1 => ?_)
      refine q_when (b := false) (et_is (et_or (et_test (ev_op (ev_var rfl) ev_c rv_I0)) (fun _ => et_test (ev_op (ev_var rfl) (ev_len (ev_var rfl) (ex_l k1 hN)) rv_I0))) (by rw [List.length_map]; simp; omega)) (fun h => by cases h) (fun _ K2 k2 => ?_)
      refine q_when (b := false) (et_is (et_test (ev_op (ev_var rfl) ev_c (rv_eq rfl))) (by decide +kernel)) (fun h => by cases h) (fun _ K3 k3 => ?_)
      refine q_when (b := false) (et_is (et_test (ev_op (ev_var rfl) ev_c (rv_eq rfl))) (by decide +kernel)) (fun h => by cases h) (fun _ K4 k4 => ?_)
      refine q_when (b := false) (et_is (et_test (ev_op (ev_var rfl) ev_c (rv_eq rfl))) (by decide +kernel)) (fun h => by cases h) (fun _ K5 k5 => ?_)
      refine q_when (b := false) (et_is (et_test (ev_op (ev_var rfl) ev_c (rv_eq rfl))) (by decide +kernel)) (fun h => by cases h) (fun _ K6 k6 => ?_)
      refine q_when (b := false) (et_is (et_or (et_test (ev_op (ev_var rfl) ev_c rv_I0)) (fun _ => et_test (ev_op (ev_op (ev_var rfl) (ev_var rfl) (rv_ixL (ex_l (((((k1.trans k2).trans k3).trans k4).trans k5).trans k6) hN) (atI_nat (cv_at hlt)))) ev_c (rv_eq rfl)))) (usedA hlt hu)) (fun h => by cases h) (fun _ K7 k7 => ?_)
      refine q_when (b := false) (et_is (et_test (ev_op (ev_var rfl) ev_c (rv_eq rfl))) (by decide +kernel)) (fun h => by cases h) (fun _ K8 k8 => ?_)
      exact s_ret ev_c fun H4 e4 => fin H4 _ ((((((((k1.trans k2).trans k3).trans k4).trans k5).trans k6).trans k7).trans k8).trans e4) rfl
    | drop_no hn =>
      refine q_when (b := false) (et_is (et_test (ev_op (ev_var rfl) ev_c (rv_eq rfl))) (by decide +kernel)) (fun h => by cases h) (fun _ K1 k1 => ?_)
      by_cases hin : In cs z
      · obtain ⟨k, rfl, hlt⟩ := nat_of hin
        refine q_when (b := false) (et_is (et_or (et_test (ev_op (ev_var rfl) ev_c rv_I0)) (fun _ => et_test (ev_op (ev_var rfl) (ev_len (ev_var rfl) (ex_l k1 hN)) rv_I0))) (by rw [List.length_map]; simp; omega)) (fun h => by cases h) (fun _ K2 k2 => ?_)
        refine q_when (b := false) (et_is (et_test (ev_op (ev_var rfl) ev_c (rv_eq rfl))) (by decide +kernel)) (fun h => by cases h) (fun _ K3 k3 => ?_)
        refine q_when (b := false) (et_is (et_test (ev_op (ev_var rfl) ev_c (rv_eq rfl))) (by decide +kernel)) (fun h => by cases h) (fun _ K4 k4 => ?_)
        refine q_when (b := false) (et_is (et_test (ev_op (ev_var rfl) ev_c (rv_eq rfl))) (by decide +kernel)) (fun h => by cases h) (fun _ K5 k5 => ?_)
        refine q_when (b := false) (et_is (et_test (ev_op (ev_var rfl) ev_c (rv_eq rfl))) (by decide +kernel)) (fun h => by cases h) (fun _ K6 k6 => ?_)
        refine q_when (b := true) (et_is (et_or (et_test (ev_op (ev_var rfl) ev_c rv_I0)) (fun _ => et_test (ev_op (ev_op (ev_var rfl) (ev_var rfl) (rv_ixL (ex_l (((((k1.trans k2).trans k3).trans k4).trans k5).trans k6) hN) (atI_nat (cv_at hlt)))) ev_c (rv_eq rfl)))) (usedB hlt (fun h => hn ⟨hin, h⟩))) (fun _ K7 k7 => ?_) (fun h => by cases h)
        exact s_retL (el_lst (ea_cons ev_c (ea_cons ev_c ea_nil)) (by simp)) fun q H4 hq e4 h4 => fin H4 _ (((((((k1.trans k2).trans k3).trans k4).trans k5).trans k6).trans k7).trans e4) ⟨q, rfl, h4⟩
      · refine q_when (b := true) (et_is (et_or (et_test (ev_op (ev_var rfl) ev_c rv_I0)) (fun _ => et_test (ev_op (ev_var rfl) (ev_len (ev_var rfl) (ex_l k1 hN)) rv_I0))) (by rw [List.length_map]; simp; unfold In at hin; omega)) (fun _ K2 k2 => ?_) (fun h => by cases h)
        exact s_retL (el_lst (ea_cons ev_c (ea_cons ev_c ea_nil)) (by simp)) fun q H4 hq e4 h4 => fin H4 _ ((k1.trans k2).trans e4) ⟨q, rfl, h4⟩
    | @drop k hlt hu =>
      refine q_when (b := false) (et_is (et_test (ev_op (ev_var rfl) ev_c (rv_eq rfl))) (by decide +kernel)) (fun h => by cases h) (fun _ K1 k1 => ?_)
      refine q_when (b := false) (et_is (et_or (et_test (ev_op (ev_var rfl) ev_c rv_I0)) (fun _ => et_test (ev_op (ev_var rfl) (ev_len (ev_var rfl) (ex_l k1 hN)) rv_I0))) (by rw [List.length_map]; simp; omega)) (fun h => by cases h) (fun _ K2 k2 => ?_)
      refine q_when (b := false) (et_is (et_test (ev_op (ev_var rfl) ev_c (rv_eq rfl))) (by decide +kernel)) (fun h => by cases h) (fun _ K3 k3 => ?_)
      refine q_when (b := false) (et_is (et_test (ev_op (ev_var rfl) ev_c (rv_eq rfl))) (by decide +kernel)) (fun h => by cases h) (fun _ K4 k4 => ?_)
      refine q_when (b := false) (et_is (et_test (ev_op (ev_var rfl) ev_c (rv_eq rfl))) (by decide +kernel)) (fun h => by cases h) (fun _ K5 k5 => ?_)
      refine q_when (b := false) (et_is (et_test (ev_op (ev_var rfl) ev_c (rv_eq rfl))) (by decide +kernel)) (fun h => by cases h) (fun _ K6 k6 => ?_)
      refine q_when (b := false) (et_is (et_or (et_test (ev_op (ev_var rfl) ev_c rv_I0)) (fun _ => et_test (ev_op (ev_op (ev_var rfl) (ev_var rfl) (rv_ixL (ex_l (((((k1.trans k2).trans k3).trans k4).trans k5).trans k6) hN) (atI_nat (cv_at hlt)))) ev_c (rv_eq rfl)))) (usedA hlt hu)) (fun h => by cases h) (fun _ K7 k7 => ?_)
      refine q_when (b := true) (et_is (et_test (ev_op (ev_var rfl) ev_c (rv_eq rfl))) (by decide +kernel)) (fun _ K8 k8 => ?_) (fun h => by cases h)
      exact s_ret (ev_op (ev_op (ev_var rfl) (ev_var rfl) (rv_ixL (ex_l (((((((k1.trans k2).trans k3).trans k4).trans k5).trans k6).trans k7).trans k8) hN) (atI_nat (cv_at hlt)))) ev_c rv_I0) fun H4 e4 => fin H4 _ ((((((((k1.trans k2).trans k3).trans k4).trans k5).trans k6).trans k7).trans k8).trans e4) rfl
    | uses_no hn =>
      refine q_when (b := false) (et_is (et_test (ev_op (ev_var rfl) ev_c (rv_eq rfl))) (by decide +kernel)) (fun h => by cases h) (fun _ K1 k1 => ?_)
      refine q_when (b := true) (et_is (et_or (et_test (ev_op (ev_var rfl) ev_c rv_I0)) (fun _ => et_test (ev_op (ev_var rfl) (ev_len (ev_var rfl) (ex_l k1 hN)) rv_I0))) (by rw [List.length_map]; simp; unfold In at hn; omega)) (fun _ K2 k2 => ?_) (fun h => by cases h)
      exact s_retL (el_lst (ea_cons ev_c (ea_cons ev_c ea_nil)) (by simp)) fun q H4 hq e4 h4 => fin H4 _ ((k1.trans k2).trans e4) ⟨q, rfl, h4⟩
    | @uses k hlt =>
      refine q_when (b := false) (et_is (et_test (ev_op (ev_var rfl) ev_c (rv_eq rfl))) (by decide +kernel)) (fun h => by cases h) (fun _ K1 k1 => ?_)
      refine q_when (b := false) (et_is (et_or (et_test (ev_op (ev_var rfl) ev_c rv_I0)) (fun _ => et_test (ev_op (ev_var rfl) (ev_len (ev_var rfl) (ex_l k1 hN)) rv_I0))) (by rw [List.length_map]; simp; omega)) (fun h => by cases h) (fun _ K2 k2 => ?_)
      refine q_when (b := true) (et_is (et_test (ev_op (ev_var rfl) ev_c (rv_eq rfl))) (by decide +kernel)) (fun _ K3 k3 => ?_) (fun h => by cases h)
      exact s_ret (ev_op (ev_var rfl) (ev_var rfl) (rv_ixL (ex_l ((k1.trans k2).trans k3) hN) (atI_nat (cv_at hlt)))) fun H4 e4 => fin H4 _ (((k1.trans k2).trans k3).trans e4) rfl
    | held_no hn =>
      refine q_when (b := false) (et_is (et_test (ev_op (ev_var rfl) ev_c (rv_eq rfl))) (by decide +kernel)) (fun h => by cases h) (fun _ K1 k1 => ?_)
      refine q_when (b := true) (et_is (et_or (et_test (ev_op (ev_var rfl) ev_c rv_I0)) (fun _ => et_test (ev_op (ev_var rfl) (ev_len (ev_var rfl) (ex_l k1 hN)) rv_I0))) (by rw [List.length_map]; simp; unfold In at hn; omega)) (fun _ K2 k2 => ?_) (fun h => by cases h)
      exact s_retL (el_lst (ea_cons ev_c (ea_cons ev_c ea_nil)) (by simp)) fun q H4 hq e4 h4 => fin H4 _ ((k1.trans k2).trans e4) ⟨q, rfl, h4⟩
    | @held k hlt =>
      refine q_when (b := false) (et_is (et_test (ev_op (ev_var rfl) ev_c (rv_eq rfl))) (by decide +kernel)) (fun h => by cases h) (fun _ K1 k1 => ?_)
      refine q_when (b := false) (et_is (et_or (et_test (ev_op (ev_var rfl) ev_c rv_I0)) (fun _ => et_test (ev_op (ev_var rfl) (ev_len (ev_var rfl) (ex_l k1 hN)) rv_I0))) (by rw [List.length_map]; simp; omega)) (fun h => by cases h) (fun _ K2 k2 => ?_)
      refine q_when (b := false) (et_is (et_test (ev_op (ev_var rfl) ev_c (rv_eq rfl))) (by decide +kernel)) (fun h => by cases h) (fun _ K3 k3 => ?_)
      refine q_when (b := true) (et_is (et_test (ev_op (ev_var rfl) ev_c (rv_eq rfl))) (by decide +kernel)) (fun _ K4 k4 => ?_) (fun h => by cases h)
      exact s_ret (ev_op (ev_var rfl) (ev_var rfl) (rv_ixL (ex_l (((k1.trans k2).trans k3).trans k4) hH) (atI_nat (hv_at (by rw [← hlen]; exact hlt))))) fun H4 e4 => fin H4 _ ((((k1.trans k2).trans k3).trans k4).trans e4) rfl
    | new_no hn =>
      refine q_when (b := false) (et_is (et_test (ev_op (ev_var rfl) ev_c (rv_eq rfl))) (by decide +kernel)) (fun h => by cases h) (fun _ K1 k1 => ?_)
      refine q_when (b := true) (et_is (et_or (et_test (ev_op (ev_var rfl) ev_c rv_I0)) (fun _ => et_test (ev_op (ev_var rfl) (ev_len (ev_var rfl) (ex_l k1 hN)) rv_I0))) (by rw [List.length_map]; simp; unfold In at hn; omega)) (fun _ K2 k2 => ?_) (fun h => by cases h)
      exact s_retL (el_lst (ea_cons ev_c (ea_cons ev_c ea_nil)) (by simp)) fun q H4 hq e4 h4 => fin H4 _ ((k1.trans k2).trans e4) ⟨q, rfl, h4⟩
    | @new k hlt =>
      refine q_when (b := false) (et_is (et_test (ev_op (ev_var rfl) ev_c (rv_eq rfl))) (by decide +kernel)) (fun h => by cases h) (fun _ K1 k1 => ?_)
      refine q_when (b := false) (et_is (et_or (et_test (ev_op (ev_var rfl) ev_c rv_I0)) (fun _ => et_test (ev_op (ev_var rfl) (ev_len (ev_var rfl) (ex_l k1 hN)) rv_I0))) (by rw [List.length_map]; simp; omega)) (fun h => by cases h) (fun _ K2 k2 => ?_)
      refine q_when (b := false) (et_is (et_test (ev_op (ev_var rfl) ev_c (rv_eq rfl))) (by decide +kernel)) (fun h => by cases h) (fun _ K3 k3 => ?_)
      refine q_when (b := false) (et_is (et_test (ev_op (ev_var rfl) ev_c (rv_eq rfl))) (by decide +kernel)) (fun h => by cases h) (fun _ K4 k4 => ?_)
      refine q_when (b := true) (et_is (et_test (ev_op (ev_var rfl) ev_c (rv_eq rfl))) (by decide +kernel)) (fun _ K5 k5 => ?_) (fun h => by cases h)
      exact s_ret (ev_andV (ev_op (ev_op (ev_var rfl) (ev_var rfl) (rv_ixL (ex_l ((((k1.trans k2).trans k3).trans k4).trans k5) hN) (atI_nat (cv_at hlt)))) ev_c rv_I0) (fun _ => ev_notV (ev_op (ev_var rfl) (ev_var rfl) (rv_ixL (ex_l ((((k1.trans k2).trans k3).trans k4).trans k5) hH) (atI_nat (hv_at (by rw [← hlen]; exact hlt))))))) fun H4 e4 => fin H4 _ (((((k1.trans k2).trans k3).trans k4).trans k5).trans e4) rfl
    | free_no hn =>
      refine q_when (b := false) (et_is (et_test (ev_op (ev_var rfl) ev_c (rv_eq rfl))) (by decide +kernel)) (fun h => by cases h) (fun _ K1 k1 => ?_)
      refine q_when (b := true) (et_is (et_or (et_test (ev_op (ev_var rfl) ev_c rv_I0)) (fun _ => et_test (ev_op (ev_var rfl) (ev_len (ev_var rfl) (ex_l k1 hN)) rv_I0))) (by rw [List.length_map]; simp; unfold In at hn; omega)) (fun _ K2 k2 => ?_) (fun h => by cases h)
      exact s_retL (el_lst (ea_cons ev_c (ea_cons ev_c ea_nil)) (by simp)) fun q H4 hq e4 h4 => fin H4 _ ((k1.trans k2).trans e4) ⟨q, rfl, h4⟩
    | @free k hlt =>
      refine q_when (b := false) (et_is (et_test (ev_op (ev_var rfl) ev_c (rv_eq rfl))) (by decide +kernel)) (fun h => by cases h) (fun _ K1 k1 => ?_)
      refine q_when (b := false) (et_is (et_or (et_test (ev_op (ev_var rfl) ev_c rv_I0)) (fun _ => et_test (ev_op (ev_var rfl) (ev_len (ev_var rfl) (ex_l k1 hN)) rv_I0))) (by rw [List.length_map]; simp; omega)) (fun h => by cases h) (fun _ K2 k2 => ?_)
      refine q_when (b := false) (et_is (et_test (ev_op (ev_var rfl) ev_c (rv_eq rfl))) (by decide +kernel)) (fun h => by cases h) (fun _ K3 k3 => ?_)
      refine q_when (b := false) (et_is (et_test (ev_op (ev_var rfl) ev_c (rv_eq rfl))) (by decide +kernel)) (fun h => by cases h) (fun _ K4 k4 => ?_)
      refine q_when (b := false) (et_is (et_test (ev_op (ev_var rfl) ev_c (rv_eq rfl))) (by decide +kernel)) (fun h => by cases h) (fun _ K5 k5 => ?_)
      refine q_when (b := true) (et_is (et_test (ev_op (ev_var rfl) ev_c (rv_eq rfl))) (by decide +kernel)) (fun _ K6 k6 => ?_) (fun h => by cases h)
      exact s_ret (ev_andV (ev_op (ev_op (ev_var rfl) (ev_var rfl) (rv_ixL (ex_l (((((k1.trans k2).trans k3).trans k4).trans k5).trans k6) hN) (atI_nat (cv_at hlt)))) ev_c (rv_eq rfl)) (fun _ => ev_notV (ev_op (ev_var rfl) (ev_var rfl) (rv_ixL (ex_l (((((k1.trans k2).trans k3).trans k4).trans k5).trans k6) hH) (atI_nat (hv_at (by rw [← hlen]; exact hlt))))))) fun H4 e4 => fin H4 _ ((((((k1.trans k2).trans k3).trans k4).trans k5).trans k6).trans e4) rfl

end
end K21

set_option Elab.async false
set_option linter.all false
set_option maxRecDepth 100000
set_option maxHeartbeats 4000000
namespace K21
open PySem PySem.Spec PyProof.Rows L2 Evl LK LT LG LS LQ LX LO
def rfD (b : Bool) : PyData := .list [.str "refused", .str (wS b)]
theorem sh_rf (b : Bool) : Sh 1 (rfD b) := by cases b <;> exact ⟨by decide +kernel, by decide +kernel⟩
theorem rf_int (i : Int) (b : Bool) : PyData.eqv (.int i) (rfD b) = false := by cases b <;> simp [rfD, PyData.eqv]
theorem dp_rf {K : PySem.W.Frag} {H : Hp} {q : Addr} {b : Bool} (h : H q = some (.lst [.str "refused", .str (wS b)])) : Dp K H (.ref q) (rfD b) := .lst (sq_of h) (.cons (.str _) (.cons (.str _) .nil))
def good : Out → Prop
  | .val v => v = .non ∨ (∃ i, v = .int i) ∨ ∃ b, v = .bl b
  | .ref _ => True
theorem IsOut.ex {H H' : Hp} {v : V} {o : Out} (h : IsOut H v o) (e : Ex H H') : IsOut H' v o := by
  cases o with
  | val u => exact h
  | ref b => obtain ⟨q, e1, h1⟩ := h; exact ⟨q, e1, e _ _ h1⟩
theorem Act.good {cs cs' : List Int} {hs : List Bool} {a : Str} {z : Int} {o : Out} (h : Act cs hs a z o cs') : K21.good o := by
  cases h <;> first | exact True.intro | exact .inl rfl | exact .inr (.inl ⟨_, rfl⟩) | exact .inr (.inr ⟨_, rfl⟩)
def spSame : Sp := fun vs H Q _ => ∃ v w o, vs = [v, w] ∧ IsOut H v o ∧ IsOut H w o ∧ good o ∧ RetV (.bl true) H Q
def spCo (K : PySem.W.Frag) (C : Addr) : Sp := fun vs H Q _ => ∃ p cl hl na ha cs hs, vs = [.ref p, .ref na, .ref ha] ∧ Sp' C H p cl hl cs hs ∧ SqL K H na (cs.map V.int) ∧ SqL K H ha (hs.map V.bl) ∧ RetV (.bl true) H Q
section
variable {P : Program} {w : World} {K : PySem.W.Frag} {mg : Str → Option Value} {base : Heap} {C CN CS CL : Addr}
theorem sv_same {H : Hp} {v w : V} {o : Out} (h1 : IsOut H v o) (h2 : IsOut H w o) (h3 : good o) : SpV spSame [v, w] H (.bl true) := fun H1 e1 Q q E => ⟨v, w, o, rfl, h1.ex e1, h2.ex e1, h3, q⟩
theorem ok_same {f : Addr} {fd : FuncData} (F : Fun K "_law_same" "_law_same" sSame f fd) (T : Txt mg K C) : FnOk P w K mg base CX0 1 f fd ["told", "due"] spSame := by
  refine F.ok scSame (fun vs H Q E h => ?_) (fun cdv A outer s H vs Q E hr h => ?_)
  · obtain ⟨v, w, o, rfl, _⟩ := h
    rfl
  · obtain ⟨v, w, o, rfl, hv, hw, hg, q⟩ := h
    refine ⟨_, (pss_cons (ps_if (pt_cmpR op_isN (pv 1) pe_non (nomark _)) (pss_one (ps_ret (pe_cmpR op_isN (pv 0) pe_non (nomark _)))) pss_nil)
      (pss_one (ps_ret (pe_and (pe_cmpR op_eq (pe_callB call_isi (by rfl) T.isinstance (by decide +kernel) (pa_cons (pv 0) (pa_cons (pe_bltn (v := .ty "bool") (u := .type "bool") (by rfl) T.bool (by decide +kernel) rfl) pa_nil))) (pe_callB call_isi (by rfl) T.isinstance (by decide +kernel) (pa_cons (pv 1) (pa_cons (pe_bltn (v := .ty "bool") (u := .type "bool") (by rfl) T.bool (by decide +kernel) rfl) pa_nil))) (nomark _)) (pe_one (pe_cmpR (op_eqD hr.units) (pv 0) (pv 1) (nomark _))))))), ?_⟩
    cases o with
    | val u =>
      cases hv
      cases hw
      rcases hg with rfl | ⟨i, rfl⟩ | ⟨b, rfl⟩
      · refine q_when (b := true) (et_is (et_test (ev_op (ev_var rfl) ev_c rv_isN)) (decide_eq_true rfl)) (fun _ H1 e1 => ?_) (fun h => by cases h)
        exact s_ret (ev_is (ev_op (ev_var rfl) ev_c rv_isN) (congrArg V.bl (decide_eq_true rfl))) fun H2 e2 => q H2 (e1.trans e2)
      · refine q_when (b := false) (et_is (et_test (ev_op (ev_var rfl) ev_c rv_isN)) (decide_eq_false fun e => V.noConfusion e)) (fun h => by cases h) (fun _ H1 e1 => ?_)
        exact s_ret (ev_is (ev_andV (ev_op (ev_isi (b := false) (ev_var rfl) ev_c (fun _ _ => .base (.int _)) (kit_ty rfl)) (ev_isi (b := false) (ev_var rfl) ev_c (fun _ _ => .base (.int _)) (kit_ty rfl)) (rv_eq rfl)) (fun _ => ev_op (ev_var rfl) (ev_var rfl) (rv_eqD (.int i) (.int i) (sh_int i 1) (by decide)))) (by simp)) fun H2 e2 => q H2 (e1.trans e2)
      · refine q_when (b := false) (et_is (et_test (ev_op (ev_var rfl) ev_c rv_isN)) (decide_eq_false fun e => V.noConfusion e)) (fun h => by cases h) (fun _ H1 e1 => ?_)
        exact s_ret (ev_is (ev_andV (ev_op (ev_isi (b := true) (ev_var rfl) ev_c (fun _ _ => .base (.bl _)) (kit_ty rfl)) (ev_isi (b := true) (ev_var rfl) ev_c (fun _ _ => .base (.bl _)) (kit_ty rfl)) (rv_eq rfl)) (fun _ => ev_op (ev_var rfl) (ev_var rfl) (rv_eqD (.bl b) (.bl b) (sh_bool b 1) (by decide)))) (by simp)) fun H2 e2 => q H2 (e1.trans e2)
    | ref b =>
      obtain ⟨q1, rfl, h1⟩ := hv
      obtain ⟨q2, rfl, h2⟩ := hw
      refine q_when (b := false) (et_is (et_test (ev_op (ev_var rfl) ev_c rv_isN)) (decide_eq_false fun e => V.noConfusion e)) (fun h => by cases h) (fun _ H1 e1 => ?_)
      exact s_ret (ev_is (ev_andV (ev_op (ev_isi (b := false) (ev_var rfl) ev_c (fun H1' e' => .base (.lst ((e1.trans e') _ _ h1))) (kit_ty rfl)) (ev_isi (b := false) (ev_var rfl) ev_c (fun H1' e' => .base (.lst ((e1.trans e') _ _ h2))) (kit_ty rfl)) (rv_eq rfl)) (fun _ => ev_op (ev_var rfl) (ev_var rfl) (rv_eqD (dp_rf (e1 _ _ h1)) (dp_rf (e1 _ _ h2)) (sh_rf b) (by decide)))) (by simp)) fun H2 e2 => q H2 (e1.trans e2)
theorem ok_co {f fF fS f1 f2 f3 : Addr} {fd fdF fdS fd1 fd2 fd3 : FuncData} (F : Fun K "_law_counts" "_law_counts" sCounts f fd) (FFr : Fun K "_law_free" "_law_free" sLf fF fdF) (bFr : Binds K fdF ["numbers", "held"] []) (gFr : mg "_law_free" = some (.ref fF)) (FSm : Fun K "_law_same" "_law_same" sSame fS fdS) (bSm : Binds K fdS ["told", "due"] []) (gSm : mg "_law_same" = some (.ref fS))
    (Gfree : FnOk P w K mg base CX0 2 f1 fd1 ["self"] (spSelf C fun cs hs => .int ((fr cs hs false).length : Nat))) (bfree : Binds K fd1 ["self"] []) (mfree : Meth K C "free" f1)
    (Gpending : FnOk P w K mg base CX0 2 f2 fd2 ["self"] (spSelf C fun cs hs => .int ((fr cs hs true).length : Nat))) (bpending : Binds K fd2 ["self"] []) (mpending : Meth K C "pending" f2)
    (Gleast_free : FnOk P w K mg base CX0 5 f3 fd3 ["self"] (spSelf C fun cs hs => headV (fr cs hs false))) (bleast_free : Binds K fd3 ["self"] []) (mleast_free : Meth K C "least_free" f3) (T : Txt mg K C) : FnOk P w K mg base CX0 6 f fd ["space", "numbers", "held"] (spCo K C) := by
  have GFr : FnOk P w K mg base CX0 1 fF fdF ["numbers", "held"] (spFree K) := ok_lf FFr T
  have GSm : FnOk P w K mg base CX0 1 fS fdS ["told", "due"] spSame := ok_same FSm T
  refine F.ok scCounts (fun vs H Q E h => ?_) (fun cdv A outer s H vs Q E hr h => ?_)
  · obtain ⟨p, cl, hl, na, ha, cs, hs, rfl, _⟩ := h
    rfl
  · obtain ⟨p, cl, hl, na, ha, cs, hs, rfl, S, hN, hH, q⟩ := h
    obtain ⟨dx, ho⟩ := S.o
    have hle := S.le
    have hlen := S.len
    refine ⟨_, (pss_cons (ps_set (i := 3) scCounts.nd rfl (Or.inl rfl) (pe_call GFr (hr.mono (by decide)) (by rfl) gFr FFr.kp bFr .nil pass0 (pa_cons (pv 1) (pa_cons (pv 2) pa_nil))))
      (pss_cons (ps_setLc (i := 4) (own := [("k", 6)]) (g := gName 6) rfl scCounts.nd rfl rfl (sw_true rfl rfl rfl (by decide +kernel)) (pi_range1 (by rfl) T.range (pa_cons (pe_callB call_len_seq (by rfl) T.len (by decide +kernel) (pa_cons (pv 1) pa_nil)) pa_nil)) (blkOk_by (own := [("k", 6)]) (N := ["space", "numbers", "held", "free", "pending", "least", "k"]) (sc := defScope sCounts) (by decide +kernel)) (fun _ _ _ _ _ => pg_name (i := 6) scCounts.nd rfl (Or.inl rfl)) (fun _ _ _ _ _ => (pts_one (PW.pt (pw_and (pt_cmpR op_eq (pe_ix (r := rIxL K) ix_list (pv 1) (pv 6) (fun _ _ => rfl)) pe_int (nomark _)) (pw_and1 (pt_val (pe_ix (r := rIxL K) ix_list (pv 2) (pv 6) (fun _ _ => rfl)))))))) (fun _ _ _ _ _ => (pv 6)))
      (pss_cons (ps_set (i := 5) scCounts.nd rfl (Or.inl rfl) pe_non)
      (pss_cut (ps_if (pt_cmpR op_gt (pe_callB call_len_seq (by rfl) T.len (by decide +kernel) (pa_cons (pv 3) pa_nil)) pe_int (nomark _)) (pss_one (ps_set (i := 5) scCounts.nd rfl (Or.inl rfl) (pe_ix ix_list (pv 3) pe_int (fun _ _ => rfl)))) pss_nil)
      (pss_one (ps_ret (pe_and (pe_call GSm (hr.mono (by decide)) (by rfl) gSm FSm.kp bSm .nil pass0 (pa_cons (pe_meth0 (pv 0) T.cl mfree Gfree (hr.mono (by decide)) bfree .nil pass0) (pa_cons (pe_callB call_len_seq (by rfl) T.len (by decide +kernel) (pa_cons (pv 3) pa_nil)) pa_nil))) (pe_and (pe_call GSm (hr.mono (by decide)) (by rfl) gSm FSm.kp bSm .nil pass0 (pa_cons (pe_meth0 (pv 0) T.cl mpending Gpending (hr.mono (by decide)) bpending .nil pass0) (pa_cons (pe_callB call_len_seq (by rfl) T.len (by decide +kernel) (pa_cons (pv 4) pa_nil)) pa_nil))) (pe_one (pe_cmpR op_eq (pe_meth0 (pv 0) T.cl mleast_free Gleast_free (hr.mono (by decide)) bleast_free .nil pass0) (pv 5) (nomark _))))))))))), ?_⟩
    refine q_asgL (el_call (vs := [.ref na, .ref ha]) (ea_cons (ev_var rfl) (ea_cons (ev_var rfl) ea_nil)) (fun H1 e1 Q q E => ⟨na, ha, cs, hs, rfl, ex_l e1 hN, ex_l e1 hH, hlen, hle, q⟩)) fun fa H1 hfa e1 h1 => ?_
    have eg : given ((cs.length : Int)).toNat (fr1 cs hs true) (fun k => V.int ((k : Nat) : Int)) = (fr cs hs true).map fun k => .int ((k : Nat) : Int) := rfl
    refine q_asgL (el_is (el_lcR1 (n := (cs.length : Int)) (fr1 cs hs true) (fun k => V.int ((k : Nat) : Int)) (ea_cons (ev_is (ev_len (ev_var rfl) (ex_l e1 hN)) (by rw [List.length_map])) ea_nil) ⟨by omega, by omega⟩ (fun _ => rfl) (fun k H2 e2 hk => ?_) (fun k H2 e2 hk _ => ev_var rfl)) eg) fun pa H2 hpa e2 h2 => ?_
    · have hk' : k < cs.length := by omega
      have eb : (decide (V.int (cv cs k) = V.int 0) && hv hs k) = fr1 cs hs true k := by
        unfold fr1
        cases hv hs k
        · rw [decide_eq_false (fun h : V.bl false = V.bl true => by cases h)]
        · rw [decide_eq_true (rfl : V.bl true = V.bl true)]
      exact et_is (et_and (et_test (ev_op (ev_op (ev_var rfl) (ev_var rfl) (rv_ixL (ex_l (e1.trans e2) hN) (atI_nat (cv_at hk')))) ev_c (rv_eq rfl))) (fun _ => et_B (ev_op (ev_var rfl) (ev_var rfl) (rv_ixL (ex_l (e1.trans e2) hH) (atI_nat (hv_at (by rw [← hlen]; exact hk'))))))) eb
    refine q_asg ev_c fun H3 e3 => ?_
    have e02 := e1.trans e2
    refine q_cut (M := fun σ2 H4 => σ2 = [some (.ref p), some (.ref na), some (.ref ha), some (.ref fa), some (.ref pa), some (headV (fr cs hs false)), none] ∧ Ex H3 H4) ?_ ?_
    · cases hf : fr cs hs false with
      | nil =>
        rw [hf] at h1
        exact s_when (b := false) (et_is (et_test (ev_op (ev_len (ev_var rfl) (sq_of (e3 _ _ (e2 _ _ h1)))) ev_c rv_I0)) (by decide)) (fun h => by cases h) (fun _ H4 e4 => ⟨rfl, e4⟩)
      | cons k r =>
        rw [hf] at h1
        refine s_when (b := true) (et_is (et_test (ev_op (ev_len (ev_var rfl) (sq_of (e3 _ _ (e2 _ _ h1)))) ev_c rv_I0)) (decide_eq_true (by simp only [List.map_cons, List.length_cons]; omega))) (fun _ H4 e4 => ?_) (fun h => by cases h)
        exact s_asg (ev_op (ev_var rfl) ev_c (rv_ixL (sq_of (e4 _ _ (e3 _ _ (e2 _ _ h1)))) (atI_nat (j := 0) rfl))) fun H5 e5 => ⟨rfl, e4.trans e5⟩
    · rintro σ2 H4 ⟨rfl, e4⟩
      have e04 := (e02.trans e3).trans e4
      have S4 := S.ex e04
      have i1 := e4 _ _ (e3 _ _ (e2 _ _ h1))
      have i2 := e4 _ _ (e3 _ _ h2)
      have gI : ∀ z : Int, good (.val (.int z)) := fun z => .inr (.inl ⟨z, rfl⟩)
      refine s_ret (ev_is (ev_andV (ev_call (vs := [.int ((fr cs hs false).length : Nat), .int ((fr cs hs false).length : Nat)]) (ea_cons (ev_meth0 (ev_var rfl) (e04 _ _ ho) (fl_no _ _ _ ⟨by decide +kernel, by decide +kernel, by decide +kernel⟩) (sv_self (f := fun cs hs => .int ((fr cs hs false).length : Nat)) S4)) (ea_cons (ev_is (ev_len (ev_var rfl) (sq_of i1)) (by rw [List.length_map])) ea_nil)) (sv_same (o := .val (.int ((fr cs hs false).length : Nat))) rfl rfl (gI _)))
        (fun _ => ev_andV (ev_call (vs := [.int ((fr cs hs true).length : Nat), .int ((fr cs hs true).length : Nat)]) (ea_cons (ev_meth0 (ev_var rfl) (e04 _ _ ho) (fl_no _ _ _ ⟨by decide +kernel, by decide +kernel, by decide +kernel⟩) (sv_self (f := fun cs hs => .int ((fr cs hs true).length : Nat)) S4)) (ea_cons (ev_is (ev_len (ev_var rfl) (sq_of i2)) (by rw [List.length_map])) ea_nil)) (sv_same (o := .val (.int ((fr cs hs true).length : Nat))) rfl rfl (gI _)))
        (fun _ => ev_op (ev_meth0 (ev_var rfl) (e04 _ _ ho) (fl_no _ _ _ ⟨by decide +kernel, by decide +kernel, by decide +kernel⟩) (sv_self (f := fun cs hs => headV (fr cs hs false)) S4)) (ev_var rfl) (rv_eq (by cases fr cs hs false <;> rfl))))) (by simp)) fun H5 e5 => q H5 (e04.trans e5)
end
/-! ### the law's state -/
structure Mu (C : Addr) (H0 G H : Hp) (p cl hl na ra : Addr) (n : Nat) (cc cn rs : List Int) : Prop where
  g0 : Ex H0 G
  gx : Ex G H
  gp : G p = none
  gc : G cl = none
  gn : G na = none
  gr : G ra = none
  o : ∃ dx, H p = some (.ins C dx (flds n cl hl))
  c : H cl = some (.lst (cc.map V.int))
  m : H na = some (.lst (cn.map V.int))
  r : H ra = some (.lst (rs.map V.int))
  d1 : cl ≠ na
  d2 : cl ≠ ra
  d3 : na ≠ ra
section
variable {C : Addr} {H0 G H H1 : Hp} {p cl hl na ra : Addr} {n : Nat} {cc cn rs cs2 rs2 : List Int}
theorem Mu.ex (s : Mu C H0 G H p cl hl na ra n cc cn rs) (e : Ex H H1) : Mu C H0 G H1 p cl hl na ra n cc cn rs := ⟨s.g0, s.gx.trans e, s.gp, s.gc, s.gn, s.gr, let ⟨dx, h⟩ := s.o; ⟨dx, e _ _ h⟩, e _ _ s.c, e _ _ s.m, e _ _ s.r, s.d1, s.d2, s.d3⟩
theorem Mu.pl (s : Mu C H0 G H p cl hl na ra n cc cn rs) {q : Addr} {xs : List V} (h : H q = some (.lst xs)) : p ≠ q := fun e => by
  obtain ⟨dx, ho⟩ := s.o
  rw [e, h] at ho
  cases ho
theorem Mu.setN (s : Mu C H0 G H p cl hl na ra n cc cn rs) {xs : List V} (e : xs = cs2.map V.int) : Mu C H0 G (upd H na (.lst xs)) p cl hl na ra n cc cs2 rs := by
  subst e
  exact ⟨s.g0, s.gx.mut s.gn, s.gp, s.gc, s.gn, s.gr, let ⟨dx, h⟩ := s.o; ⟨dx, by rw [upd_ne (s.pl s.m)]; exact h⟩, by rw [upd_ne s.d1]; exact s.c, upd_same, by rw [upd_ne s.d3.symm]; exact s.r, s.d1, s.d2, s.d3⟩
theorem Mu.appR (s : Mu C H0 G H p cl hl na ra n cc cn rs) {xs : List V} (e : xs = rs2.map V.int) : Mu C H0 G (upd H ra (.lst xs)) p cl hl na ra n cc cn rs2 := by
  subst e
  exact ⟨s.g0, s.gx.mut s.gr, s.gp, s.gc, s.gn, s.gr, let ⟨dx, h⟩ := s.o; ⟨dx, by rw [upd_ne (s.pl s.r)]; exact h⟩, by rw [upd_ne s.d2]; exact s.c, by rw [upd_ne s.d3]; exact s.m, upd_same, s.d1, s.d2, s.d3⟩
theorem Mu.frC (s : Mu C H0 G H p cl hl na ra n cc cn rs) (f : Fr (fun x => x = cl) H H1) (h : H1 cl = some (.lst (cs2.map V.int))) : Mu C H0 G H1 p cl hl na ra n cs2 cn rs :=
  ⟨s.g0, fun a o ha => f a o (s.gx a o ha) (fun e => by rw [e, s.gc] at ha; cases ha), s.gp, s.gc, s.gn, s.gr, let ⟨dx, h⟩ := s.o; ⟨dx, f _ _ h (s.pl s.c)⟩, h, f _ _ s.m s.d1.symm, f _ _ s.r s.d2.symm, s.d1, s.d2, s.d3⟩
theorem Mu.setP (s : Mu C H0 G H p cl hl na ra n cc cn rs) {l dx : Addr} : Mu C H0 G (upd H p (.ins C dx (flds n cl l))) p cl l na ra n cc cn rs :=
  ⟨s.g0, s.gx.mut s.gp, s.gp, s.gc, s.gn, s.gr, ⟨dx, upd_same⟩, by rw [upd_ne (s.pl s.c).symm]; exact s.c, by rw [upd_ne (s.pl s.m).symm]; exact s.m, by rw [upd_ne (s.pl s.r).symm]; exact s.r, s.d1, s.d2, s.d3⟩
/-- all but the four that change -/
def mask (H : Hp) (p cl na ra : Addr) : Hp := fun x => if x = p ∨ x = cl ∨ x = na ∨ x = ra then none else H x
theorem mask_in {x : Addr} (h1 : x ≠ p) (h2 : x ≠ cl) (h3 : x ≠ na) (h4 : x ≠ ra) : mask H p cl na ra x = H x := by
  unfold mask
  rw [if_neg]
  rintro (h | h | h | h)
  · exact h1 h
  · exact h2 h
  · exact h3 h
  · exact h4 h
theorem mask_no {x : Addr} (h : x = p ∨ x = cl ∨ x = na ∨ x = ra) : mask H p cl na ra x = none := by
  unfold mask
  rw [if_pos h]
theorem mask_ex : Ex (mask H p cl na ra) H := fun x o h => by
  unfold mask at h
  split at h
  · cases h
  · exact h
theorem mask_exG (e : Ex G H) (h1 : G p = none) (h2 : G cl = none) (h3 : G na = none) (h4 : G ra = none) : Ex G (mask H p cl na ra) := fun x o h => by
  have ne : ∀ {y : Addr}, G y = none → x ≠ y := fun hy z => by
    rw [z, hy] at h
    cases h
  rw [mask_in (ne h1) (ne h2) (ne h3) (ne h4)]
  exact e _ _ h
theorem Mu.mask (s : Mu C H0 G H p cl hl na ra n cc cn rs) (e : Ex H H1) : Mu C H0 (K21.mask H1 p cl na ra) H1 p cl hl na ra n cc cn rs ∧ Ex G (K21.mask H1 p cl na ra) ∧ ∀ q, H q = none → K21.mask H1 p cl na ra q = H1 q := by
  obtain ⟨dx, ho⟩ := s.o
  have gg : Ex G (K21.mask H1 p cl na ra) := mask_exG (s.gx.trans e) s.gp s.gc s.gn s.gr
  refine ⟨⟨s.g0.trans gg, mask_ex, mask_no (.inl rfl), mask_no (.inr (.inl rfl)), mask_no (.inr (.inr (.inl rfl))), mask_no (.inr (.inr (.inr rfl))), ⟨dx, e _ _ ho⟩, e _ _ s.c, e _ _ s.m, e _ _ s.r, s.d1, s.d2, s.d3⟩, gg, fun q hq => mask_in (ne_of_none ho hq).symm (ne_of_none s.c hq).symm (ne_of_none s.m hq).symm (ne_of_none s.r hq).symm⟩
end
/-- what nobody changes: the list of held blocks, the law's, and what is kept -/
structure Fz (K : PySem.W.Frag) (G : Hp) (hl ha ka : Addr) (n : Nat) (hs : List Bool) : Prop where
  h : G hl = some (.lst (hs.map V.bl))
  a : G ha = some (.lst (hs.map V.bl))
  k : ∃ t ct ht kn kh cs' hs', G ka = some (.lst [.ref t, .ref kn, .ref kh]) ∧ G t = some (.tup [.ref ct, .ref ht]) ∧ G ct = some (.tup ((cs' : List Int).map V.int)) ∧ G ht = some (.tup ((hs' : List Bool).map V.bl)) ∧ G kn = some (.lst (cs'.map V.int)) ∧ G kh = some (.lst (hs'.map V.bl)) ∧ cs'.length = n ∧ hs'.length = n
theorem Fz.ex {K : PySem.W.Frag} {G G' : Hp} {hl ha ka : Addr} {n : Nat} {hs : List Bool} (f : Fz K G hl ha ka n hs) (e : Ex G G') : Fz K G' hl ha ka n hs :=
  ⟨e _ _ f.h, e _ _ f.a, let ⟨t, ct, ht, kn, kh, cs', hs', h1, h2, h3, h4, h5, h6, l1, l2⟩ := f.k; ⟨t, ct, ht, kn, kh, cs', hs', e _ _ h1, e _ _ h2, e _ _ h3, e _ _ h4, e _ _ h5, e _ _ h6, l1, l2⟩⟩
end K21

set_option Elab.async false
set_option linter.all false
set_option maxRecDepth 100000
set_option maxHeartbeats 4000000
namespace K21
open PySem PySem.Spec PyProof.Rows L2 Evl LK LT LG LS LQ LX LO
theorem spDo_mono {C : Addr} {vs : List V} {H : Hp} {Q Q' : VK} {E E' : XK} (h : spDo C vs H Q E) (m : ∀ v H, Q v H → Q' v H) : spDo C vs H Q' E' := by
  obtain ⟨p, cl, hl, cs, hs, a, z, o, cs', h1, h2, h3, h4, q⟩ := h
  exact ⟨p, cl, hl, cs, hs, a, z, o, cs', h1, h2, h3, h4, fun H1 v f c i => m _ _ (q H1 v f c i)⟩
theorem s_ds {C : Addr} {σ : L2.St} {H : Hp} {tA : TA} {tw : TE} {vs : List V} {tu : TS} {D : Ends} (ht : EvA tA σ H vs) (k : ∀ H1, Ex H H1 → spDo C vs H1 (fun v H2 => ∃ w o, Ev tw σ H2 w ∧ IsOut H2 v o ∧ IsOut H2 w o ∧ good o ∧ ∀ H3, Ex H2 H3 → D.nx σ H3) E0) : tIfS (tNot (tB (tCall spSame [] E0 (tCons (tCall (spDo C) [] E0 tA) (tCons tw tNil))))) tu tNext D σ H :=
  ht H (Ex.refl _) _ fun H1 e1 => by
    have h := k H1 e1
    rw [← List.append_nil vs] at h
    refine spDo_mono h fun v H2 h => ?_
    obtain ⟨w, o, hw, i1, i2, g, q⟩ := h
    exact hw H2 (Ex.refl _) _ fun H3 e3 => ⟨v, w, o, rfl, i1.ex e3, i2.ex e3, g, fun H4 e4 => ⟨true, rfl, q H4 (e3.trans e4)⟩⟩
theorem q_ds {C : Addr} {σ : L2.St} {H : Hp} {tA : TA} {tw : TE} {vs : List V} {tu tz : TS} {D : Ends} (ht : EvA tA σ H vs) (k : ∀ H1, Ex H H1 → spDo C vs H1 (fun v H2 => ∃ w o, Ev tw σ H2 w ∧ IsOut H2 v o ∧ IsOut H2 w o ∧ good o ∧ ∀ H3, Ex H2 H3 → tz D σ H3) E0) : tSeq (tIfS (tNot (tB (tCall spSame [] E0 (tCons (tCall (spDo C) [] E0 tA) (tCons tw tNil))))) tu tNext) tz D σ H := s_ds (D := { D with nx := tz D }) ht k
theorem k_kept {K : PySem.W.Frag} {C : Addr} {σ : L2.St} {H : Hp} {D : Ends} {p cl hl na ha : Addr} {cs : List Int} {hs : List Bool} (h8 : σ[8]? = some (some (.ref p))) (h3 : σ[3]? = some (some (.ref na))) (h6 : σ[6]? = some (some (.ref ha))) (S : Sp' C H p cl hl cs hs) (hN : H na = some (.lst (cs.map V.int))) (hA : H ha = some (.lst (hs.map V.bl)))
    (k : ∀ ka t ct ht kn kh H1, H ka = none → H t = none → H ct = none → H ht = none → H kn = none → H kh = none → Ex H H1 → H1 ka = some (.lst [.ref t, .ref kn, .ref kh]) → H1 t = some (.tup [.ref ct, .ref ht]) → H1 ct = some (.tup (cs.map V.int)) → H1 ht = some (.tup (hs.map V.bl)) → H1 kn = some (.lst (cs.map V.int)) → H1 kh = some (.lst (hs.map V.bl)) → D.nx (σ.set 9 (some (.ref ka))) H1) :
    tAsg (tLst (tCons (tMeth C "saved" (spSaved C) [] E0 (tVar 8) tNil) (tCons (tCB (rListS K) (tCons (tVar 3) tNil)) (tCons (tCB (rListS K) (tCons (tVar 6) tNil)) tNil)))) (gName 9) D σ H := by
  obtain ⟨dx, ho⟩ := S.o
  refine m_run (σ := σ) (sp := spSaved C) (ev_var h8) ho (fl_no _ _ _ ⟨by decide +kernel, by decide +kernel, by decide +kernel⟩) ea_nil fun H1 e1 => ⟨p, cl, hl, cs, hs, rfl, S.ex e1, fun t ct ht H2 ht0 hct0 hht0 e2 g1 g2 g3 => ?_⟩
  have e02 := e1.trans e2
  refine el_list (K := K) (σ := σ) (H := H2) (ev_var h3) (sq_of (e02 _ _ hN)) H2 (Ex.refl _) _ fun kn H3 hkn e3 g4 => ?_
  refine el_list (K := K) (σ := σ) (H := H3) (ev_var h6) (sq_of (e3 _ _ (e02 _ _ hA))) H3 (Ex.refl _) _ fun kh H4 hkh e4 g5 => ⟨by show 3 ≤ sizeLine; decide, fun ka hka => ?_⟩
  have e34 := e3.trans e4
  have n := Ex.new (o := .lst [.ref t, .ref kn, .ref kh]) hka
  exact k ka t ct ht kn kh _ (fresh_back (e02.trans e34) hka) (fresh_back e1 ht0) (fresh_back e1 hct0) (fresh_back e1 hht0) (fresh_back e02 hkn) (fresh_back (e02.trans e3) hkh) ((e02.trans e34).trans n) upd_same (n _ _ (e34 _ _ g1)) (n _ _ (e34 _ _ g2)) (n _ _ (e34 _ _ g3)) (n _ _ (e4 _ _ g4)) (n _ _ g5)
/-! ### the law -/
def spLaw (K : PySem.W.Frag) : Sp := fun vs H Q _ => ∃ (a : Addr) (ns : List Int), vs = [.ref a] ∧ SqL K H a (ns.map V.int) ∧ ns.length ≤ 63 ∧ ∀ H', Q (.bl true) H'
abbrev sl (a ta : Addr) (nb : Nat) (na : Addr) (y4 y5 : Option V) (ha pa p ka ra : Addr) (y11 y12 y13 y14 : Option V) : L2.St := [some (.ref a), some (.ref ta), some (.int (nb : Int)), some (.ref na), y4, y5, some (.ref ha), some (.ref pa), some (.ref p), some (.ref ka), some (.ref ra), y11, y12, y13, y14, none]
/-- between two turns -/
structure LJ (K : PySem.W.Frag) (C : Addr) (H0 G H : Hp) (p cl hl na ha ka ra : Addr) (nb m : Nat) (cs : List Int) (hs : List Bool) (rs : List Int) : Prop where
  mu : Mu C H0 G H p cl hl na ra nb cs cs rs
  fz : Fz K G hl ha ka nb hs
  lc : cs.length = nb
  lh : hs.length = nb
  l1 : 5 ≤ nb
  l2 : nb ≤ 256
  r0 : 0 < rs.length
  r1 : rs.length ≤ m
theorem LJ.ex {K : PySem.W.Frag} {C : Addr} {H0 G H H' : Hp} {p cl hl na ha ka ra : Addr} {nb m : Nat} {cs rs : List Int} {hs : List Bool} (j : LJ K C H0 G H p cl hl na ha ka ra nb m cs hs rs) (e : Ex H H') : LJ K C H0 G H' p cl hl na ha ka ra nb m cs hs rs := ⟨j.mu.ex e, j.fz, j.lc, j.lh, j.l1, j.l2, j.r0, j.r1⟩
theorem LJ.sp {K : PySem.W.Frag} {C : Addr} {H0 G H : Hp} {p cl hl na ha ka ra : Addr} {nb m : Nat} {cs rs : List Int} {hs : List Bool} (j : LJ K C H0 G H p cl hl na ha ka ra nb m cs hs rs) : Sp' C H p cl hl cs hs := ⟨by rw [j.lc, j.lh], by rw [j.lc]; exact j.l2, by rw [j.lc]; exact j.mu.o, j.mu.c, j.mu.gx _ _ j.fz.h⟩
theorem LJ.ha {K : PySem.W.Frag} {C : Addr} {H0 G H : Hp} {p cl hl na ha ka ra : Addr} {nb m : Nat} {cs rs : List Int} {hs : List Bool} (j : LJ K C H0 G H p cl hl na ha ka ra nb m cs hs rs) : H ha = some (.lst (hs.map V.bl)) := j.mu.gx _ _ j.fz.a
def LI (K : PySem.W.Frag) (C : Addr) (H0 : Hp) (a ta pa p ra : Addr) (nb m : Nat) (σ : L2.St) (H : Hp) : Prop := ∃ na ha ka cl hl cs hs rs G y4 y5 y11 y12 y13 y14, σ = sl a ta nb na y4 y5 ha pa p ka ra y11 y12 y13 y14 ∧ LJ K C H0 G H p cl hl na ha ka ra nb m cs hs rs
def L8 : List Int := [0, 1, 2, 0, 3, 0, 1, 0]
def acts : List Str := ["take", "take", "share", "drop", "drop", "uses", "held", "new", "free", "settle", "save", "restore"]
def L7 (n : Nat) : List Int := [0, 0, 20, 60, (n : Int), (n : Int) + 1, if (n : Int) - 1 > 0 then (n : Int) - 1 else 0]
theorem L7_nn (n x : Nat) : 0 ≤ cellv (L7 n) x := by
  have h : ∀ t ∈ L7 n, (0 : Int) ≤ t := by
    intro t ht
    unfold L7 at ht
    simp only [List.mem_cons, List.not_mem_nil, or_false] at ht
    rcases ht with rfl | rfl | rfl | rfl | rfl | rfl | rfl <;> first | omega | (split <;> omega)
  by_cases hx : x < (L7 n).length
  · unfold cellv
    rw [List.getD_eq_getElem?_getD, List.getElem?_eq_getElem hx]
    exact h _ (List.getElem_mem hx)
  · rw [cellv_out (by omega)]
    omega
theorem acts_in : ∀ {u : Nat}, u < 12 → (acts.map V.str)[u]? = some (.str (acts.getD u "")) := fun {u} hu => by
  rw [List.getElem?_map, List.getD_eq_getElem?_getD, List.getElem?_eq_getElem (show u < acts.length from hu)]
  rfl
theorem acts_mem {u : Nat} (hu : u < 12) : acts.getD u "" ∈ actS ∨ acts.getD u "" = "settle" ∨ acts.getD u "" = "save" ∨ acts.getD u "" = "restore" := by
  have h : ∀ v, v < 12 → (acts.getD v "" ∈ actS ∨ acts.getD v "" = "settle" ∨ acts.getD v "" = "save" ∨ acts.getD v "" = "restore") := by decide +kernel
  exact h u hu
theorem ev_min2 {σ : L2.St} {H : Hp} {ta tb : TE} {i j : Int} (ha : Ev ta σ H (.int i)) (hb : Ev tb σ H (.int j)) : Ev (tCB (fun xs H Q => ∃ i j, xs = [.int i, .int j] ∧ Q (.int (if j < i then j else i)) H) (tCons ta (tCons tb tNil))) σ H (.int (if j < i then j else i)) := ev_cb (ea_cons ha (ea_cons hb ea_nil)) fun H1 e Q q => ⟨i, j, rfl, q H1 (Ex.refl H1)⟩
theorem IsOut.fr {H H' : Hp} {v : V} {o : Out} {cl : Addr} {cs : List Int} (h : IsOut H v o) (hc : H cl = some (.lst (cs.map V.int))) (f : Fr (fun x => x = cl) H H') : IsOut H' v o := by
  cases o with
  | val u => exact h
  | ref b =>
    obtain ⟨q, e, hq⟩ := h
    refine ⟨q, e, f _ _ hq fun z => ?_⟩
    rw [z, hc] at hq
    cases cs with
    | nil => simp at hq
    | cons c r => simp at hq
section
variable {P : Program} {w : World} {K : PySem.W.Frag} {mg : Str → Option Value} {base : Heap} {C CN CS CL : Addr}
theorem ok_law {f fT fA fF fD fS fC fO f1 f2 f3 f4 : Addr} {fd fdT fdA fdF fdD fdS fdC fdO fd1 fd2 fd3 fd4 : FuncData} (F : Fun K "law" "law" sLaw f fd) (FT : Fun K "_law_tape" "_law_tape" sTape fT fdT) (FA : Fun K "_law_at" "_law_at" sAt fA fdA) (FFr : Fun K "_law_free" "_law_free" sLf fF fdF) (FDu : Fun K "_law_due" "_law_due" sDue fD fdD) (FSm : Fun K "_law_same" "_law_same" sSame fS fdS) (FCo : Fun K "_law_counts" "_law_counts" sCounts fC fdC) (FDo : Fun K "_law_do" "_law_do" sDo fO fdO)
    (bT : Binds K fdT ["script"] []) (bA : Binds K fdA ["tape", "k"] []) (bFr : Binds K fdF ["numbers", "held"] []) (bDu : Binds K fdD ["numbers", "held", "act", "block"] []) (bSm : Binds K fdS ["told", "due"] []) (bCo : Binds K fdC ["space", "numbers", "held"] []) (bDo : Binds K fdO ["space", "act", "block"] [])
    (gT : mg "_law_tape" = some (.ref fT)) (gA : mg "_law_at" = some (.ref fA)) (gFr : mg "_law_free" = some (.ref fF)) (gDu : mg "_law_due" = some (.ref fD)) (gSm : mg "_law_same" = some (.ref fS)) (gCo : mg "_law_counts" = some (.ref fC)) (gDo : mg "_law_do" = some (.ref fO))
    (GCo : FnOk P w K mg base CX0 6 fC fdC ["space", "numbers", "held"] (spCo K C)) (GDo : FnOk P w K mg base CX0 7 fO fdO ["space", "act", "block"] (spDo C))
    (MS : Mk K C f1) (Ginit : FnOk P w K mg base CX0 1 f1 fd1 ["self", "uses"] (spInit K C)) (binit : Binds K fd1 ["self", "uses"] [])
    (Gsettle : FnOk P w K mg base CX0 1 f2 fd2 ["self"] (spSettle C)) (bsettle : Binds K fd2 ["self"] []) (msettle : Meth K C "settle" f2)
    (Gsaved : FnOk P w K mg base CX0 1 f3 fd3 ["self"] (spSaved C)) (bsaved : Binds K fd3 ["self"] []) (msaved : Meth K C "saved" f3)
    (Grestore : FnOk P w K mg base CX0 1 f4 fd4 ["self", "saved"] (spRest K C)) (brestore : Binds K fd4 ["self", "saved"] []) (mrestore : Meth K C "restore" f4) (T : Txt mg K C) : FnOk P w K mg base CX0 8 f fd ["script"] (spLaw K) := by
  have GT : FnOk P w K mg base CX0 1 fT fdT ["script"] (spTape K) := ok_tape FT T
  have GA : FnOk P w K mg base CX0 1 fA fdA ["tape", "k"] (spCel K) := ok_at FA T
  have GFr : FnOk P w K mg base CX0 1 fF fdF ["numbers", "held"] (spFree K) := ok_lf FFr T
  have GDu : FnOk P w K mg base CX0 2 fD fdD ["numbers", "held", "act", "block"] (spDue K) := ok_due FDu FFr bFr gFr T
  have GSm : FnOk P w K mg base CX0 1 fS fdS ["told", "due"] spSame := ok_same FSm T
  obtain ⟨_, gADD⟩ := T.gADD
  obtain ⟨_, gREMOVE⟩ := T.gREMOVE
  refine F.ok scLaw (fun vs H Q E h => ?_) (fun cdv A outer s H vs Q E hr h => ?_)
  · obtain ⟨a, ns, rfl, _⟩ := h
    rfl
  · obtain ⟨a, ns, rfl, hS, hlen, q⟩ := h
    refine ⟨_, (pss_cons (ps_if (PW.pt (pw_or (pt_cmpR op_ne (pe_glob (v := .int 60) rfl gADD ⟨_, rfl⟩) pe_int (nomark _)) (pw_or1 (pt_cmpR op_ne (pe_glob (v := .int 20) rfl gREMOVE ⟨_, rfl⟩) pe_int (nomark _))))) (pss_one (ps_ret pe_bl)) pss_nil)
      (pss_cons (ps_set (i := 1) scLaw.nd rfl (Or.inl rfl) (pe_call GT (hr.mono (by decide)) (by rfl) gT FT.kp bT .nil pass0 (pa_cons (pv 0) pa_nil)))
      (pss_cons (ps_set (i := 2) scLaw.nd rfl (Or.inl rfl) (pe_op op_add pe_int (pe_op op_mod (pe_call GA (hr.mono (by decide)) (by rfl) gA FA.kp bA .nil pass0 (pa_cons (pv 1) (pa_cons pe_int pa_nil))) pe_int)))
      (pss_cons (ps_set (i := 3) scLaw.nd rfl (Or.inl rfl) (pe_lst (pa_cons pe_int (pa_cons pe_int (pa_cons pe_int (pa_cons pe_int (pa_cons pe_int pa_nil)))))))
      (pss_cons (ps_for PassesOwn.never rfl (pi_range1 (by rfl) T.range (pa_cons (pe_op op_sub (pv 2) pe_int) pa_nil)) (pg_name (i := 4) scLaw.nd rfl (Or.inl rfl)) (pss_cons (ps_set (i := 5) scLaw.nd rfl (Or.inl rfl) (pe_op op_fdiv (pe_call GA (hr.mono (by decide)) (by rfl) gA FA.kp bA .nil pass0 (pa_cons (pv 1) (pa_cons (pe_op op_add pe_int (pe_op op_mod (pv 4) pe_int)) pa_nil))) (pe_op op_add pe_int (pe_op op_mod (pv 4) pe_int))))
      (pss_one (ps_expr (pe_bm PySem.F.plainAttrs_list PySem.F.slot_list_append PySem.F.type_list_append mt_append (pv 3) (pa_cons (pe_ix ix_list (pe_lst (pa_cons pe_int (pa_cons pe_int (pa_cons pe_int (pa_cons pe_int (pa_cons pe_int (pa_cons pe_int (pa_cons pe_int (pa_cons pe_int pa_nil))))))))) (pe_op op_mod (pe_op op_add (pv 5) (pv 4)) pe_int) (fun _ _ => rfl)) pa_nil))))))
      (pss_cons (ps_setLc (i := 6) (own := [("many", 15)]) (g := gName 15) (tt := tYes) rfl scLaw.nd rfl rfl (sw_true rfl rfl rfl (by decide +kernel)) (pi_list (pv 3)) (blkOk_by (own := [("many", 15)]) (N := ["script", "tape", "blocks", "numbers", "k", "number", "held", "passed", "space", "kept", "recent", "block", "act", "free", "due", "many"]) (sc := defScope sLaw) (by decide +kernel)) (fun _ _ _ _ _ => pg_name (i := 15) scLaw.nd rfl (Or.inl rfl)) (fun _ _ _ _ _ => pts_nil) (fun _ _ _ _ _ => (pe_cmpR op_gt (pv 15) pe_int (nomark _))))
      (pss_cons (ps_set (i := 7) scLaw.nd rfl (Or.inl rfl) (pe_callTy call_list_of (by rfl) T.list (by decide +kernel) (pa_cons (pv 3) pa_nil)))
      (pss_cons (ps_set (i := 8) scLaw.nd rfl (Or.inl rfl) (pe_make MS Ginit (hr.mono (by decide)) (by rfl) T.mgC binit .nil pass0 (pa_cons (pv 7) pa_nil)))
      (pss_cons (ps_asg pe_int (pg_sub (pv 7) pe_int set_list))
      (pss_cons (ps_if (pt_cmpR op_ne (pe_fld (pv 8) rfl) (pv 2) (nomark _)) (pss_one (ps_ret pe_bl)) pss_nil)
      (pss_cons (ps_set (i := 9) scLaw.nd rfl (Or.inl rfl) (pe_lst (pa_cons (pe_meth0 (pv 8) T.cl msaved Gsaved (hr.mono (by decide)) bsaved .nil pass0) (pa_cons (pe_callTy call_list_of (by rfl) T.list (by decide +kernel) (pa_cons (pv 3) pa_nil)) (pa_cons (pe_callTy call_list_of (by rfl) T.list (by decide +kernel) (pa_cons (pv 6) pa_nil)) pa_nil)))))
      (pss_cons (ps_set (i := 10) scLaw.nd rfl (Or.inl rfl) (pe_lst (pa_cons pe_int (pa_cons pe_int (pa_cons pe_int (pa_cons (pe_op op_sub (pv 2) pe_int) (pa_cons (pv 2) (pa_cons (pe_un un_neg pe_int) pa_nil))))))))
      (pss_cons (ps_for PassesOwn.never rfl (pi_range1 (by rfl) T.range (pa_cons (pe_callB (call_min2 rfl) (by rfl) T.min (by decide +kernel) (pa_cons pe_int (pa_cons (pe_op op_fdiv (pe_callB call_len_seq (by rfl) T.len (by decide +kernel) (pa_cons (pv 1) pa_nil)) pe_int) pa_nil))) pa_nil)) (pg_name (i := 4) scLaw.nd rfl (Or.inl rfl)) (pss_cons (ps_set (i := 5) scLaw.nd rfl (Or.inl rfl) (pe_call GA (hr.mono (by decide)) (by rfl) gA FA.kp bA .nil pass0 (pa_cons (pv 1) (pa_cons (pe_op op_add (pe_op op_mul pe_int (pv 4)) pe_int) pa_nil))))
      (pss_cons (ps_set (i := 11) scLaw.nd rfl (Or.inl rfl) (pe_ix ix_list (pv 10) (pe_op op_mod (pe_call GA (hr.mono (by decide)) (by rfl) gA FA.kp bA .nil pass0 (pa_cons (pv 1) (pa_cons (pe_op op_add (pe_op op_mul pe_int (pv 4)) pe_int) pa_nil))) (pe_callB call_len_seq (by rfl) T.len (by decide +kernel) (pa_cons (pv 10) pa_nil))) (fun _ _ => rfl)))
      (pss_cut (ps_if (pt_cmpR op_eq (pe_op op_mod (pe_call GA (hr.mono (by decide)) (by rfl) gA FA.kp bA .nil pass0 (pa_cons (pv 1) (pa_cons (pe_op op_add (pe_op op_mul pe_int (pv 4)) pe_int) pa_nil))) pe_int) pe_int (nomark _)) (pss_one (ps_set (i := 11) scLaw.nd rfl (Or.inl rfl) (pe_op op_mod (pe_op op_fdiv (pe_call GA (hr.mono (by decide)) (by rfl) gA FA.kp bA .nil pass0 (pa_cons (pv 1) (pa_cons (pe_op op_add (pe_op op_mul pe_int (pv 4)) pe_int) pa_nil))) pe_int) (pv 2)))) pss_nil)
      (pss_cons (ps_set (i := 12) scLaw.nd rfl (Or.inl rfl) (pe_ix ix_list (pe_lst (pa_cons pe_str (pa_cons pe_str (pa_cons pe_str (pa_cons pe_str (pa_cons pe_str (pa_cons pe_str (pa_cons pe_str (pa_cons pe_str (pa_cons pe_str (pa_cons pe_str (pa_cons pe_str (pa_cons pe_str pa_nil))))))))))))) (pe_op op_mod (pv 5) pe_int) (fun _ _ => rfl)))
      (pss_cut (ps_if (pt_cmpR op_eq (pv 12) pe_str (nomark _)) (pss_cons (ps_expr (pe_meth0 (pv 8) T.cl msettle Gsettle (hr.mono (by decide)) bsettle .nil pass0))
      (pss_one (ps_setLc (i := 6) (own := [("many", 15)]) (g := gName 15) (tt := tYes) rfl scLaw.nd rfl rfl (sw_true rfl rfl rfl (by decide +kernel)) (pi_list (pv 3)) (blkOk_by (own := [("many", 15)]) (N := ["script", "tape", "blocks", "numbers", "k", "number", "held", "passed", "space", "kept", "recent", "block", "act", "free", "due", "many"]) (sc := defScope sLaw) (by decide +kernel)) (fun _ _ _ _ _ => pg_name (i := 15) scLaw.nd rfl (Or.inl rfl)) (fun _ _ _ _ _ => pts_nil) (fun _ _ _ _ _ => (pe_cmpR op_gt (pv 15) pe_int (nomark _)))))) (pss_one (ps_if (pt_cmpR op_eq (pv 12) pe_str (nomark _)) (pss_one (ps_set (i := 9) scLaw.nd rfl (Or.inl rfl) (pe_lst (pa_cons (pe_meth0 (pv 8) T.cl msaved Gsaved (hr.mono (by decide)) bsaved .nil pass0) (pa_cons (pe_callTy call_list_of (by rfl) T.list (by decide +kernel) (pa_cons (pv 3) pa_nil)) (pa_cons (pe_callTy call_list_of (by rfl) T.list (by decide +kernel) (pa_cons (pv 6) pa_nil)) pa_nil)))))) (pss_one (ps_if (pt_cmpR op_eq (pv 12) pe_str (nomark _)) (pss_cons (ps_expr (pe_meth (pv 8) T.cl mrestore Grestore (hr.mono (by decide)) brestore .nil pass0 (pa_cons (pe_ix ix_list (pv 9) pe_int (fun _ _ => rfl)) pa_nil)))
      (pss_cons (ps_set (i := 3) scLaw.nd rfl (Or.inl rfl) (pe_callTy call_list_of (by rfl) T.list (by decide +kernel) (pa_cons (pe_ix ix_list (pv 9) pe_int (fun _ _ => rfl)) pa_nil)))
      (pss_one (ps_set (i := 6) scLaw.nd rfl (Or.inl rfl) (pe_callTy call_list_of (by rfl) T.list (by decide +kernel) (pa_cons (pe_ix ix_list (pv 9) pe_int (fun _ _ => rfl)) pa_nil)))))) (pss_cut (ps_if (pt_cmpR op_eq (pv 12) pe_str (nomark _)) (pss_cons (ps_set (i := 13) scLaw.nd rfl (Or.inl rfl) (pe_callB call_len_seq (by rfl) T.len (by decide +kernel) (pa_cons (pe_call GFr (hr.mono (by decide)) (by rfl) gFr FFr.kp bFr .nil pass0 (pa_cons (pv 3) (pa_cons (pv 6) pa_nil))) pa_nil)))
      (pss_one (ps_set (i := 11) scLaw.nd rfl (Or.inl rfl) (pe_ix ix_list (pe_lst (pa_cons pe_int (pa_cons pe_int (pa_cons pe_int (pa_cons pe_int (pa_cons (pv 13) (pa_cons (pe_op op_add (pv 13) pe_int) (pa_cons (pe_callB (call_max2 rfl) (by rfl) T.max (by decide +kernel) (pa_cons pe_int (pa_cons (pe_op op_sub (pv 13) pe_int) pa_nil))) pa_nil)))))))) (pe_op op_mod (pe_op op_fdiv (pv 5) pe_int) pe_int) (fun _ _ => rfl))))) pss_nil)
      (pss_cons (ps_set (i := 14) scLaw.nd rfl (Or.inl rfl) (pe_call GDu (hr.mono (by decide)) (by rfl) gDu FDu.kp bDu .nil pass0 (pa_cons (pv 3) (pa_cons (pv 6) (pa_cons (pv 12) (pa_cons (pv 11) pa_nil))))))
      (pss_cons (ps_if (pt_not (pt_val (pe_call GSm (hr.mono (by decide)) (by rfl) gSm FSm.kp bSm .nil pass0 (pa_cons (pe_call GDo (hr.mono (by decide)) (by rfl) gDo FDo.kp bDo .nil pass0 (pa_cons (pv 8) (pa_cons (pv 12) (pa_cons (pv 11) pa_nil)))) (pa_cons (pv 14) pa_nil))))) (pss_one (ps_ret pe_bl)) pss_nil)
      (pss_cons (ps_if (PW.pt (pw_and (pt_cmpR op_eq (pv 12) pe_str (nomark _)) (pw_and1 (pt_cmpR (op_neD hr.units) (pv 14) (pe_lst (pa_cons pe_str (pa_cons pe_str pa_nil))) (nomark _))))) (pss_cons (ps_asg pe_int (pg_sub (pv 3) (pv 14) set_list))
      (pss_one (ps_expr (pe_bm PySem.F.plainAttrs_list PySem.F.slot_list_append PySem.F.type_list_append mt_append (pv 10) (pa_cons (pv 14) pa_nil))))) pss_nil)
      (pss_cons (ps_if (PW.pt (pw_and (pt_cmpR op_eq (pv 12) pe_str (nomark _)) (pw_and1 (pt_cmpR op_isN (pv 14) pe_non (nomark _))))) (pss_one (ps_asg (pe_op op_add (pe_ix ix_list (pv 3) (pv 11) (fun _ _ => rfl)) pe_int) (pg_sub (pv 3) (pv 11) set_list))) pss_nil)
      (pss_one (ps_if (PW.pt (pw_and (pt_cmpR op_eq (pv 12) pe_str (nomark _)) (pw_and1 (pt_cmpR (op_neD hr.units) (pv 14) (pe_lst (pa_cons pe_str (pa_cons pe_str pa_nil))) (nomark _))))) (pss_one (ps_asg (pv 14) (pg_sub (pv 3) (pv 11) set_list))) pss_nil))))))))))))
      (pss_one (ps_if (pt_not (pt_val (pe_call GCo (hr.mono (by decide)) (by rfl) gCo FCo.kp bCo .nil pass0 (pa_cons (pv 8) (pa_cons (pv 3) (pa_cons (pv 6) pa_nil)))))) (pss_one (ps_ret pe_bl)) pss_nil))))))))
      (pss_cons (ps_for PassesOwn.never rfl (pi_range1 (by rfl) T.range (pa_cons (pv 2) pa_nil)) (pg_name (i := 11) scLaw.nd rfl (Or.inl rfl)) (pss_cons (ps_if (pt_not (pt_val (pe_call GSm (hr.mono (by decide)) (by rfl) gSm FSm.kp bSm .nil pass0 (pa_cons (pe_call GDo (hr.mono (by decide)) (by rfl) gDo FDo.kp bDo .nil pass0 (pa_cons (pv 8) (pa_cons pe_str (pa_cons (pv 11) pa_nil)))) (pa_cons (pe_ix ix_list (pv 3) (pv 11) (fun _ _ => rfl)) pa_nil))))) (pss_one (ps_ret pe_bl)) pss_nil)
      (pss_one (ps_if (pt_not (pt_val (pe_call GSm (hr.mono (by decide)) (by rfl) gSm FSm.kp bSm .nil pass0 (pa_cons (pe_call GDo (hr.mono (by decide)) (by rfl) gDo FDo.kp bDo .nil pass0 (pa_cons (pv 8) (pa_cons pe_str (pa_cons (pv 11) pa_nil)))) (pa_cons (pe_ix ix_list (pv 6) (pv 11) (fun _ _ => rfl)) pa_nil))))) (pss_one (ps_ret pe_bl)) pss_nil))))
      (pss_one (ps_ret pe_bl)))))))))))))))), ?_⟩
    refine q_when (b := false) (et_is (et_or (et_test (ev_op ev_c ev_c (rv_ne rfl))) (fun _ => et_test (ev_op ev_c ev_c (rv_ne rfl)))) (by simp)) (fun h => by cases h) (fun _ H1 e1 => ?_)
    refine q_call (vs := [.ref a]) (ea_cons (ev_var rfl) ea_nil) fun H2 e2 => ⟨a, ns, rfl, ex_l (e1.trans e2) hS, hlen, fun ta H3 ts hta e3 h3 hg hl => ?_⟩
    have cc : ∀ {H1 : Hp} {z : Int} {σ : L2.St} {tk : TE} (j : Nat), Ex H3 H1 → z = (j : Int) → σ[1]? = some (some (.ref ta)) → Ev tk σ H1 (.int z) → Ev (tCall (spCel K) [] E0 (tCons (tVar 1) (tCons tk tNil))) σ H1 (.int (cellv ts j)) :=
      fun j e ez h0 hk => ev_call (ea_cons (ev_var h0) (ea_cons hk ea_nil)) (sv_cell (sq_of (e _ _ h3)) ez)
    -- blocks
    have k0 := Int.emod_nonneg (cellv ts 0) (show (45 : Int) ≠ 0 by decide)
    have k1 := Int.emod_lt_of_pos (cellv ts 0) (show (0 : Int) < 45 by decide)
    refine q_asg (v := .int (((96 + cellv ts 0 % 45).toNat : Nat) : Int)) (ev_is (ev_op ev_c (ev_op (cc 0 (Ex.refl _) rfl rfl ev_c) ev_c (rv_I (by show (0 : Int) < 45; decide))) rv_I0) (congrArg V.int (by omega))) fun H4 e4 => ?_
    have hn1 : 96 ≤ (96 + cellv ts 0 % 45).toNat := by omega
    have hn2 : (96 + cellv ts 0 % 45).toNat ≤ 140 := by omega
    generalize (96 + cellv ts 0 % 45).toNat = nb at hn1 hn2
    -- numbers
    refine q_asgL (el_lst (ea_cons ev_c (ea_cons ev_c (ea_cons ev_c (ea_cons ev_c (ea_cons ev_c ea_nil))))) (by simp)) fun na H5 hna e5 h5 => ?_
    refine q_forR1 (n := (nb : Int) - 5) (ea_cons (ev_op (ev_var rfl) ev_c rv_I0) ea_nil) ⟨by omega, by omega⟩ (fun i σ' H' => ∃ (cs : List Int) (y4 y5 : Option V), σ' = [some (.ref a), some (.ref ta), some (.int (nb : Int)), some (.ref na), y4, y5, none, none, none, none, none, none, none, none, none, none] ∧ Ex H4 H' ∧ H' na = some (.lst (cs.map V.int)) ∧ cs.length = 5 + i)
      (fun H6 e6 => ⟨[1, 1, 1, 1, 1], none, none, rfl, e5.trans e6, e6 _ _ h5, rfl⟩) ?_ ?_
    · rintro i σ' H' hi ⟨cs, y4, y5, rfl, e0, hc, hl5⟩
      refine q_asg (ev_op (cc (1 + i % 7) (e4.trans e0) (by show (1 : Int) + (i : Int) % 7 = ((1 + i % 7 : Nat) : Int); omega) rfl (ev_op ev_c (ev_op (ev_var rfl) ev_c (rv_I (by show (0 : Int) < 7; decide))) rv_I0)) (ev_op ev_c (ev_op (ev_var rfl) ev_c (rv_I (by show (0 : Int) < 11; decide))) rv_I0) (rv_I ⟨by show (0 : Int) < 1 + (i : Int) % 11; omega, by show 1 + (i : Int) % 11 < 1073741824; omega⟩)) fun H6 e6 => ?_
      generalize cellv ts (1 + i % 7) / (1 + (i : Int) % 11) = nu
      have m0 := Int.emod_nonneg (nu + (i : Int)) (show (8 : Int) ≠ 0 by decide)
      have m1 := Int.emod_lt_of_pos (nu + (i : Int)) (show (0 : Int) < 8 by decide)
      obtain ⟨j, hj⟩ := Int.eq_ofNat_of_zero_le m0
      have hj8 : j < L8.length := by show j < 8; omega
      refine s_app (v := .int (cellv L8 j)) (e6 _ _ hc) (ev_var rfl) (ev_opL1 (el_lst (ea_cons ev_c (ea_cons ev_c (ea_cons ev_c (ea_cons ev_c (ea_cons ev_c (ea_cons ev_c (ea_cons ev_c (ea_cons ev_c ea_nil)))))))) (by simp)) (fun H7 e7 => ev_op (ev_op (ev_var rfl) (ev_var rfl) rv_I0) ev_c (rv_I (by show (0 : Int) < 8; decide))) (fun q H7 hq e7 => rv_ixL (sq_of hq) (at_of hj (cellv_in hj8)))) (by rw [List.length_map]; omega) fun H7 e7 => ⟨cs ++ [cellv L8 j], _, _, rfl, ((e0.trans e6).trans e7).mut hna, ?_, by rw [List.length_append, hl5]; rfl⟩
      rw [upd_same, List.map_append]
      rfl
    · rintro σ' H' ⟨cs, y4, y5, rfl, e0, hc, hl5⟩
      have hcl : cs.length = nb := by omega
      have hna3 : H3 na = none := fresh_back e4 hna
      have e30 := e4.trans e0
      refine q_asgL (el_pos (ev_var rfl) (sq_of hc) (by omega) (fun _ => rfl) (by show 15 < 16; decide)) fun ha H6 hha e6 h6 => ?_
      refine q_asgL (el_list (ev_var rfl) (sq_of (e6 _ _ hc))) fun pa H7 hpa e7 h7 => ?_
      refine q_make (ea_cons (ev_var rfl) ea_nil) fun p dx H8 H9 hp7 hp8 e8 hp9 e9 => ⟨p, pa, dx, cs, rfl, hp9, sq_of (e9 _ _ (e8 _ _ h7)), by omega, fun cl hl H10 f10 hcl9 hhl9 hne S10 => ⟨rfl, ?_⟩⟩
      have e89 := e8.trans e9
      have pa9 := e89 _ _ h7
      have na9 := e89 _ _ (e7 _ _ (e6 _ _ hc))
      have ha9 := e89 _ _ (e7 _ _ h6)
      have npa : pa ≠ p := ne_of pa9 hp9 (by intro z; cases z)
      have nna : na ≠ p := ne_of na9 hp9 (by intro z; cases z)
      have nha : ha ≠ p := ne_of ha9 hp9 (by intro z; cases z)
      have d_na_pa : na ≠ pa := ne_of_none (e6 _ _ hc) hpa
      have d_ha_pa : ha ≠ pa := ne_of_none h6 hpa
      have d_ha_na : ha ≠ na := (ne_of_none hc hha).symm
      have d_cl_pa : pa ≠ cl := ne_of_none pa9 hcl9
      have d_hl_pa : pa ≠ hl := ne_of_none pa9 hhl9
      have p3 : H3 p = none := fresh_back ((e30.trans e6).trans e7) hp7
      have e39 := ((e30.trans e6).trans e7).trans e89
      have cl3 : H3 cl = none := fresh_back e39 hcl9
      have pa3 : H3 pa = none := fresh_back (e30.trans e6) hpa
      have x10 : Ex H3 H10 := f10.ex e39 fun x hx => by rw [hx]; exact p3
      refine q_setL (j := 7) (f10 _ _ pa9 npa) ev_c (ev_var rfl) ev_c (by rw [List.length_map]; omega) fun H11 e11 => ?_
      generalize hX : (List.map V.int cs).set 7 (V.int 9) = xs9
      have x12 : Ex H3 (upd H11 pa (.lst xs9)) := (x10.trans e11).mut pa3
      have S12 : Sp' C (upd H11 pa (.lst xs9)) p cl hl cs (pos cs) := by
        have S11 := S10.ex e11
        exact ⟨S11.len, S11.le, let ⟨d, h⟩ := S11.o; ⟨d, by rw [upd_ne npa.symm]; exact h⟩, by rw [upd_ne d_cl_pa.symm]; exact S11.c, by rw [upd_ne d_hl_pa.symm]; exact S11.h⟩
      have na12 : (upd H11 pa (.lst xs9)) na = some (.lst (cs.map V.int)) := by
        rw [upd_ne d_na_pa]
        exact e11 _ _ (f10 _ _ na9 nna)
      have ha12 : (upd H11 pa (.lst xs9)) ha = some (.lst ((pos cs).map V.bl)) := by
        rw [upd_ne d_ha_pa]
        exact e11 _ _ (f10 _ _ ha9 nha)
      generalize upd H11 pa (.lst xs9) = H12 at *
      obtain ⟨dx2, ho12⟩ := S12.o
      refine q_when (b := false) (et_is (et_test (ev_op (ev_fld (ev_var rfl) ho12 T.cl T.nB (fl_b _ _ _)) (ev_var rfl) (rv_ne rfl))) (by rw [hcl]; simp)) (fun h => by cases h) (fun _ H13 e13 => ?_)
      have S13 := S12.ex e13
      refine k_kept (D := { nx := _, rt := _, bk := _, ct := _ }) rfl rfl rfl S13 (e13 _ _ na12) (e13 _ _ ha12) fun ka t ct ht kn kh H14 n1 n2 n3 n4 n5 n6 e14 g1 g2 g3 g4 g5 g6 => ?_
      have ho13 : ∃ dx, H13 p = some (.ins C dx (flds nb cl hl)) := by
        obtain ⟨d, h⟩ := S13.o
        exact ⟨d, by rw [← hcl]; exact h⟩
      obtain ⟨dx3, ho13⟩ := ho13
      have na13 := e13 _ _ na12
      have ha13 := e13 _ _ ha12
      have ne3 : ∀ q, H13 q = none → q ≠ p ∧ q ≠ cl ∧ q ≠ na := fun q hq => ⟨(ne_of_none ho13 hq).symm, (ne_of_none S13.c hq).symm, (ne_of_none na13 hq).symm⟩
      refine q_asgL (el_lst (ea_cons ev_c (ea_cons ev_c (ea_cons ev_c (ea_cons (ev_op (ev_var rfl) ev_c rv_I0) (ea_cons (ev_var rfl) (ea_cons (ev_un ev_c ru_neg) ea_nil)))))) (by simp)) fun ra H15 hra e15 h15 => ?_
      have ra3 : H3 ra = none := fresh_back ((x12.trans e13).trans e14) hra
      have gg : Ex H3 (K21.mask H15 p cl na ra) := mask_exG (((x12.trans e13).trans e14).trans e15) p3 cl3 hna3 ra3
      have inG : ∀ q o, H14 q = some o → q ≠ p → q ≠ cl → q ≠ na → K21.mask H15 p cl na ra q = some o := fun q o h a b c => by
        rw [mask_in a b c (ne_of_none h hra)]
        exact e15 _ _ h
      have fz0 : Fz K (K21.mask H15 p cl na ra) hl ha ka nb (pos cs) := by
        refine ⟨inG hl _ (e14 _ _ S13.h) (ne_of S13.h ho13 (by intro z; cases z)) hne.symm (ne_of_none na9 hhl9).symm, inG ha _ (e14 _ _ ha13) nha (ne_of_none ha9 hcl9) d_ha_na, ⟨t, ct, ht, kn, kh, cs, pos cs, ?_, ?_, ?_, ?_, ?_, ?_, hcl, by unfold pos; rw [List.length_map, hcl]⟩⟩
        · exact inG _ _ g1 (ne3 _ n1).1 (ne3 _ n1).2.1 (ne3 _ n1).2.2
        · exact inG _ _ g2 (ne3 _ n2).1 (ne3 _ n2).2.1 (ne3 _ n2).2.2
        · exact inG _ _ g3 (ne3 _ n3).1 (ne3 _ n3).2.1 (ne3 _ n3).2.2
        · exact inG _ _ g4 (ne3 _ n4).1 (ne3 _ n4).2.1 (ne3 _ n4).2.2
        · exact inG _ _ g5 (ne3 _ n5).1 (ne3 _ n5).2.1 (ne3 _ n5).2.2
        · exact inG _ _ g6 (ne3 _ n6).1 (ne3 _ n6).2.1 (ne3 _ n6).2.2
      have mu0 : Mu C H3 (K21.mask H15 p cl na ra) H15 p cl hl na ra nb cs cs [5, 0, 4, (nb : Int) - 1, (nb : Int), -1] :=
        ⟨gg, mask_ex, mask_no (.inl rfl), mask_no (.inr (.inl rfl)), mask_no (.inr (.inr (.inl rfl))), mask_no (.inr (.inr (.inr rfl))), ⟨dx3, e15 _ _ (e14 _ _ ho13)⟩, e15 _ _ (e14 _ _ S13.c), e15 _ _ (e14 _ _ na13), h15, (ne_of_none na9 hcl9).symm, ne_of_none (e14 _ _ S13.c) hra, ne_of_none (e14 _ _ na13) hra⟩
      have J0 : LJ K C H3 (K21.mask H15 p cl na ra) H15 p cl hl na ha ka ra nb 6 cs (pos cs) [5, 0, 4, (nb : Int) - 1, (nb : Int), -1] := ⟨mu0, fz0, hcl, by unfold pos; rw [List.length_map, hcl], by omega, by omega, (by show 0 < 6; omega), (by show 6 ≤ 6; omega)⟩
      clear fz0 mu0 inG gg ne3
      -- the turns
      refine q_forR1 (n := if (ts.length : Int) / 2 < 60 then (ts.length : Int) / 2 else 60) (ea_cons (ev_min2 ev_c (ev_op (ev_is (ev_len (ev_var rfl) (sq_of (((x12.trans e13).trans (e14.trans e15)) _ _ h3))) (by rw [List.length_map])) ev_c (rv_I ⟨by decide, by decide⟩))) ea_nil) ⟨by split <;> omega, by split <;> omega⟩
        (fun i σ' H' => LI K C H3 a ta pa p ra nb (6 + i) σ' H') (fun H16 e16 => ⟨na, ha, ka, cl, hl, cs, pos cs, _, _, _, _, _, _, _, _, rfl, J0.ex e16⟩) ?_ ?_
      · clear J0 ho13 na13 ha13 n1 n2 n3 n4 n5 n6 g1 g2 g3 g4 g5 g6 S13 S12 S10 na12 ha12
        rintro i σ' H' hi ⟨na, ha, ka, cl, hl, cs, hs, rs, G, y4, y5, y11, y12, y13, y14, rfl, J⟩
        have hi60 : i < 60 := by split at hi <;> omega
        have eG : Ex H3 H' := J.mu.g0.trans J.mu.gx
        have r0 := J.r0
        have r1 := J.r1
        refine q_asg (cc (2 * i + 8) eG (by push_cast; rfl) rfl (ev_op (ev_op ev_c (ev_var rfl) (rv_I (.inl ⟨by decide, by decide⟩))) ev_c rv_I0)) fun A1 f1 => ?_
        have J1 := J.ex f1
        have nu0 : 0 ≤ cellv ts (2 * i + 8) := (hg.cell _).1
        generalize cellv ts (2 * i + 8) = nu at nu0
        have c0 : 0 ≤ cellv ts (2 * i + 9) := (hg.cell _).1
        have E9 : ∀ {H1 : Hp} {σ : L2.St} {u : Option V}, Ex H3 H1 → σ[1]? = some (some (.ref ta)) → σ[4]? = some (some (.int (i : Int))) → Ev (tCall (spCel K) [] E0 (tCons (tVar 1) (tCons (tOp (rI0 fun i j => .int (i + j)) (tOp (rI (fun i j => (-(2 ^ 64) ≤ i ∧ i ≤ 2 ^ 64) ∨ (-(2 ^ 64) ≤ j ∧ j ≤ 2 ^ 64)) fun i j => .int (i * j)) (tC (.int 2)) (tVar 4)) (tC (.int 9))) tNil))) σ H1 (.int (cellv ts (2 * i + 9))) :=
          fun e h1 h4 => cc (2 * i + 9) e (by push_cast; rfl) h1 (ev_op (ev_op ev_c (ev_var h4) (rv_I (.inl ⟨by decide, by decide⟩))) ev_c rv_I0)
        have m0 := Int.emod_nonneg (cellv ts (2 * i + 9)) (show ((rs.length : Nat) : Int) ≠ 0 by omega)
        have m1 := Int.emod_lt_of_pos (cellv ts (2 * i + 9)) (show (0 : Int) < (rs.length : Nat) by omega)
        obtain ⟨j, hj⟩ := Int.eq_ofNat_of_zero_le m0
        have hjl : j < rs.length := by omega
        refine q_asg (v := .int (cellv rs j)) (ev_op (ev_var rfl) (ev_op (cc (2 * i + 9) (eG.trans f1) (by push_cast; rfl) rfl (ev_op (ev_op ev_c (ev_var rfl) (rv_I (.inl ⟨by decide, by decide⟩))) ev_c rv_I0)) (ev_is (ev_len (ev_var rfl) (sq_of J1.mu.r)) (by rw [List.length_map])) (rv_I (by show (0 : Int) < ((rs.length : Nat) : Int); omega))) (rv_ixL (sq_of J1.mu.r) (at_of hj (cellv_in hjl)))) fun A2 f2 => ?_
        have f12 := f1.trans f2
        refine q_cut (M := fun σ2 H2 => ∃ z : Int, σ2 = sl a ta nb na (some (.int (i : Int))) (some (.int nu)) ha pa p ka ra (some (.int z)) y12 y13 y14 ∧ Ex A2 H2) ?_ ?_
        · refine s_when (et_test (ev_op (ev_op (cc (2 * i + 9) (eG.trans f12) (by push_cast; rfl) rfl (ev_op (ev_op ev_c (ev_var rfl) (rv_I (.inl ⟨by decide, by decide⟩))) ev_c rv_I0)) ev_c (rv_I (by show (0 : Int) < 5; decide))) ev_c (rv_eq rfl))) (fun _ A3 f3 => ?_) (fun _ A3 f3 => ⟨_, rfl, f3⟩)
          exact s_asg (ev_op (ev_op (cc (2 * i + 9) (eG.trans (f12.trans f3)) (by push_cast; rfl) rfl (ev_op (ev_op ev_c (ev_var rfl) (rv_I (.inl ⟨by decide, by decide⟩))) ev_c rv_I0)) ev_c (rv_I ⟨by decide, by decide⟩)) (ev_var rfl) (rv_I (by show (0 : Int) < (nb : Int); omega))) fun A4 f4 => ⟨_, rfl, f3.trans f4⟩
        rintro σ2 A3 ⟨z0, rfl, f3⟩
        have q0 := Int.emod_nonneg nu (show (12 : Int) ≠ 0 by decide)
        have q1 := Int.emod_lt_of_pos nu (show (0 : Int) < 12 by decide)
        obtain ⟨u, hu⟩ := Int.eq_ofNat_of_zero_le q0
        have hu12 : u < 12 := by omega
        have ea := f12.trans f3
        refine q_asg (v := .str (acts.getD u "")) (ev_opL1 (el_lst (vs := acts.map V.str) (ea_cons ev_c (ea_cons ev_c (ea_cons ev_c (ea_cons ev_c (ea_cons ev_c (ea_cons ev_c (ea_cons ev_c (ea_cons ev_c (ea_cons ev_c (ea_cons ev_c (ea_cons ev_c (ea_cons ev_c ea_nil)))))))))))) (by decide)) (fun H7 e7 => ev_op (ev_var rfl) ev_c (rv_I (by show (0 : Int) < 12; decide))) (fun q H7 hq e7 => rv_ixL (sq_of hq) (at_of hu (acts_in hu12)))) fun A4 f4 => ?_
        have hact := acts_mem hu12
        generalize acts.getD u "" = act at hact
        have eb := ea.trans f4
        have Jb := J.ex eb
        refine q_cut (M := fun σ2 H2 => LI K C H3 a ta pa p ra nb (6 + i + 1) σ2 H2) ?_ ?_
        · rcases hact with hm | rfl | rfl | rfl
          · -- one of the seven
            have hn : act ≠ "settle" ∧ act ≠ "save" ∧ act ≠ "restore" := ⟨fun e => absurd (e ▸ hm) (by decide +kernel), fun e => absurd (e ▸ hm) (by decide +kernel), fun e => absurd (e ▸ hm) (by decide +kernel)⟩
            refine s_if (b := false) (et_is (et_test (ev_op (ev_var rfl) ev_c (rv_eq rfl))) (decide_eq_false fun e => hn.1 (V.str.inj e))) (fun h => by cases h) (fun _ B1 b1 => ?_)
            refine s_if (b := false) (et_is (et_test (ev_op (ev_var rfl) ev_c (rv_eq rfl))) (decide_eq_false fun e => hn.2.1 (V.str.inj e))) (fun h => by cases h) (fun _ B2 b2 => ?_)
            refine s_if (b := false) (et_is (et_test (ev_op (ev_var rfl) ev_c (rv_eq rfl))) (decide_eq_false fun e => hn.2.2 (V.str.inj e))) (fun h => by cases h) (fun _ B3 b3 => ?_)
            have Jc := Jb.ex ((b1.trans b2).trans b3)
            refine q_cut (M := fun σ2 H2 => ∃ z y13, σ2 = sl a ta nb na (some (.int (i : Int))) (some (.int nu)) ha pa p ka ra (some (.int z)) (some (.str act)) y13 y14 ∧ Ex B3 H2 ∧ (act = "take" → 0 ≤ z)) ?_ ?_
            · by_cases ht : act = "take"
              · subst ht
                refine s_when (b := true) (et_is (et_test (ev_op (ev_var rfl) ev_c (rv_eq rfl))) (by decide +kernel)) (fun _ B4 b4 => ?_) (fun h => by cases h)
                refine q_asg (ev_is (ev_lenN (el_call (vs := [.ref na, .ref ha]) (ea_cons (ev_var rfl) (ea_cons (ev_var rfl) ea_nil)) (fun H1 e1 Q q E => ⟨na, ha, cs, hs, rfl, sq_of (e1 _ _ (b4 _ _ Jc.mu.m)), sq_of (e1 _ _ (b4 _ _ Jc.ha)), by rw [J.lc, J.lh], by rw [J.lc]; exact J.l2, q⟩))) (by rw [List.length_map])) fun B5 b5 => ?_
                generalize (fr cs hs false).length = fn
                have w0 := Int.emod_nonneg (nu / 12) (show (7 : Int) ≠ 0 by decide)
                have w1 := Int.emod_lt_of_pos (nu / 12) (show (0 : Int) < 7 by decide)
                obtain ⟨x, hx⟩ := Int.eq_ofNat_of_zero_le w0
                have hx7 : x < (L7 fn).length := by show x < 7; omega
                exact s_asg (v := .int (cellv (L7 fn) x)) (ev_opL1 (el_lst (vs := (L7 fn).map V.int) (ea_cons ev_c (ea_cons ev_c (ea_cons ev_c (ea_cons ev_c (ea_cons (ev_var rfl) (ea_cons (ev_op (ev_var rfl) ev_c rv_I0) (ea_cons (ev_max2 ev_c (ev_op (ev_var rfl) ev_c rv_I0)) ea_nil))))))) (by show 7 ≤ 100000; decide)) (fun H7 e7 => ev_op (ev_op (ev_var rfl) ev_c (rv_I ⟨by decide, by decide⟩)) ev_c (rv_I (by show (0 : Int) < 7; decide))) (fun q H7 hq e7 => rv_ixL (sq_of hq) (at_of hx (cellv_in hx7)))) fun B6 b6 => ⟨_, _, rfl, (b4.trans b5).trans b6, fun _ => L7_nn fn x⟩
              · exact s_when (b := false) (et_is (et_test (ev_op (ev_var rfl) ev_c (rv_eq rfl))) (decide_eq_false fun e => ht (V.str.inj e))) (fun h => by cases h) (fun _ B4 b4 => ⟨_, _, rfl, b4, fun e => absurd e ht⟩)
            rintro σ2 B4 ⟨z, y13', rfl, b4, hz⟩
            have J2 := Jc.ex b4
            obtain ⟨o, cs', hA⟩ := act_ex cs hs hm z hz
            refine q_call (vs := [.ref na, .ref ha, .str act, .int z]) (ea_cons (ev_var rfl) (ea_cons (ev_var rfl) (ea_cons (ev_var rfl) (ea_cons (ev_var rfl) ea_nil)))) fun B5 b5 => ⟨na, ha, cs, hs, act, z, o, cs', rfl, sq_of (b5 _ _ J2.mu.m), sq_of (b5 _ _ J2.ha), by rw [J.lc, J.lh], by rw [J.lc]; exact J.l2, hz, hA, fun B6 v b6 hv => ?_⟩
            have J4 := J2.ex (b5.trans b6)
            refine q_ds (vs := [.ref p, .str act, .int z]) (ea_cons (ev_var rfl) (ea_cons (ev_var rfl) (ea_cons (ev_var rfl) ea_nil))) fun B7 b7 => ⟨p, cl, hl, cs, hs, act, z, o, cs', rfl, J4.sp.ex b7, hz, hA, fun B8 v8 f8 c8 hu8 => ?_⟩
            have hv8 : IsOut B8 v o := (hv.ex b7).fr (J4.sp.ex b7).c f8
            refine ⟨v, o, ev_var rfl, hu8, hv8, hA.good, fun B9 b9 => ?_⟩
            replace hv := hv8.ex b9
            have J0 := ((J4.mu.ex b7).frC f8 c8).ex b9
            have fin : ∀ {H' : Hp}, Mu C H3 G H' p cl hl na ra nb cs' cs' rs → LI K C H3 a ta pa p ra nb (6 + i + 1) (sl a ta nb na (some (.int (i : Int))) (some (.int nu)) ha pa p ka ra (some (.int z)) (some (.str act)) y13' (some v)) H' := fun j => ⟨na, ha, ka, cl, hl, cs', hs, rs, G, _, _, _, _, _, _, rfl, ⟨j, J.fz, hA.len.trans J.lc, J.lh, J.l1, J.l2, J.r0, by omega⟩⟩
            have fin2 : ∀ {H' : Hp} {k : Nat}, Mu C H3 G H' p cl hl na ra nb cs' cs' (rs ++ [(k : Int)]) → LI K C H3 a ta pa p ra nb (6 + i + 1) (sl a ta nb na (some (.int (i : Int))) (some (.int nu)) ha pa p ka ra (some (.int z)) (some (.str act)) y13' (some v)) H' := fun j => ⟨na, ha, ka, cl, hl, cs', hs, _, G, _, _, _, _, _, _, rfl, ⟨j, J.fz, hA.len.trans J.lc, J.lh, J.l1, J.l2, by simp, by simp; omega⟩⟩
            have hrl : rs.length < 100 := by omega
            clear hv8 hu8 J4 J2 Jc Jb J1
            cases hA with
              | take_no h =>
                obtain ⟨q0, rfl, hq0⟩ := hv
                refine q_when (b := false) (et_is (et_and (et_test (ev_op (ev_var rfl) ev_c (rv_eq rfl))) (fun _ => et_test (ev_opL (ev_var rfl) (el_lst (ea_cons ev_c (ea_cons ev_c ea_nil)) (by decide)) (fun q1 H1 hq1 e1 => rv_neDD (dp_rf (b := true) (e1 _ _ hq0)) (dp_rf (b := true) hq1) (sh_rf true) (sh_rf _) (by decide))))) (by decide +kernel)) (fun h => by cases h) (fun _ K1 k1 => ?_)
                refine q_when (b := false) (et_is (et_and (b := false) (et_test (ev_op (ev_var rfl) ev_c (rv_eq rfl))) (fun h => absurd h (by decide +kernel))) (by decide +kernel)) (fun h => by cases h) (fun _ K2 k2 => ?_)
                exact s_when (b := false) (et_is (et_and (b := false) (et_test (ev_op (ev_var rfl) ev_c (rv_eq rfl))) (fun h => absurd h (by decide +kernel))) (by decide +kernel)) (fun h => by cases h) (fun _ K3 k3 => fin (J0.ex ((k1.trans k2).trans k3)))
              | @take z k h hk hkl =>
                cases hv
                refine q_when (b := true) (et_is (et_and (et_test (ev_op (ev_var rfl) ev_c (rv_eq rfl))) (fun _ => et_test (ev_opL (ev_var rfl) (el_lst (ea_cons ev_c (ea_cons ev_c ea_nil)) (by decide)) (fun q1 H1 hq1 e1 => rv_neDD (.int _) (dp_rf (b := true) hq1) (sh_int _ 1) (sh_rf _) (by decide))))) (by rw [rf_int]; decide +kernel)) (fun _ K1 k1 => ?_) (fun h => by cases h)
                refine q_setL (J0.ex k1).m ev_c (ev_var rfl) (ev_var rfl) (by rw [List.length_map]; exact hkl) fun K2 k2 => ?_
                have J2 := ((J0.ex k1).ex k2).setN (cs2 := cs.set k 1) (map_set _ _ _)
                refine s_app J2.r (ev_var rfl) (ev_var rfl) (by rw [List.length_map]; omega) fun K3 k3 => ?_
                have J3 := (J2.ex k3).appR (rs2 := rs ++ [(k : Int)]) (by rw [List.map_append])
                refine q_when (b := false) (et_is (et_and (b := false) (et_test (ev_op (ev_var rfl) ev_c (rv_eq rfl))) (fun h => absurd h (by decide +kernel))) (by decide +kernel)) (fun h => by cases h) (fun _ K4 k4 => ?_)
                exact s_when (b := false) (et_is (et_and (b := false) (et_test (ev_op (ev_var rfl) ev_c (rv_eq rfl))) (fun h => absurd h (by decide +kernel))) (by decide +kernel)) (fun h => by cases h) (fun _ K5 k5 => fin2 (J3.ex (k4.trans k5)))
              | share_no hn =>
                obtain ⟨q0, rfl, hq0⟩ := hv
                refine q_when (b := false) (et_is (et_and (b := false) (et_test (ev_op (ev_var rfl) ev_c (rv_eq rfl))) (fun h => absurd h (by decide +kernel))) (by decide +kernel)) (fun h => by cases h) (fun _ K1 k1 => ?_)
                refine q_when (b := false) (et_is (et_and (et_test (ev_op (ev_var rfl) ev_c (rv_eq rfl))) (fun _ => et_test (ev_op (ev_var rfl) ev_c rv_isN))) (by rw [decide_eq_false (p := (V.ref q0 = V.non)) (fun e => by cases e)]; decide +kernel)) (fun h => by cases h) (fun _ K2 k2 => ?_)
                exact s_when (b := false) (et_is (et_and (b := false) (et_test (ev_op (ev_var rfl) ev_c (rv_eq rfl))) (fun h => absurd h (by decide +kernel))) (by decide +kernel)) (fun h => by cases h) (fun _ K3 k3 => fin (J0.ex ((k1.trans k2).trans k3)))
              | @share k hlt hu =>
                cases hv
                refine q_when (b := false) (et_is (et_and (b := false) (et_test (ev_op (ev_var rfl) ev_c (rv_eq rfl))) (fun h => absurd h (by decide +kernel))) (by decide +kernel)) (fun h => by cases h) (fun _ K1 k1 => ?_)
                refine q_when (b := true) (et_is (et_and (et_test (ev_op (ev_var rfl) ev_c (rv_eq rfl))) (fun _ => et_test (ev_op (ev_var rfl) ev_c rv_isN))) (by decide +kernel)) (fun _ K2 k2 => ?_) (fun h => by cases h)
                have J1 := J0.ex (k1.trans k2)
                refine s_setL (j := k) J1.m (ev_op (ev_op (ev_var rfl) (ev_var rfl) (rv_ixL (sq_of J1.m) (atI_nat (cv_at hlt)))) ev_c rv_I0) (ev_var rfl) (ev_var rfl) (by rw [List.length_map]; exact hlt) fun K3 k3 => ?_
                have J3 := (J1.ex k3).setN (cs2 := cs.set k (cv cs k + 1)) (map_set _ _ _)
                exact s_when (b := false) (et_is (et_and (b := false) (et_test (ev_op (ev_var rfl) ev_c (rv_eq rfl))) (fun h => absurd h (by decide +kernel))) (by decide +kernel)) (fun h => by cases h) (fun _ K4 k4 => fin (J3.ex k4))
              | drop_no hn =>
                obtain ⟨q0, rfl, hq0⟩ := hv
                refine q_when (b := false) (et_is (et_and (b := false) (et_test (ev_op (ev_var rfl) ev_c (rv_eq rfl))) (fun h => absurd h (by decide +kernel))) (by decide +kernel)) (fun h => by cases h) (fun _ K1 k1 => ?_)
                refine q_when (b := false) (et_is (et_and (b := false) (et_test (ev_op (ev_var rfl) ev_c (rv_eq rfl))) (fun h => absurd h (by decide +kernel))) (by decide +kernel)) (fun h => by cases h) (fun _ K2 k2 => ?_)
                exact s_when (b := false) (et_is (et_and (et_test (ev_op (ev_var rfl) ev_c (rv_eq rfl))) (fun _ => et_test (ev_opL (ev_var rfl) (el_lst (ea_cons ev_c (ea_cons ev_c ea_nil)) (by decide)) (fun q1 H1 hq1 e1 => rv_neDD (dp_rf (b := false) ((k1.trans k2).trans e1 _ _ hq0)) (dp_rf (b := false) hq1) (sh_rf false) (sh_rf _) (by decide))))) (by decide +kernel)) (fun h => by cases h) (fun _ K3 k3 => fin (J0.ex ((k1.trans k2).trans k3)))
              | @drop k hlt hu =>
                cases hv
                refine q_when (b := false) (et_is (et_and (b := false) (et_test (ev_op (ev_var rfl) ev_c (rv_eq rfl))) (fun h => absurd h (by decide +kernel))) (by decide +kernel)) (fun h => by cases h) (fun _ K1 k1 => ?_)
                refine q_when (b := false) (et_is (et_and (b := false) (et_test (ev_op (ev_var rfl) ev_c (rv_eq rfl))) (fun h => absurd h (by decide +kernel))) (by decide +kernel)) (fun h => by cases h) (fun _ K2 k2 => ?_)
                refine s_when (b := true) (et_is (et_and (et_test (ev_op (ev_var rfl) ev_c (rv_eq rfl))) (fun _ => et_test (ev_opL (ev_var rfl) (el_lst (ea_cons ev_c (ea_cons ev_c ea_nil)) (by decide)) (fun q1 H1 hq1 e1 => rv_neDD (.int _) (dp_rf (b := false) hq1) (sh_int _ 1) (sh_rf _) (by decide))))) (by rw [rf_int]; decide +kernel)) (fun _ K3 k3 => ?_) (fun h => by cases h)
                have J1 := J0.ex ((k1.trans k2).trans k3)
                refine s_setL (j := k) J1.m (ev_var rfl) (ev_var rfl) (ev_var rfl) (by rw [List.length_map]; exact hlt) fun K4 k4 => ?_
                exact fin ((J1.ex k4).setN (cs2 := cs.set k (cv cs k + -1)) (map_set _ _ _))
              | uses_no hn =>
                refine q_when (b := false) (et_is (et_and (b := false) (et_test (ev_op (ev_var rfl) ev_c (rv_eq rfl))) (fun h => absurd h (by decide +kernel))) (by decide +kernel)) (fun h => by cases h) (fun _ K1 k1 => ?_)
                refine q_when (b := false) (et_is (et_and (b := false) (et_test (ev_op (ev_var rfl) ev_c (rv_eq rfl))) (fun h => absurd h (by decide +kernel))) (by decide +kernel)) (fun h => by cases h) (fun _ K2 k2 => ?_)
                exact s_when (b := false) (et_is (et_and (b := false) (et_test (ev_op (ev_var rfl) ev_c (rv_eq rfl))) (fun h => absurd h (by decide +kernel))) (by decide +kernel)) (fun h => by cases h) (fun _ K3 k3 => fin (J0.ex ((k1.trans k2).trans k3)))
              | @uses k hlt =>
                refine q_when (b := false) (et_is (et_and (b := false) (et_test (ev_op (ev_var rfl) ev_c (rv_eq rfl))) (fun h => absurd h (by decide +kernel))) (by decide +kernel)) (fun h => by cases h) (fun _ K1 k1 => ?_)
                refine q_when (b := false) (et_is (et_and (b := false) (et_test (ev_op (ev_var rfl) ev_c (rv_eq rfl))) (fun h => absurd h (by decide +kernel))) (by decide +kernel)) (fun h => by cases h) (fun _ K2 k2 => ?_)
                exact s_when (b := false) (et_is (et_and (b := false) (et_test (ev_op (ev_var rfl) ev_c (rv_eq rfl))) (fun h => absurd h (by decide +kernel))) (by decide +kernel)) (fun h => by cases h) (fun _ K3 k3 => fin (J0.ex ((k1.trans k2).trans k3)))
              | held_no hn =>
                refine q_when (b := false) (et_is (et_and (b := false) (et_test (ev_op (ev_var rfl) ev_c (rv_eq rfl))) (fun h => absurd h (by decide +kernel))) (by decide +kernel)) (fun h => by cases h) (fun _ K1 k1 => ?_)
                refine q_when (b := false) (et_is (et_and (b := false) (et_test (ev_op (ev_var rfl) ev_c (rv_eq rfl))) (fun h => absurd h (by decide +kernel))) (by decide +kernel)) (fun h => by cases h) (fun _ K2 k2 => ?_)
                exact s_when (b := false) (et_is (et_and (b := false) (et_test (ev_op (ev_var rfl) ev_c (rv_eq rfl))) (fun h => absurd h (by decide +kernel))) (by decide +kernel)) (fun h => by cases h) (fun _ K3 k3 => fin (J0.ex ((k1.trans k2).trans k3)))
              | @held k hlt =>
                refine q_when (b := false) (et_is (et_and (b := false) (et_test (ev_op (ev_var rfl) ev_c (rv_eq rfl))) (fun h => absurd h (by decide +kernel))) (by decide +kernel)) (fun h => by cases h) (fun _ K1 k1 => ?_)
                refine q_when (b := false) (et_is (et_and (b := false) (et_test (ev_op (ev_var rfl) ev_c (rv_eq rfl))) (fun h => absurd h (by decide +kernel))) (by decide +kernel)) (fun h => by cases h) (fun _ K2 k2 => ?_)
                exact s_when (b := false) (et_is (et_and (b := false) (et_test (ev_op (ev_var rfl) ev_c (rv_eq rfl))) (fun h => absurd h (by decide +kernel))) (by decide +kernel)) (fun h => by cases h) (fun _ K3 k3 => fin (J0.ex ((k1.trans k2).trans k3)))
              | new_no hn =>
                refine q_when (b := false) (et_is (et_and (b := false) (et_test (ev_op (ev_var rfl) ev_c (rv_eq rfl))) (fun h => absurd h (by decide +kernel))) (by decide +kernel)) (fun h => by cases h) (fun _ K1 k1 => ?_)
                refine q_when (b := false) (et_is (et_and (b := false) (et_test (ev_op (ev_var rfl) ev_c (rv_eq rfl))) (fun h => absurd h (by decide +kernel))) (by decide +kernel)) (fun h => by cases h) (fun _ K2 k2 => ?_)
                exact s_when (b := false) (et_is (et_and (b := false) (et_test (ev_op (ev_var rfl) ev_c (rv_eq rfl))) (fun h => absurd h (by decide +kernel))) (by decide +kernel)) (fun h => by cases h) (fun _ K3 k3 => fin (J0.ex ((k1.trans k2).trans k3)))
              | @new k hlt =>
                refine q_when (b := false) (et_is (et_and (b := false) (et_test (ev_op (ev_var rfl) ev_c (rv_eq rfl))) (fun h => absurd h (by decide +kernel))) (by decide +kernel)) (fun h => by cases h) (fun _ K1 k1 => ?_)
                refine q_when (b := false) (et_is (et_and (b := false) (et_test (ev_op (ev_var rfl) ev_c (rv_eq rfl))) (fun h => absurd h (by decide +kernel))) (by decide +kernel)) (fun h => by cases h) (fun _ K2 k2 => ?_)
                exact s_when (b := false) (et_is (et_and (b := false) (et_test (ev_op (ev_var rfl) ev_c (rv_eq rfl))) (fun h => absurd h (by decide +kernel))) (by decide +kernel)) (fun h => by cases h) (fun _ K3 k3 => fin (J0.ex ((k1.trans k2).trans k3)))
              | free_no hn =>
                refine q_when (b := false) (et_is (et_and (b := false) (et_test (ev_op (ev_var rfl) ev_c (rv_eq rfl))) (fun h => absurd h (by decide +kernel))) (by decide +kernel)) (fun h => by cases h) (fun _ K1 k1 => ?_)
                refine q_when (b := false) (et_is (et_and (b := false) (et_test (ev_op (ev_var rfl) ev_c (rv_eq rfl))) (fun h => absurd h (by decide +kernel))) (by decide +kernel)) (fun h => by cases h) (fun _ K2 k2 => ?_)
                exact s_when (b := false) (et_is (et_and (b := false) (et_test (ev_op (ev_var rfl) ev_c (rv_eq rfl))) (fun h => absurd h (by decide +kernel))) (by decide +kernel)) (fun h => by cases h) (fun _ K3 k3 => fin (J0.ex ((k1.trans k2).trans k3)))
              | @free k hlt =>
                refine q_when (b := false) (et_is (et_and (b := false) (et_test (ev_op (ev_var rfl) ev_c (rv_eq rfl))) (fun h => absurd h (by decide +kernel))) (by decide +kernel)) (fun h => by cases h) (fun _ K1 k1 => ?_)
                refine q_when (b := false) (et_is (et_and (b := false) (et_test (ev_op (ev_var rfl) ev_c (rv_eq rfl))) (fun h => absurd h (by decide +kernel))) (by decide +kernel)) (fun h => by cases h) (fun _ K2 k2 => ?_)
                exact s_when (b := false) (et_is (et_and (b := false) (et_test (ev_op (ev_var rfl) ev_c (rv_eq rfl))) (fun h => absurd h (by decide +kernel))) (by decide +kernel)) (fun h => by cases h) (fun _ K3 k3 => fin (J0.ex ((k1.trans k2).trans k3)))

          · -- settle
            refine s_if (b := true) (et_is (et_test (ev_op (ev_var rfl) ev_c (rv_eq rfl))) (by decide +kernel)) (fun _ B1 b1 => ?_) (fun h => by cases h)
            have Jc := Jb.ex b1
            obtain ⟨dy, hoy⟩ := Jc.mu.o
            refine q_m (ev_var rfl) hoy (fl_no _ _ _ ⟨by decide +kernel, by decide +kernel, by decide +kernel⟩) ea_nil fun B2 b2 => ⟨p, cl, hl, cs, hs, dy, rfl, Jc.sp.ex b2, by rw [J.lc]; exact b2 _ _ hoy, fun l B3 hl0 b3 hl3 => ?_⟩
            have M3 := (Jc.mu.ex (b2.trans b3)).setP (l := l) (dx := dy)
            rw [J.lc]
            have lp : l ≠ p := (ne_of_none (b2 _ _ hoy) hl0).symm
            refine s_asgL (el_pos (ev_var rfl) (sq_of M3.m) (by rw [J.lc]; exact J.l2) (fun _ => rfl) (by show 15 < 16; decide)) fun ha' B4 hha b4 h4 => ?_
            obtain ⟨M4, gG, newG⟩ := M3.mask b4
            have F4 := J.fz.ex gG
            exact ⟨na, ha', ka, cl, l, cs, pos cs, rs, _, _, _, _, _, _, _, rfl, ⟨M4, ⟨by
              rw [mask_in lp (ne_of_none (b2 _ _ Jc.mu.c) hl0).symm (ne_of_none (b2 _ _ Jc.mu.m) hl0).symm (ne_of_none (b2 _ _ Jc.mu.r) hl0).symm]
              exact b4 _ _ (by rw [upd_ne lp]; exact hl3), by
              rw [newG _ hha]
              exact h4, F4.k⟩, J.lc, by unfold pos; rw [List.length_map, J.lc], J.l1, J.l2, J.r0, by omega⟩⟩
          · -- save
            refine s_if (b := false) (et_is (et_test (ev_op (ev_var rfl) ev_c (rv_eq rfl))) (by decide +kernel)) (fun h => by cases h) (fun _ B1 b1 => ?_)
            refine s_if (b := true) (et_is (et_test (ev_op (ev_var rfl) ev_c (rv_eq rfl))) (by decide +kernel)) (fun _ B2 b2 => ?_) (fun h => by cases h)
            have Jc := Jb.ex (b1.trans b2)
            refine k_kept rfl rfl rfl Jc.sp Jc.mu.m Jc.ha fun ka' t' ct' ht' kn' kh' B3 n1 n2 n3 n4 n5 n6 b3 g1 g2 g3 g4 g5 g6 => ?_
            obtain ⟨M4, gG, newG⟩ := Jc.mu.mask b3
            have F4 := J.fz.ex gG
            exact ⟨na, ha, ka', cl, hl, cs, hs, rs, _, _, _, _, _, _, _, rfl, ⟨M4, ⟨F4.h, F4.a, t', ct', ht', kn', kh', cs, hs, by rw [newG _ n1]; exact g1, by rw [newG _ n2]; exact g2, by rw [newG _ n3]; exact g3, by rw [newG _ n4]; exact g4, by rw [newG _ n5]; exact g5, by rw [newG _ n6]; exact g6, J.lc, J.lh⟩, J.lc, J.lh, J.l1, J.l2, J.r0, by omega⟩⟩
          · -- restore
            refine s_if (b := false) (et_is (et_test (ev_op (ev_var rfl) ev_c (rv_eq rfl))) (by decide +kernel)) (fun h => by cases h) (fun _ B1 b1 => ?_)
            refine s_if (b := false) (et_is (et_test (ev_op (ev_var rfl) ev_c (rv_eq rfl))) (by decide +kernel)) (fun h => by cases h) (fun _ B2 b2 => ?_)
            refine s_if (b := true) (et_is (et_test (ev_op (ev_var rfl) ev_c (rv_eq rfl))) (by decide +kernel)) (fun _ B3 b3 => ?_) (fun h => by cases h)
            have Jc := Jb.ex ((b1.trans b2).trans b3)
            obtain ⟨dy, hoy⟩ := Jc.mu.o
            obtain ⟨t', ct', ht', kn', kh', cs2, hs2, g1, g2, g3, g4, g5, g6, l1, l2⟩ := J.fz.k
            have gx := Jc.mu.gx
            refine q_m (vs := [.ref t']) (ev_var rfl) hoy (fl_no _ _ _ ⟨by decide +kernel, by decide +kernel, by decide +kernel⟩) (ea_cons (ev_op (ev_var rfl) ev_c (rv_ixL (sq_of (gx _ _ g1)) (atI_nat (j := 0) rfl))) ea_nil) fun B4 b4 => ⟨p, t', ct', ht', cl, hl, cs, hs, cs2, hs2, rfl, Jc.sp.ex b4, st_of (b4 _ _ (gx _ _ g2)), st_of (b4 _ _ (gx _ _ g3)), st_of (b4 _ _ (gx _ _ g4)), by rw [l1, J.lc], by rw [l2, J.lc], fun cl' hl' B5 f5 hcl' hhl' hne' S5 => ?_⟩
            have gx4 := gx.trans b4
            have gx5 : Ex G B5 := f5.ex gx4 fun x hx => by rw [hx]; exact J.mu.gp
            refine q_asgL (el_list (ev_op (ev_var rfl) ev_c (rv_ixL (sq_of (gx5 _ _ g1)) (atI_nat (j := 1) rfl))) (sq_of (gx5 _ _ g5))) fun na' B6 hna' b6 h6 => ?_
            have gx6 := gx5.trans b6
            refine s_asgL (el_list (ev_op (ev_var rfl) ev_c (rv_ixL (sq_of (gx6 _ _ g1)) (atI_nat (j := 2) rfl))) (sq_of (gx6 _ _ g6))) fun ha' B7 hha' b7 h7 => ?_
            have gx7 := gx6.trans b7
            obtain ⟨d5, ho5⟩ := S5.o
            rw [l1] at ho5
            have rap : ra ≠ p := (J.mu.pl J.mu.r).symm
            have ra4 := b4 _ _ Jc.mu.r
            have ra5 := f5 _ _ ra4 rap
            have gcl : G cl' = none := fresh_back gx4 hcl'
            have gna : G na' = none := fresh_back gx5 hna'
            have gg2 : Ex G (K21.mask B7 p cl' na' ra) := mask_exG gx7 J.mu.gp gcl gna J.mu.gr
            have F7 := J.fz.ex gg2
            have hlp : hl' ≠ p := ne_of S5.h ho5 (by intro z; cases z)
            exact ⟨na', ha', ka, cl', hl', cs2, hs2, rs, _, _, _, _, _, _, _, rfl, ⟨⟨J.mu.g0.trans gg2, mask_ex, mask_no (.inl rfl), mask_no (.inr (.inl rfl)), mask_no (.inr (.inr (.inl rfl))), mask_no (.inr (.inr (.inr rfl))), ⟨d5, b7 _ _ (b6 _ _ ho5)⟩, b7 _ _ (b6 _ _ S5.c), b7 _ _ h6, b7 _ _ (b6 _ _ ra5), ne_of_none S5.c hna', (ne_of_none ra4 hcl').symm, (ne_of_none ra5 hna').symm⟩,
              ⟨by
                rw [mask_in hlp hne'.symm (ne_of_none S5.h hna') (ne_of_none ra4 hhl').symm]
                exact b7 _ _ (b6 _ _ S5.h), by
                rw [mask_in (ne_of_none (b6 _ _ ho5) hha').symm (ne_of_none (b6 _ _ S5.c) hha').symm (ne_of_none h6 hha').symm (ne_of_none (b6 _ _ ra5) hha').symm]
                exact h7, F7.k⟩, l1, l2, J.l1, J.l2, J.r0, by omega⟩⟩
        · rintro σ2 B1 ⟨na, ha, ka, cl, hl, cs, hs, rs, G, y4, y5, y11, y12, y13, y14, rfl, J⟩
          exact s_when (b := false) (et_is (et_not (et_B (ev_call (vs := [.ref p, .ref na, .ref ha]) (ea_cons (ev_var rfl) (ea_cons (ev_var rfl) (ea_cons (ev_var rfl) ea_nil))) (fun H1 e1 Q q E => ⟨p, cl, hl, na, ha, cs, hs, rfl, J.sp.ex e1, sq_of (e1 _ _ J.mu.m), sq_of (e1 _ _ J.ha), q⟩)))) rfl) (fun h => by cases h) (fun _ B2 b2 => ⟨na, ha, ka, cl, hl, cs, hs, rs, G, _, _, _, _, _, _, rfl, J.ex b2⟩)
      · rintro σ' H' ⟨na, ha, ka, cl, hl, cs, hs, rs, G, y4, y5, y11, y12, y13, y14, rfl, J⟩
        obtain ⟨dz, hoz⟩ := J.mu.o
        refine q_forR1 (n := (nb : Int)) (ea_cons (ev_var rfl) ea_nil) ⟨by omega, by omega⟩ (fun i σ' H' => ∃ y11, σ' = sl a ta nb na y4 y5 ha pa p ka ra y11 y12 y13 y14 ∧ LJ K C H3 G H' p cl hl na ha ka ra nb (6 + (if (ts.length : Int) / 2 < 60 then (ts.length : Int) / 2 else 60).toNat) cs hs rs) (fun H1 e1 => ⟨_, rfl, J.ex e1⟩) ?_ ?_
        · rintro k σ' H' hk ⟨y11, rfl, J⟩
          have hkl : k < cs.length := by rw [J.lc]; omega
          have hkh : k < hs.length := by rw [J.lh]; omega
          refine q_ds (vs := [.ref p, .str "uses", .int (k : Int)]) (ea_cons (ev_var rfl) (ea_cons ev_c (ea_cons (ev_var rfl) ea_nil))) fun B1 b1 => ⟨p, cl, hl, cs, hs, "uses", _, _, cs, rfl, J.sp.ex b1, fun e => absurd e (by decide +kernel), .uses hkl, fun B2 v f2 c2 hv => ⟨_, .val (.int (cv cs k)), ev_op (ev_var rfl) (ev_var rfl) (rv_ixL (sq_of (f2 _ _ (b1 _ _ J.mu.m) J.mu.d1.symm)) (atI_nat (cv_at hkl))), hv, rfl, .inr (.inl ⟨_, rfl⟩), fun B3 b3 => ?_⟩⟩
          have J3 : LJ K C H3 G B3 p cl hl na ha ka ra nb (6 + (if (ts.length : Int) / 2 < 60 then (ts.length : Int) / 2 else 60).toNat) cs hs rs := ⟨((J.mu.ex b1).frC f2 c2).ex b3, J.fz, J.lc, J.lh, J.l1, J.l2, J.r0, J.r1⟩
          refine s_ds (vs := [.ref p, .str "held", .int (k : Int)]) (ea_cons (ev_var rfl) (ea_cons ev_c (ea_cons (ev_var rfl) ea_nil))) fun B4 b4 => ⟨p, cl, hl, cs, hs, "held", _, _, cs, rfl, J3.sp.ex b4, fun e => absurd e (by decide +kernel), .held hkl, fun B5 v f5 c5 hv => ?_⟩
          have J5 : LJ K C H3 G B5 p cl hl na ha ka ra nb (6 + (if (ts.length : Int) / 2 < 60 then (ts.length : Int) / 2 else 60).toNat) cs hs rs := ⟨(J3.mu.ex b4).frC f5 c5, J.fz, J.lc, J.lh, J.l1, J.l2, J.r0, J.r1⟩
          exact ⟨_, .val (.bl (K21.hv hs k)), ev_op (ev_var rfl) (ev_var rfl) (rv_ixL (sq_of J5.ha) (atI_nat (hv_at hkh))), hv, rfl, .inr (.inr ⟨_, rfl⟩), fun B6 b6 => ⟨_, rfl, J5.ex b6⟩⟩
        · rintro σ' H' ⟨y11, rfl, J⟩
          exact s_ret ev_c fun H1 e1 => q H1
end
end K21

set_option Elab.async false
set_option linter.all false
set_option maxRecDepth 100000
set_option maxHeartbeats 4000000
namespace K21
open PySem PySem.Spec PyProof.Rows L2 Evl LK LT LG LS LQ LX LO
theorem all_mk {l : PySem.W.OpenLaw} {w : World} {K : PySem.W.Frag} {h : Heap} {mg : Str → Option Value} {fa f1 f2 f3 f4 f5 f6 f7 f8 f9 f10 f11 f12 f13 f14 f15 f16 f17 f18 f19 f20 f21 f22 f23 f24 f25 f26 f27 : Addr} (X : K.In h) (G : h.Ns mainGlobals mg) (hfa : mg "law" = some (.ref fa))
    {od1 an1 od2 an2 od3 an3 od4 an4 od5 an5 od6 an6 od7 an7 od8 an8 od9 an9 od10 an10 od11 an11 od12 an12 od13 an13 od14 an14 od15 an15 od16 an16 od17 an17 od18 an18 od19 an19 od20 an20 od21 an21 od22 an22 od23 an23 od24 an24 od25 an25 od26 an26 od27 an27 : Option Addr} {sl1 sl2 sl3 sl4 sl5 sl6 sl7 sl8 sl9 sl10 sl11 sl12 sl13 sl14 sl15 sl16 sl17 sl18 sl19 sl20 sl21 sl22 sl23 sl24 sl25 sl26 sl27 : Array (Option Value)} {oc1 kV1 dc1 pm1 ct1 cd1 oc2 kV2 dc2 pm2 ct2 cd2 oc3 kV3 dc3 pm3 ct3 cd3 oc4 kV4 dc4 pm4 ct4 cd4 oc5 kV5 dc5 pm5 ct5 cd5 oc6 kV6 dc6 pm6 ct6 cd6 oc7 kV7 dc7 pm7 ct7 cd7 oc8 kV8 dc8 pm8 ct8 cd8 oc9 kV9 dc9 pm9 ct9 cd9 oc10 kV10 dc10 pm10 ct10 cd10 oc11 kV11 dc11 pm11 ct11 cd11 oc12 kV12 dc12 pm12 ct12 cd12 oc13 kV13 dc13 pm13 ct13 cd13 oc14 kV14 dc14 pm14 ct14 cd14 oc15 kV15 dc15 pm15 ct15 cd15 oc16 kV16 dc16 pm16 ct16 cd16 oc17 kV17 dc17 pm17 ct17 cd17 oc18 kV18 dc18 pm18 ct18 cd18 oc19 kV19 dc19 pm19 ct19 cd19 oc20 kV20 dc20 pm20 ct20 cd20 oc21 kV21 dc21 pm21 ct21 cd21 oc22 kV22 dc22 pm22 ct22 cd22 oc23 kV23 dc23 pm23 ct23 cd23 oc24 kV24 dc24 pm24 ct24 cd24 oc25 kV25 dc25 pm25 ct25 cd25 oc26 kV26 dc26 pm26 ct26 cd26 oc27 kV27 dc27 pm27 ct27 cd27 : Value}
    {C : Addr}
    {tk1 tk2 tk3 : Tok}
    (a1 : PySem.W.nsIn K mainGlobals "is_word" = some (some (.ref f1))) (l1 : K.lookup f1 = some ⟨oc1, od1, .func (PySem.W.fnOf "is_word" "is_word" (defArgs sIw) (defBody sIw) (defScope sIw) .none kV1 dc1 pm1 an1 cd1 ct1), sl1⟩) (c1 : PySem.W.codeIn K cd1 "is_word" = true) (k1 : PySem.W.keepIn K (.ref f1) = true)
    (a2 : PySem.W.findIn K (.ref C) "__init__" = some (some (.ref f2))) (i2 : PySem.W.isFn K (.ref f2) = true) (l2 : K.lookup f2 = some ⟨oc2, od2, .func (PySem.W.fnOf "__init__" "Space.__init__" (defArgs sInit) (defBody sInit) (defScope sInit) .none kV2 dc2 pm2 an2 cd2 ct2), sl2⟩) (c2 : PySem.W.codeIn K cd2 "Space.__init__" = true) (k2 : PySem.W.keepIn K (.ref f2) = true)
    (a3 : PySem.W.findIn K (.ref C) "take" = some (some (.ref f3))) (i3 : PySem.W.isFn K (.ref f3) = true) (l3 : K.lookup f3 = some ⟨oc3, od3, .func (PySem.W.fnOf "take" "Space.take" (defArgs sTake) (defBody sTake) (defScope sTake) .none kV3 dc3 pm3 an3 cd3 ct3), sl3⟩) (c3 : PySem.W.codeIn K cd3 "Space.take" = true) (k3 : PySem.W.keepIn K (.ref f3) = true)
    (a4 : PySem.W.findIn K (.ref C) "least_free" = some (some (.ref f4))) (i4 : PySem.W.isFn K (.ref f4) = true) (l4 : K.lookup f4 = some ⟨oc4, od4, .func (PySem.W.fnOf "least_free" "Space.least_free" (defArgs sLeast) (defBody sLeast) (defScope sLeast) .none kV4 dc4 pm4 an4 cd4 ct4), sl4⟩) (c4 : PySem.W.codeIn K cd4 "Space.least_free" = true) (k4 : PySem.W.keepIn K (.ref f4) = true)
    (a5 : PySem.W.findIn K (.ref C) "share" = some (some (.ref f5))) (i5 : PySem.W.isFn K (.ref f5) = true) (l5 : K.lookup f5 = some ⟨oc5, od5, .func (PySem.W.fnOf "share" "Space.share" (defArgs sShare) (defBody sShare) (defScope sShare) .none kV5 dc5 pm5 an5 cd5 ct5), sl5⟩) (c5 : PySem.W.codeIn K cd5 "Space.share" = true) (k5 : PySem.W.keepIn K (.ref f5) = true)
    (a6 : PySem.W.findIn K (.ref C) "drop" = some (some (.ref f6))) (i6 : PySem.W.isFn K (.ref f6) = true) (l6 : K.lookup f6 = some ⟨oc6, od6, .func (PySem.W.fnOf "drop" "Space.drop" (defArgs sDrop) (defBody sDrop) (defScope sDrop) .none kV6 dc6 pm6 an6 cd6 ct6), sl6⟩) (c6 : PySem.W.codeIn K cd6 "Space.drop" = true) (k6 : PySem.W.keepIn K (.ref f6) = true)
    (a7 : PySem.W.findIn K (.ref C) "uses" = some (some (.ref f7))) (i7 : PySem.W.isFn K (.ref f7) = true) (l7 : K.lookup f7 = some ⟨oc7, od7, .func (PySem.W.fnOf "uses" "Space.uses" (defArgs sUses) (defBody sUses) (defScope sUses) .none kV7 dc7 pm7 an7 cd7 ct7), sl7⟩) (c7 : PySem.W.codeIn K cd7 "Space.uses" = true) (k7 : PySem.W.keepIn K (.ref f7) = true)
    (a8 : PySem.W.findIn K (.ref C) "is_held" = some (some (.ref f8))) (i8 : PySem.W.isFn K (.ref f8) = true) (l8 : K.lookup f8 = some ⟨oc8, od8, .func (PySem.W.fnOf "is_held" "Space.is_held" (defArgs sHeld) (defBody sHeld) (defScope sHeld) .none kV8 dc8 pm8 an8 cd8 ct8), sl8⟩) (c8 : PySem.W.codeIn K cd8 "Space.is_held" = true) (k8 : PySem.W.keepIn K (.ref f8) = true)
    (a9 : PySem.W.findIn K (.ref C) "is_new" = some (some (.ref f9))) (i9 : PySem.W.isFn K (.ref f9) = true) (l9 : K.lookup f9 = some ⟨oc9, od9, .func (PySem.W.fnOf "is_new" "Space.is_new" (defArgs sNew) (defBody sNew) (defScope sNew) .none kV9 dc9 pm9 an9 cd9 ct9), sl9⟩) (c9 : PySem.W.codeIn K cd9 "Space.is_new" = true) (k9 : PySem.W.keepIn K (.ref f9) = true)
    (a10 : PySem.W.findIn K (.ref C) "is_free" = some (some (.ref f10))) (i10 : PySem.W.isFn K (.ref f10) = true) (l10 : K.lookup f10 = some ⟨oc10, od10, .func (PySem.W.fnOf "is_free" "Space.is_free" (defArgs sFree) (defBody sFree) (defScope sFree) .none kV10 dc10 pm10 an10 cd10 ct10), sl10⟩) (c10 : PySem.W.codeIn K cd10 "Space.is_free" = true) (k10 : PySem.W.keepIn K (.ref f10) = true)
    (a11 : PySem.W.findIn K (.ref C) "free" = some (some (.ref f11))) (i11 : PySem.W.isFn K (.ref f11) = true) (l11 : K.lookup f11 = some ⟨oc11, od11, .func (PySem.W.fnOf "free" "Space.free" (defArgs sFr) (defBody sFr) (defScope sFr) .none kV11 dc11 pm11 an11 cd11 ct11), sl11⟩) (c11 : PySem.W.codeIn K cd11 "Space.free" = true) (k11 : PySem.W.keepIn K (.ref f11) = true)
    (a12 : PySem.W.findIn K (.ref C) "pending" = some (some (.ref f12))) (i12 : PySem.W.isFn K (.ref f12) = true) (l12 : K.lookup f12 = some ⟨oc12, od12, .func (PySem.W.fnOf "pending" "Space.pending" (defArgs sPend) (defBody sPend) (defScope sPend) .none kV12 dc12 pm12 an12 cd12 ct12), sl12⟩) (c12 : PySem.W.codeIn K cd12 "Space.pending" = true) (k12 : PySem.W.keepIn K (.ref f12) = true)
    (a13 : PySem.W.findIn K (.ref C) "settle" = some (some (.ref f13))) (i13 : PySem.W.isFn K (.ref f13) = true) (l13 : K.lookup f13 = some ⟨oc13, od13, .func (PySem.W.fnOf "settle" "Space.settle" (defArgs sSettle) (defBody sSettle) (defScope sSettle) .none kV13 dc13 pm13 an13 cd13 ct13), sl13⟩) (c13 : PySem.W.codeIn K cd13 "Space.settle" = true) (k13 : PySem.W.keepIn K (.ref f13) = true)
    (a14 : PySem.W.findIn K (.ref C) "saved" = some (some (.ref f14))) (i14 : PySem.W.isFn K (.ref f14) = true) (l14 : K.lookup f14 = some ⟨oc14, od14, .func (PySem.W.fnOf "saved" "Space.saved" (defArgs sSaved) (defBody sSaved) (defScope sSaved) .none kV14 dc14 pm14 an14 cd14 ct14), sl14⟩) (c14 : PySem.W.codeIn K cd14 "Space.saved" = true) (k14 : PySem.W.keepIn K (.ref f14) = true)
    (a15 : PySem.W.findIn K (.ref C) "restore" = some (some (.ref f15))) (i15 : PySem.W.isFn K (.ref f15) = true) (l15 : K.lookup f15 = some ⟨oc15, od15, .func (PySem.W.fnOf "restore" "Space.restore" (defArgs sRest) (defBody sRest) (defScope sRest) .none kV15 dc15 pm15 an15 cd15 ct15), sl15⟩) (c15 : PySem.W.codeIn K cd15 "Space.restore" = true) (k15 : PySem.W.keepIn K (.ref f15) = true)
    (a16 : PySem.W.findIn K (.ref C) "_count_unused" = some (some (.ref f16))) (i16 : PySem.W.isFn K (.ref f16) = true) (l16 : K.lookup f16 = some ⟨oc16, od16, .func (PySem.W.fnOf "_count_unused" "Space._count_unused" (defArgs sCu) (defBody sCu) (defScope sCu) .none kV16 dc16 pm16 an16 cd16 ct16), sl16⟩) (c16 : PySem.W.codeIn K cd16 "Space._count_unused" = true) (k16 : PySem.W.keepIn K (.ref f16) = true)
    (a17 : PySem.W.findIn K (.ref C) "_check_exists" = some (some (.ref f17))) (i17 : PySem.W.isFn K (.ref f17) = true) (l17 : K.lookup f17 = some ⟨oc17, od17, .func (PySem.W.fnOf "_check_exists" "Space._check_exists" (defArgs sCe) (defBody sCe) (defScope sCe) .none kV17 dc17 pm17 an17 cd17 ct17), sl17⟩) (c17 : PySem.W.codeIn K cd17 "Space._check_exists" = true) (k17 : PySem.W.keepIn K (.ref f17) = true)
    (a18 : PySem.W.findIn K (.ref C) "_check_used" = some (some (.ref f18))) (i18 : PySem.W.isFn K (.ref f18) = true) (l18 : K.lookup f18 = some ⟨oc18, od18, .func (PySem.W.fnOf "_check_used" "Space._check_used" (defArgs sCk) (defBody sCk) (defScope sCk) .none kV18 dc18 pm18 an18 cd18 ct18), sl18⟩) (c18 : PySem.W.codeIn K cd18 "Space._check_used" = true) (k18 : PySem.W.keepIn K (.ref f18) = true)
    (a19 : PySem.W.nsIn K mainGlobals "_law_tape" = some (some (.ref f19))) (l19 : K.lookup f19 = some ⟨oc19, od19, .func (PySem.W.fnOf "_law_tape" "_law_tape" (defArgs sTape) (defBody sTape) (defScope sTape) .none kV19 dc19 pm19 an19 cd19 ct19), sl19⟩) (c19 : PySem.W.codeIn K cd19 "_law_tape" = true) (k19 : PySem.W.keepIn K (.ref f19) = true)
    (a20 : PySem.W.nsIn K mainGlobals "_law_at" = some (some (.ref f20))) (l20 : K.lookup f20 = some ⟨oc20, od20, .func (PySem.W.fnOf "_law_at" "_law_at" (defArgs sAt) (defBody sAt) (defScope sAt) .none kV20 dc20 pm20 an20 cd20 ct20), sl20⟩) (c20 : PySem.W.codeIn K cd20 "_law_at" = true) (k20 : PySem.W.keepIn K (.ref f20) = true)
    (a21 : PySem.W.nsIn K mainGlobals "_law_kind" = some (some (.ref f21))) (l21 : K.lookup f21 = some ⟨oc21, od21, .func (PySem.W.fnOf "_law_kind" "_law_kind" (defArgs sKind) (defBody sKind) (defScope sKind) .none kV21 dc21 pm21 an21 cd21 ct21), sl21⟩) (c21 : PySem.W.codeIn K cd21 "_law_kind" = true) (k21 : PySem.W.keepIn K (.ref f21) = true)
    (a22 : PySem.W.nsIn K mainGlobals "_law_do" = some (some (.ref f22))) (l22 : K.lookup f22 = some ⟨oc22, od22, .func (PySem.W.fnOf "_law_do" "_law_do" (defArgs sDo) (defBody sDo) (defScope sDo) .none kV22 dc22 pm22 an22 cd22 ct22), sl22⟩) (c22 : PySem.W.codeIn K cd22 "_law_do" = true) (k22 : PySem.W.keepIn K (.ref f22) = true)
    (a23 : PySem.W.nsIn K mainGlobals "_law_free" = some (some (.ref f23))) (l23 : K.lookup f23 = some ⟨oc23, od23, .func (PySem.W.fnOf "_law_free" "_law_free" (defArgs sLf) (defBody sLf) (defScope sLf) .none kV23 dc23 pm23 an23 cd23 ct23), sl23⟩) (c23 : PySem.W.codeIn K cd23 "_law_free" = true) (k23 : PySem.W.keepIn K (.ref f23) = true)
    (a24 : PySem.W.nsIn K mainGlobals "_law_due" = some (some (.ref f24))) (l24 : K.lookup f24 = some ⟨oc24, od24, .func (PySem.W.fnOf "_law_due" "_law_due" (defArgs sDue) (defBody sDue) (defScope sDue) .none kV24 dc24 pm24 an24 cd24 ct24), sl24⟩) (c24 : PySem.W.codeIn K cd24 "_law_due" = true) (k24 : PySem.W.keepIn K (.ref f24) = true)
    (a25 : PySem.W.nsIn K mainGlobals "_law_same" = some (some (.ref f25))) (l25 : K.lookup f25 = some ⟨oc25, od25, .func (PySem.W.fnOf "_law_same" "_law_same" (defArgs sSame) (defBody sSame) (defScope sSame) .none kV25 dc25 pm25 an25 cd25 ct25), sl25⟩) (c25 : PySem.W.codeIn K cd25 "_law_same" = true) (k25 : PySem.W.keepIn K (.ref f25) = true)
    (a26 : PySem.W.nsIn K mainGlobals "_law_counts" = some (some (.ref f26))) (l26 : K.lookup f26 = some ⟨oc26, od26, .func (PySem.W.fnOf "_law_counts" "_law_counts" (defArgs sCounts) (defBody sCounts) (defScope sCounts) .none kV26 dc26 pm26 an26 cd26 ct26), sl26⟩) (c26 : PySem.W.codeIn K cd26 "_law_counts" = true) (k26 : PySem.W.keepIn K (.ref f26) = true)
    (a27 : PySem.W.nsIn K mainGlobals "law" = some (some (.ref f27))) (l27 : K.lookup f27 = some ⟨oc27, od27, .func (PySem.W.fnOf "law" "law" (defArgs sLaw) (defBody sLaw) (defScope sLaw) .none kV27 dc27 pm27 an27 cd27 ct27), sl27⟩) (c27 : PySem.W.codeIn K cd27 "law" = true) (k27 : PySem.W.keepIn K (.ref f27) = true)
    (g1 : PySem.W.nsIn K mainGlobals "FIRST_BLOCK" = some (some (.int 5 tk1)))
    (g2 : PySem.W.nsIn K mainGlobals "ADD" = some (some (.int 60 tk2)))
    (g3 : PySem.W.nsIn K mainGlobals "REMOVE" = some (some (.int 20 tk3)))
    (z1 : PySem.W.nsIn K mainGlobals "len" = some none)
    (z2 : PySem.W.nsIn K mainGlobals "range" = some none)
    (z3 : PySem.W.nsIn K mainGlobals "tuple" = some none)
    (z4 : PySem.W.nsIn K mainGlobals "list" = some none)
    (z5 : PySem.W.nsIn K mainGlobals "isinstance" = some none)
    (z6 : PySem.W.nsIn K mainGlobals "zip" = some none)
    (z7 : PySem.W.nsIn K mainGlobals "abs" = some none)
    (z8 : PySem.W.nsIn K mainGlobals "int" = some none)
    (z9 : PySem.W.nsIn K mainGlobals "bool" = some none)
    (z10 : PySem.W.nsIn K mainGlobals "min" = some none)
    (z11 : PySem.W.nsIn K mainGlobals "max" = some none)
    {CS CN CL : Addr}
    (gS : PySem.W.nsIn K mainGlobals "NoSpace" = some (some (.ref CS)))
    (xS : PySem.W.excIn K CS LX.veTail "ValueError.__new__" = true)
    (kS : PySem.W.keepIn K (.ref CS) = true)
    (bS : PySem.W.subIn K (.ref CS) (.type "BaseException") = some true)
    (tS : PySem.W.typeIn K (.ref CS) = some (.type "type"))
    (dS : PySem.W.hasDictIn K CS = true)
    (hgS : PySem.W.findIn K (.ref CS) "__getattribute__" = some (some (.builtin "BaseException.__getattribute__")))
    (hkS : PySem.W.findIn K (.ref CS) "__getattr__" = some none)
    (haS : PySem.W.findIn K (.ref CS) "__class__" = some (some (.builtin "object.__class__")))
    (hmS : PySem.W.mroIn K CS (.type "object") = some true)
    (gN : PySem.W.nsIn K mainGlobals "NotValid" = some (some (.ref CN)))
    (xN : PySem.W.excIn K CN LX.veTail "ValueError.__new__" = true)
    (kN : PySem.W.keepIn K (.ref CN) = true)
    (bN : PySem.W.subIn K (.ref CN) (.type "BaseException") = some true)
    (tN : PySem.W.typeIn K (.ref CN) = some (.type "type"))
    (dN : PySem.W.hasDictIn K CN = true)
    (hgN : PySem.W.findIn K (.ref CN) "__getattribute__" = some (some (.builtin "BaseException.__getattribute__")))
    (hkN : PySem.W.findIn K (.ref CN) "__getattr__" = some none)
    (haN : PySem.W.findIn K (.ref CN) "__class__" = some (some (.builtin "object.__class__")))
    (hmN : PySem.W.mroIn K CN (.type "object") = some true)
    (gL : PySem.W.nsIn K mainGlobals "LaminaError" = some (some (.ref CL)))
    (xL : PySem.W.excIn K CL LX.veTail "ValueError.__new__" = true)
    (kL : PySem.W.keepIn K (.ref CL) = true)
    (bL : PySem.W.subIn K (.ref CL) (.type "BaseException") = some true)
    (tL : PySem.W.typeIn K (.ref CL) = some (.type "type"))
    (dL : PySem.W.hasDictIn K CL = true)
    (hn : PySem.W.specialIn K (.builtin "object.__class__") "__get__" = some (some (.builtin "getset_descriptor.__get__")))
    (ht : PySem.W.takesIn K (.builtin "object.__class__") = some true)
    (sSS : PySem.W.subIn K (.ref CS) (.ref CS) = some true)
    (sNS : PySem.W.subIn K (.ref CN) (.ref CS) = some false)
    (sNN : PySem.W.subIn K (.ref CN) (.ref CN) = some true)
    (sSL : PySem.W.subIn K (.ref CS) (.ref CL) = some true)
    (sNL : PySem.W.subIn K (.ref CN) (.ref CL) = some true)
    (aCC : PySem.W.nsIn K mainGlobals "Space" = some (some (.ref C)))
    (pgC : PySem.W.plainGet K C Str.empty = true)
    (hdC : PySem.W.hasDictIn K C = true)
    (poC : PySem.W.plainOver K C = true)
    (saC : PySem.W.findIn K (.ref C) "__setattr__" = some (some (.builtin "object.__setattr__")))
    (mkC : PySem.W.makesIn K C = true)
    (kcC : PySem.W.keepIn K (.ref C) = true)
    (n0C : PySem.W.findIn K (.ref C) "blocks" = some none)
    (n1C : PySem.W.findIn K (.ref C) "_counts" = some none)
    (n2C : PySem.W.findIn K (.ref C) "_held" = some none)
    : ∃ fd : FuncData, (∀ (s : Shared) (v : Value), BindsTo s fd ⟨[v], []⟩ [("script", v)]) ∧ ∀ base : Heap, K.In base → base.Ns mainGlobals mg → FnOk l.prog w K mg base CX0 8 fa fd ["script"] (spLaw K) := by
  have e := hfa.symm.trans (PySem.W.mg_of X G a27)
  cases e
  have F1 := fun_mk (st := sIw) l1 c1 k1
  have b1 := F1.binds (ps := ["value"]) fun _ _ _ _ _ _ us hl => match us, hl with | [_], _ => rfl
  have m1 := PySem.W.mg_of X G a1
  have F2 := fun_mk (st := sInit) l2 c2 k2
  have m2 : Meth K C "__init__" f2 := ⟨a2, i2, k2⟩
  have b2 := F2.binds (ps := ["self", "uses"]) fun _ _ _ _ _ _ us hl => match us, hl with | [_, _], _ => rfl
  have F3 := fun_mk (st := sTake) l3 c3 k3
  have m3 : Meth K C "take" f3 := ⟨a3, i3, k3⟩
  have b3 := F3.binds (ps := ["self", "reserve"]) fun _ _ _ _ _ _ us hl => match us, hl with | [_, _], _ => rfl
  have F4 := fun_mk (st := sLeast) l4 c4 k4
  have m4 : Meth K C "least_free" f4 := ⟨a4, i4, k4⟩
  have b4 := F4.binds (ps := ["self"]) fun _ _ _ _ _ _ us hl => match us, hl with | [_], _ => rfl
  have F5 := fun_mk (st := sShare) l5 c5 k5
  have m5 : Meth K C "share" f5 := ⟨a5, i5, k5⟩
  have b5 := F5.binds (ps := ["self", "block"]) fun _ _ _ _ _ _ us hl => match us, hl with | [_, _], _ => rfl
  have F6 := fun_mk (st := sDrop) l6 c6 k6
  have m6 : Meth K C "drop" f6 := ⟨a6, i6, k6⟩
  have b6 := F6.binds (ps := ["self", "block"]) fun _ _ _ _ _ _ us hl => match us, hl with | [_, _], _ => rfl
  have F7 := fun_mk (st := sUses) l7 c7 k7
  have m7 : Meth K C "uses" f7 := ⟨a7, i7, k7⟩
  have b7 := F7.binds (ps := ["self", "block"]) fun _ _ _ _ _ _ us hl => match us, hl with | [_, _], _ => rfl
  have F8 := fun_mk (st := sHeld) l8 c8 k8
  have m8 : Meth K C "is_held" f8 := ⟨a8, i8, k8⟩
  have b8 := F8.binds (ps := ["self", "block"]) fun _ _ _ _ _ _ us hl => match us, hl with | [_, _], _ => rfl
  have F9 := fun_mk (st := sNew) l9 c9 k9
  have m9 : Meth K C "is_new" f9 := ⟨a9, i9, k9⟩
  have b9 := F9.binds (ps := ["self", "block"]) fun _ _ _ _ _ _ us hl => match us, hl with | [_, _], _ => rfl
  have F10 := fun_mk (st := sFree) l10 c10 k10
  have m10 : Meth K C "is_free" f10 := ⟨a10, i10, k10⟩
  have b10 := F10.binds (ps := ["self", "block"]) fun _ _ _ _ _ _ us hl => match us, hl with | [_, _], _ => rfl
  have F11 := fun_mk (st := sFr) l11 c11 k11
  have m11 : Meth K C "free" f11 := ⟨a11, i11, k11⟩
  have b11 := F11.binds (ps := ["self"]) fun _ _ _ _ _ _ us hl => match us, hl with | [_], _ => rfl
  have F12 := fun_mk (st := sPend) l12 c12 k12
  have m12 : Meth K C "pending" f12 := ⟨a12, i12, k12⟩
  have b12 := F12.binds (ps := ["self"]) fun _ _ _ _ _ _ us hl => match us, hl with | [_], _ => rfl
  have F13 := fun_mk (st := sSettle) l13 c13 k13
  have m13 : Meth K C "settle" f13 := ⟨a13, i13, k13⟩
  have b13 := F13.binds (ps := ["self"]) fun _ _ _ _ _ _ us hl => match us, hl with | [_], _ => rfl
  have F14 := fun_mk (st := sSaved) l14 c14 k14
  have m14 : Meth K C "saved" f14 := ⟨a14, i14, k14⟩
  have b14 := F14.binds (ps := ["self"]) fun _ _ _ _ _ _ us hl => match us, hl with | [_], _ => rfl
  have F15 := fun_mk (st := sRest) l15 c15 k15
  have m15 : Meth K C "restore" f15 := ⟨a15, i15, k15⟩
  have b15 := F15.binds (ps := ["self", "saved"]) fun _ _ _ _ _ _ us hl => match us, hl with | [_, _], _ => rfl
  have F16 := fun_mk (st := sCu) l16 c16 k16
  have m16 : Meth K C "_count_unused" f16 := ⟨a16, i16, k16⟩
  have b16 := F16.binds (ps := ["self", "held"]) fun _ _ _ _ _ _ us hl => match us, hl with | [_, _], _ => rfl
  have F17 := fun_mk (st := sCe) l17 c17 k17
  have m17 : Meth K C "_check_exists" f17 := ⟨a17, i17, k17⟩
  have b17 := F17.binds (ps := ["self", "block"]) fun _ _ _ _ _ _ us hl => match us, hl with | [_, _], _ => rfl
  have F18 := fun_mk (st := sCk) l18 c18 k18
  have m18 : Meth K C "_check_used" f18 := ⟨a18, i18, k18⟩
  have b18 := F18.binds (ps := ["self", "block"]) fun _ _ _ _ _ _ us hl => match us, hl with | [_, _], _ => rfl
  have F19 := fun_mk (st := sTape) l19 c19 k19
  have b19 := F19.binds (ps := ["script"]) fun _ _ _ _ _ _ us hl => match us, hl with | [_], _ => rfl
  have m19 := PySem.W.mg_of X G a19
  have F20 := fun_mk (st := sAt) l20 c20 k20
  have b20 := F20.binds (ps := ["tape", "k"]) fun _ _ _ _ _ _ us hl => match us, hl with | [_, _], _ => rfl
  have m20 := PySem.W.mg_of X G a20
  have F21 := fun_mk (st := sKind) l21 c21 k21
  have b21 := F21.binds (ps := ["e"]) fun _ _ _ _ _ _ us hl => match us, hl with | [_], _ => rfl
  have m21 := PySem.W.mg_of X G a21
  have F22 := fun_mk (st := sDo) l22 c22 k22
  have b22 := F22.binds (ps := ["space", "act", "block"]) fun _ _ _ _ _ _ us hl => match us, hl with | [_, _, _], _ => rfl
  have m22 := PySem.W.mg_of X G a22
  have F23 := fun_mk (st := sLf) l23 c23 k23
  have b23 := F23.binds (ps := ["numbers", "held"]) fun _ _ _ _ _ _ us hl => match us, hl with | [_, _], _ => rfl
  have m23 := PySem.W.mg_of X G a23
  have F24 := fun_mk (st := sDue) l24 c24 k24
  have b24 := F24.binds (ps := ["numbers", "held", "act", "block"]) fun _ _ _ _ _ _ us hl => match us, hl with | [_, _, _, _], _ => rfl
  have m24 := PySem.W.mg_of X G a24
  have F25 := fun_mk (st := sSame) l25 c25 k25
  have b25 := F25.binds (ps := ["told", "due"]) fun _ _ _ _ _ _ us hl => match us, hl with | [_, _], _ => rfl
  have m25 := PySem.W.mg_of X G a25
  have F26 := fun_mk (st := sCounts) l26 c26 k26
  have b26 := F26.binds (ps := ["space", "numbers", "held"]) fun _ _ _ _ _ _ us hl => match us, hl with | [_, _, _], _ => rfl
  have m26 := PySem.W.mg_of X G a26
  have F27 := fun_mk (st := sLaw) l27 c27 k27
  have m27 := PySem.W.mg_of X G a27
  have T : Txt mg K C := ⟨PySem.W.mg_none_of X G z1, PySem.W.mg_none_of X G z2, PySem.W.mg_none_of X G z3, PySem.W.mg_none_of X G z4, PySem.W.mg_none_of X G z5, PySem.W.mg_none_of X G z6, PySem.W.mg_none_of X G z7, PySem.W.mg_none_of X G z8, PySem.W.mg_none_of X G z9, PySem.W.mg_none_of X G z10, PySem.W.mg_none_of X G z11, ⟨_, PySem.W.mg_of X G g1⟩, ⟨_, PySem.W.mg_of X G g2⟩, ⟨_, PySem.W.mg_of X G g3⟩, ⟨pgC, hdC, poC, saC⟩, n0C, n1C, n2C, PySem.W.mg_of X G aCC⟩
  have clC : Cls K C := ⟨pgC, hdC, poC, saC⟩
  have MC : Mk K C f2 := ⟨mkC, a2, i2, kcC⟩
  have XS : LX.Xc K mg "NoSpace" CS := ⟨PySem.W.mg_of X G gS, xS, kS, bS, tS, dS⟩
  have XCS : ExcC K CS := ⟨hgS, hkS, bS, dS, haS, hn, ht, hmS⟩
  have XN : LX.Xc K mg "NotValid" CN := ⟨PySem.W.mg_of X G gN, xN, kN, bN, tN, dN⟩
  have XCN : ExcC K CN := ⟨hgN, hkN, bN, dN, haN, hn, ht, hmN⟩
  have XL : LX.Xc K mg "LaminaError" CL := ⟨PySem.W.mg_of X G gL, xL, kL, bL, tL, dL⟩
  exact ⟨PySem.W.fnOf "law" "law" (defArgs sLaw) (defBody sLaw) (defScope sLaw) .none kV27 dc27 pm27 an27 cd27 ct27, fun s v => .of_eq rfl, fun base _ _ => (have GCe := ok_ce (P := l.prog) (w := w) (base := base) F17 F1 b1 m1 T XN; have GCk := ok_ck F18 GCe b17 m17 T XN; have GU := ok_uses F7 GCe b17 m17 T; have GHd := ok_isheld F8 GCe b17 m17 T; have GNw := ok_isnew F9 GU b7 m7 T; have GFe := ok_isfree F10 GU b7 m7 T; have GCu := ok_cu (P := l.prog) (w := w) (base := base) F16 T; have GFr := ok_free F11 GCu b16 m16 T; have GPe := ok_pend F12 GCu b16 m16 T; have GLe := ok_least F4 GFe b10 m10 T; have GTk := ok_take F3 GFr b11 m11 GLe b4 m4 T XS; have GSh := ok_share F5 GCk b18 m18 T; have GDr := ok_drop F6 GCk b18 m18 T; have GKi := ok_kind (P := l.prog) (w := w) (base := base) F21 T XS XN XCS XCN sSS sNS sNN; have GDo := ok_do F22 F21 GKi b21 m21 GTk b3 m3 GSh b5 m5 GDr b6 m6 GU b7 m7 GHd b8 m8 GNw b9 m9 GFe b10 m10 T XL sSL sNL; have GCo := ok_co F26 F23 b23 m23 F25 b25 m25 GFr b11 m11 GPe b12 m12 GLe b4 m4 T; ok_law F27 F19 F20 F23 F24 F25 F26 F22 b19 b20 b23 b24 b25 b26 b22 m19 m20 m23 m24 m25 m26 m22 GCo GDo MC (ok_init F2 T) b2 (ok_settle F13 T) b13 m13 (ok_saved F14 T) b14 m14 (ok_rest F15 T) b15 m15 T)⟩
end K21
open PySem PySem.W PyProof.Rows
set_option maxHeartbeats 0 in
theorem PySem.Challenge.cw_laminae_k21_space_holds : PySem.Challenge.rw_laminae_k21_space.Holds := by
  w_on; o_law; k_head; (case hw => w_witness2)
  k_fill
  refine L2.walk_of (l := PySem.Challenge.rw_laminae_k21_space) (n := 63) (k := 8) (x := "script") (CX := fun _ => L2.CX0) (sp := fun w => K21.spLaw _) rfl (by decide) rfl ⟨rfl, by decide, by decide⟩ (fun w h Y => PySem.W.kIn_of Y) ?F (fun _ _ a ns hl _ hS => ⟨a, ns, rfl, hS, hl, fun _ => rfl⟩) (fun _ _ _ _ _ h => h)
  case F =>
    intro w mg fa h KX G hmg
    refine' K21.all_mk KX G hmg ?a1 ?l1 ?c1 ?k1 ?a2 ?i2 ?l2 ?c2 ?k2 ?a3 ?i3 ?l3 ?c3 ?k3 ?a4 ?i4 ?l4 ?c4 ?k4 ?a5 ?i5 ?l5 ?c5 ?k5 ?a6 ?i6 ?l6 ?c6 ?k6 ?a7 ?i7 ?l7 ?c7 ?k7 ?a8 ?i8 ?l8 ?c8 ?k8 ?a9 ?i9 ?l9 ?c9 ?k9 ?a10 ?i10 ?l10 ?c10 ?k10 ?a11 ?i11 ?l11 ?c11 ?k11 ?a12 ?i12 ?l12 ?c12 ?k12 ?a13 ?i13 ?l13 ?c13 ?k13 ?a14 ?i14 ?l14 ?c14 ?k14 ?a15 ?i15 ?l15 ?c15 ?k15 ?a16 ?i16 ?l16 ?c16 ?k16 ?a17 ?i17 ?l17 ?c17 ?k17 ?a18 ?i18 ?l18 ?c18 ?k18 ?a19 ?l19 ?c19 ?k19 ?a20 ?l20 ?c20 ?k20 ?a21 ?l21 ?c21 ?k21 ?a22 ?l22 ?c22 ?k22 ?a23 ?l23 ?c23 ?k23 ?a24 ?l24 ?c24 ?k24 ?a25 ?l25 ?c25 ?k25 ?a26 ?l26 ?c26 ?k26 ?a27 ?l27 ?c27 ?k27 ?g1 ?g2 ?g3 ?z1 ?z2 ?z3 ?z4 ?z5 ?z6 ?z7 ?z8 ?z9 ?z10 ?z11 ?gS ?xS ?kS ?bS ?tS ?dS ?hgS ?hkS ?haS ?hmS ?gN ?xN ?kN ?bN ?tN ?dN ?hgN ?hkN ?haN ?hmN ?gL ?xL ?kL ?bL ?tL ?dL ?hn ?ht ?sSS ?sNS ?sNN ?sSL ?sNL ?aCC ?pgC ?hdC ?poC ?saC ?mkC ?kcC ?n0C ?n1C ?n2C
    (case aCC => k_is); (case a1 => k_is); (case l1 => k_is); (case c1 => k_is); (case k1 => k_is); (case a2 => k_is); (case i2 => k_is); (case l2 => k_is); (case c2 => k_is); (case k2 => k_is); (case a3 => k_is); (case i3 => k_is); (case l3 => k_is); (case c3 => k_is); (case k3 => k_is); (case a4 => k_is); (case i4 => k_is); (case l4 => k_is); (case c4 => k_is); (case k4 => k_is); (case a5 => k_is); (case i5 => k_is); (case l5 => k_is); (case c5 => k_is); (case k5 => k_is); (case a6 => k_is); (case i6 => k_is); (case l6 => k_is); (case c6 => k_is); (case k6 => k_is); (case a7 => k_is); (case i7 => k_is); (case l7 => k_is); (case c7 => k_is); (case k7 => k_is); (case a8 => k_is); (case i8 => k_is); (case l8 => k_is); (case c8 => k_is); (case k8 => k_is); (case a9 => k_is); (case i9 => k_is); (case l9 => k_is); (case c9 => k_is); (case k9 => k_is); (case a10 => k_is); (case i10 => k_is); (case l10 => k_is); (case c10 => k_is); (case k10 => k_is); (case a11 => k_is); (case i11 => k_is); (case l11 => k_is); (case c11 => k_is); (case k11 => k_is); (case a12 => k_is); (case i12 => k_is); (case l12 => k_is); (case c12 => k_is); (case k12 => k_is); (case a13 => k_is); (case i13 => k_is); (case l13 => k_is); (case c13 => k_is); (case k13 => k_is); (case a14 => k_is); (case i14 => k_is); (case l14 => k_is); (case c14 => k_is); (case k14 => k_is); (case a15 => k_is); (case i15 => k_is); (case l15 => k_is); (case c15 => k_is); (case k15 => k_is); (case a16 => k_is); (case i16 => k_is); (case l16 => k_is); (case c16 => k_is); (case k16 => k_is); (case a17 => k_is); (case i17 => k_is); (case l17 => k_is); (case c17 => k_is); (case k17 => k_is); (case a18 => k_is); (case i18 => k_is); (case l18 => k_is); (case c18 => k_is); (case k18 => k_is); (case a19 => k_is); (case l19 => k_is); (case c19 => k_is); (case k19 => k_is); (case a20 => k_is); (case l20 => k_is); (case c20 => k_is); (case k20 => k_is); (case a21 => k_is); (case l21 => k_is); (case c21 => k_is); (case k21 => k_is); (case a22 => k_is); (case l22 => k_is); (case c22 => k_is); (case k22 => k_is); (case a23 => k_is); (case l23 => k_is); (case c23 => k_is); (case k23 => k_is); (case a24 => k_is); (case l24 => k_is); (case c24 => k_is); (case k24 => k_is); (case a25 => k_is); (case l25 => k_is); (case c25 => k_is); (case k25 => k_is); (case a26 => k_is); (case l26 => k_is); (case c26 => k_is); (case k26 => k_is); (case a27 => k_is); (case l27 => k_is); (case c27 => k_is); (case k27 => k_is); (case g1 => k_is); (case g2 => k_is); (case g3 => k_is); (case z1 => k_is); (case z2 => k_is); (case z3 => k_is); (case z4 => k_is); (case z5 => k_is); (case z6 => k_is); (case z7 => k_is); (case z8 => k_is); (case z9 => k_is); (case z10 => k_is); (case z11 => k_is); (case gS => k_is); (case xS => k_exc); (case kS => k_is); (case bS => k_is); (case tS => k_is); (case dS => k_is); (case hgS => k_is); (case hkS => k_is); (case haS => k_is); (case hmS => k_is); (case gN => k_is); (case xN => k_exc); (case kN => k_is); (case bN => k_is); (case tN => k_is); (case dN => k_is); (case hgN => k_is); (case hkN => k_is); (case haN => k_is); (case hmN => k_is); (case gL => k_is); (case xL => k_exc); (case kL => k_is); (case bL => k_is); (case tL => k_is); (case dL => k_is); (case hn => k_is); (case ht => k_is); (case sSS => k_is); (case sNS => k_is); (case sNN => k_is); (case sSL => k_is); (case sNL => k_is); (case pgC => k_is); (case hdC => k_is); (case poC => k_is); (case saC => k_is); (case mkC => k_is); (case kcC => k_is); (case n0C => k_is); (case n1C => k_is); (case n2C => k_is)

