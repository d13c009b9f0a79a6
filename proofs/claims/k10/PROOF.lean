import PyProof.Rows.All
import Wide.All
import OpenK.AllK
import Wide.FinOn
import HandS.ForMost
import HandS.Evl
import HandS.TupLe
import HandS.IsInst
import HandS.AnyAll
import HandS.EndOwn
import HandS.StrMore
import HandS.Conv
import HandS.Sort
import HandS.Star
import HandS.WordsExc
import HandS.ExcIs
import HandS.Wide
import HandS.ExcOwn
import HandS.TryOnly
import PyProof.WalksPairs
import PySem.Challenge.RW_laminae_k10_blocks_that_are_no_nodes
import HandS.Walk
set_option Elab.async false
set_option linter.all false
set_option maxRecDepth 100000
set_option maxHeartbeats 4000000
namespace LT
open PySem PySem.Spec PyProof.Rows L2 Evl
/-! ### the table of a code object: whatever it holds -/
def TabPhi (P : Addr) (h : Heap) : Prop := ∃ ps : Array Value, h.get? P = some { cls := .none, data := .fields ps } ∧ TriplesOk ps.toList
def Tab (H : Hp) (P : Addr) : Prop := H P = some (.ext (TabPhi P))
theorem tab_stab (P : Addr) : ∀ h1 h2 : Heap, TabPhi P h1 → (∀ o, h1.get? P = some o → h2.get? P = some o) → TabPhi P h2 := fun _ _ ⟨ps, e, t⟩ k => ⟨ps, k _ e, t⟩
theorem tab_ok {p : Program} {w : World} {H : Hp} {h : Heap} {P : Addr} (t : TabPhi P h) : ObjOk p w H h P (.ext (TabPhi P)) := ⟨t, ⟨_, t.choose_spec.1⟩, tab_stab P⟩
theorem Tab.of_ok {p : Program} {w : World} {H : Hp} {h : Heap} {P : Addr} (t : Tab H P) (ok : HOk p w H h) : TabPhi P h := (ok P _ t).1
theorem Tab.mono {H H' : Hp} {P : Addr} (e : Ex H H') (t : Tab H P) : Tab H' P := e _ _ t
open Classical in
def extH (Ps : List Addr) (H : Hp) : Hp := fun b => if b ∈ Ps then some (.ext (TabPhi b)) else H b
theorem extH_in {Ps : List Addr} {H : Hp} {b : Addr} (h : b ∈ Ps) : extH Ps H b = some (.ext (TabPhi b)) := if_pos h
theorem extH_out {Ps : List Addr} {H : Hp} {b : Addr} (h : b ∉ Ps) : extH Ps H b = H b := if_neg h
/-- a promise over heaps whose tables are opaque, for a caller whose tables are all empty -/
def spExt (Ps : List Addr) (sp : Sp) : Sp := fun vs H Q E => (∀ p ∈ Ps, H p = some (.tbl #[])) ∧ sp vs (extH Ps H) (fun v H' => (∀ p ∈ Ps, Tab H' p) ∧ ∀ H2, Q v H2) E
section
variable {P : Program} {w : World} {K : PySem.W.Frag} {mg : Str → Option Value} {base : Heap}
theorem ok_ext {Ps : List Addr} {k : Nat} {f : Addr} {fd : FuncData} {ps : List Str} {sp : Sp} (F : FnOk P w K mg base CX0 k f fd ps sp) : FnOk P w K mg base CX0 k f fd ps (spExt Ps sp) := by
  refine ⟨fun vs H Q E h => F.len _ _ _ _ h.2, fun A outer s H args us vs Q E hr e0 hb hv ⟨hT, hs⟩ => ?_⟩
  have none_ : ∀ {b : Addr}, H b = none → extH Ps H b = none := fun {b} n => by
    rw [extH_out fun hb => by rw [hT b hb] at n; cases n]
    exact n
  have same : ∀ {b : Addr} {u : HO}, H b = some u → (∀ q, u ≠ .tbl q) → extH Ps H b = some u := fun {b u} e n => by
    rw [extH_out fun hb => by rw [hT b hb] at e; exact n _ (Option.some.inj e).symm]
    exact e
  have ok1 : HOk P w (extH Ps H) s.heap := fun b u e => by
    by_cases hb : b ∈ Ps
    · rw [extH_in hb] at e
      cases e
      exact tab_ok ⟨#[], e0.hok b _ (hT b hb), by simp [TriplesOk]⟩
    · rw [extH_out hb] at e
      exact (e0.hok b u e).stay (fun _ _ _ q => q) (fun c q => same q (fun z y => by cases y)) fun c xs q => same q (fun z y => by cases y)
  have e1 : Env0 P w K mg base A outer s (extH Ps H) := ⟨e0.frames, e0.mod, fun b o e => ⟨(e0.bs b o e).1, none_ (e0.bs b o e).2⟩, e0.bsz, e0.funs, fun b hb => none_ (e0.frf b hb), ok1, e0.bare⟩
  refine codeAny_mono (F.run A outer s (extH Ps H) args us vs _ E hr e1 hb hv hs) fun r s' h => ?_
  cases r with
  | error e => exact h.elim
  | ok fl =>
    cases fl with
    | next => exact h
    | brk => exact h
    | cont => exact h
    | ret u =>
      obtain ⟨v, H', os, bare, un, ok', rv, hTab, q⟩ := h
      have more : ∀ p ∈ Ps, TabPhi p s'.heap := fun p hp => (hTab p hp).of_ok ok'
      let H2 : Hp := fun b => if hb : b ∈ Ps then some (.tbl (more b hb).choose) else H' b
      have hin : ∀ {b : Addr} (hb : b ∈ Ps), H2 b = some (.tbl (more b hb).choose) := fun {b} hb => dif_pos hb
      have hout : ∀ {b : Addr}, b ∉ Ps → H2 b = H' b := fun {b} hb => dif_neg hb
      have keepH : ∀ {b : Addr} {u : HO}, H' b = some u → (∀ φ, u ≠ .ext φ) → H2 b = some u := fun {b u} e n => by
        rw [hout fun hb => by rw [hTab b hb] at e; exact n _ (Option.some.inj e).symm]
        exact e
      refine ⟨v, H2, os, bare, ⟨fun b o e n => un.keep b o e (none_ n), fun b o e n => un.slot b o e (none_ n), fun b o e n hx => ?_, un.there, fun b xs e => ?_, fun b o x e => ?_, fun b q e => ?_⟩, fun b y e => ?_, rv, q H2⟩
      · have n' := none_ n
        rw [hout fun hb => by rw [hT b hb] at n; cases n]
        exact un.free b o e n' hx
      · exact keepH (un.tups b xs (same e (fun z y => by cases y))) (fun z y => by cases y)
      · exact keepH (un.frzs b o x (same e (fun z y => by cases y))) (fun z y => by cases y)
      · by_cases hb : b ∈ Ps
        · rw [hT b hb] at e
          cases e
          exact ⟨(more b hb).choose, by rw [hin hb, Array.empty_append]⟩
        · obtain ⟨m, z⟩ := un.tbls b q (by rw [extH_out hb]; exact e)
          exact ⟨m, by rw [hout hb]; exact z⟩
      · by_cases hb : b ∈ Ps
        · rw [hin hb] at e
          cases e
          exact (more b hb).choose_spec.1
        · rw [hout hb] at e
          exact (ok' b y e).stay (fun _ _ _ q => q) (fun c q => keepH q (fun z y => by cases y)) fun c xs q => keepH q (fun z y => by cases y)
end
/-- the law's walk where top-level defs (names) hold generator expressions: their tables are empty at the start -/
theorem walk_tabs {l : PySem.W.OpenLaw} {n k : Nat} {q : Program} {loose : List Str} {XP : (Str → Option Value) → Heap → Prop} {YP : World → Heap → Prop} {d : DefRec} {K : Params → PySem.W.Frag} {x : Str} (names : List Str)
    (hn : l.most = some n) (hn2 : n ≤ sizeLine) (hdf : d.params.defaults = []) (hr : Room k callerA) (hrec : ∀ y ∈ names, ((recsOf q).find? fun e => e.name == y).isSome = true) (hY : ∀ (w : World) (h : Heap), YP w h → (K w.params).In h)
    (F : ∀ (w : World) (mg : Str → Option Value) (fa : Addr) (h : Heap), (K w.params).In h → h.Ns mainGlobals mg → mg d.name = some (.ref fa) →
      ∃ (fd : FuncData) (cs : List (Str × Addr × Addr)) (sp : Sp), (∀ p ∈ cs, p.1 ∈ names ∧ PySem.W.tabIn (K w.params) p.1 = some p.2 ∧ (K w.params).lookup p.2.2 = none) ∧ (∀ (s : Shared) (u : Value), BindsTo s fd ⟨[u], []⟩ [(x, u)]) ∧
        (∀ (H : Hp) (a : Addr) (ns : List Int), ns.length ≤ n → (∀ p ∈ cs, Tab H p.2.2) → SqL (K w.params) H a (ns.map V.int) → ∀ Q : VK, (∀ H', Ex H H' → Q (.bl true) H') → sp [.ref a] H Q fun _ _ _ => False) ∧
        ∀ base : Heap, (K w.params).In base → base.Ns mainGlobals mg → (∀ p ∈ cs, LamX.TabB base mg p.2.1 p.2.2) → FnOk l.prog w (K w.params) mg base CX0 k fa fd [x] sp) :
    PySem.W.WalkO q loose XP YP l.row.toRowW d [] (fun f vs => PySem.call f vs) := by
  refine Att.attach_callB hn hdf fun w s₀ s₁ mg mb fa o pm cd doc a vs ns G Y ho hd hcd hmg hobj hints hlen hbits hg => ?_
  have KX := hY w _ Y
  obtain ⟨fd, cs, sp, hcs, hb, hsp, hF⟩ := F w mg fa _ KX G.T.g hmg
  have two : ∀ p ∈ cs, PySem.W.CodeHd s₁.heap p.2.1 p.2.2 ∧ s₁.heap.get? p.2.2 = some { cls := .none, data := .fields #[] } := fun p hp => by
    obtain ⟨h1, h2, _⟩ := hcs p hp
    obtain ⟨e, he⟩ := Option.isSome_iff_exists.mp (hrec _ h1)
    exact PySem.W.tab_of G.T KX he h2
  have mem : ∀ y ∈ cs.map (fun p => (p.2.1, p.2.2)), ∃ p ∈ cs, p.2 = y := fun y hy => by
    obtain ⟨p, hp, e⟩ := List.mem_map.mp hy
    exact ⟨p, hp, by rw [← e]⟩
  have lim : ∀ b ∈ cs.map (fun p => p.2.2), ∃ p ∈ cs, p.2.2 = b := fun b hb => by
    obtain ⟨p, hp, e⟩ := List.mem_map.mp hb
    exact ⟨p, hp, e⟩
  refine LamX.law_callTs (cs := cs.map fun p => (p.2.1, p.2.2)) (CX := CX0) (sp := spExt (cs.map fun p => p.2.2) sp) KX G.T.g G.T.b G.T.builtins G.T.nolimit hg (fun y hy => ?_) (fun y hy => ?_) (fun y hy => ?_) G.T.bmain hobj hints (Nat.le_trans hlen hn2) hr
    (fun base h1 h2 h3 => ok_ext (hF base h1 h2 fun p hp => h3 (p.2.1, p.2.2) (List.mem_map.mpr ⟨p, hp, rfl⟩))) hb (fun H hH hS => ?_) fun H e s' z => z
  · obtain ⟨p, hp, rfl⟩ := mem y hy
    exact (two p hp).2
  · obtain ⟨p, hp, rfl⟩ := mem y hy
    exact (hcs p hp).2.2
  · obtain ⟨p, hp, rfl⟩ := mem y hy
    exact (two p hp).1
  · refine ⟨fun b hb => ?_, ?_⟩
    · obtain ⟨p, hp, rfl⟩ := lim b hb
      exact hH (p.2.1, p.2.2) (List.mem_map.mpr ⟨p, hp, rfl⟩)
    · have hnt : ∀ p ∈ cs, extH (cs.map fun p => p.2.2) H p.2.2 = some (.ext (TabPhi p.2.2)) := fun p hp => extH_in (List.mem_map.mpr ⟨p, hp, rfl⟩)
      refine hsp _ a ns hlen hnt ?_ _ fun H' e => ⟨fun b hb => ?_, fun _ => rfl⟩
      · rcases hS with (h | ⟨o, h⟩) | h
        · refine .inl (.inl ?_)
          rw [extH_out fun hb => ?_]
          · exact h
          · obtain ⟨p, hp, rfl⟩ := lim a hb
            rw [hH (p.2.1, p.2.2) (List.mem_map.mpr ⟨p, hp, rfl⟩)] at h
            cases h
        · refine .inl (.inr ⟨o, ?_⟩)
          rw [extH_out fun hb => ?_]
          · exact h
          · obtain ⟨p, hp, rfl⟩ := lim a hb
            rw [hH (p.2.1, p.2.2) (List.mem_map.mpr ⟨p, hp, rfl⟩)] at h
            cases h
        · exact .inr h
      · obtain ⟨p, hp, rfl⟩ := lim b hb
        exact e _ _ (hnt p hp)
end LT

set_option Elab.async false
set_option linter.all false
set_option maxRecDepth 100000
set_option maxHeartbeats 4000000
namespace LG
open PySem PySem.Spec PyProof.Rows L2 Evl LT
/-! ### generator expressions whose elements leave everything as it stands -/
theorem kp_tok (s : Shared) (k : Nat) : Keeps s { s with toks := k } := ⟨s.heap, k, rfl, fun _ _ e => e⟩
theorem kp_refl (s : Shared) : Keeps s s := kp_tok s s.toks
theorem kp_trans {s s1 s2 : Shared} (a : Keeps s s1) (b : Keeps s1 s2) : Keeps s s2 := by
  obtain ⟨h1, t1, rfl, k1⟩ := a
  obtain ⟨h2, t2, rfl, k2⟩ := b
  exact ⟨h2, t2, rfl, fun c o e => k2 c o (k1 c o e)⟩
theorem kp_at {s s1 : Shared} (a : Keeps s s1) : ∀ b o, s.heap.get? b = some o → s1.heap.get? b = some o := by
  obtain ⟨h1, t1, rfl, k1⟩ := a
  exact k1
def but (P : Addr) (H : Hp) : Hp := fun b => if b = P then none else H b
theorem but_ne {P b : Addr} {H : Hp} (h : b ≠ P) : but P H b = H b := if_neg h
/-- in the frame of a generator expression, at one turn: its name x holds u -/
structure Fc (X : Cx) (σ : L2.St) (H : Hp) (P : Addr) (scope : Scope) (x : Str) (u : Value) (cenv : Env) (A' : Around) (s₂ : Shared) (m₂ : Str → Option Value) : Prop where
  hd : A'.handled = none
  dp : A'.depth ≤ X.A.depth + 1
  un : A'.units ≤ X.A.units + 8
  sc : cenv.scope = scope
  gl : cenv.globals = mainGlobals
  bi : cenv.builtins = builtinsNs
  ns : s₂.heap.Ns cenv.locals m₂
  mx : m₂ x = some u
  base : ∀ b o, X.base.get? b = some o → s₂.heap.get? b = some o
  md : L2.Mod X.K X.mg X.base
  hok : HOk X.prog X.w (but P H) s₂.heap
  cap : ∀ (i : Nat) (y : Str) (v : V), X.N[i]? = some y → σ[i]? = some (some v) → (X.env.kindOf y = some .cell ∨ X.env.kindOf y = some .free) → scope.names.lookup y = some .free → ∃ r c, RelV v r ∧ cenv.cells.lookup y = some c ∧ s₂.heap.IsCell c (some r)
section
variable {X : Cx} {σ : L2.St} {H : Hp} {P : Addr} {scope : Scope} {x : Str} {u : Value} {cenv : Env} {A' : Around} {s₂ s₃ : Shared} {m₂ : Str → Option Value}
theorem Fc.keeps (F : Fc X σ H P scope x u cenv A' s₂ m₂) (k : Keeps s₂ s₃) : Fc X σ H P scope x u cenv A' s₃ m₂ :=
  have k' := kp_at k
  ⟨F.hd, F.dp, F.un, F.sc, F.gl, F.bi, (let ⟨o, es, ep, e, r⟩ := F.ns; ⟨o, es, ep, k' _ _ e, r⟩), F.mx, fun b o e => k' b o (F.base b o e), F.md, F.hok.kept k', fun i y v h1 h2 h3 h4 => by
    obtain ⟨r, c, a1, a2, o, a3, a4⟩ := F.cap i y v h1 h2 h3 h4
    exact ⟨r, c, a1, a2, o, k' _ _ a3, a4⟩⟩
theorem Fc.kin (F : Fc X σ H P scope x u cenv A' s₂ m₂) : X.K.In s₂.heap := F.md.kin.keeps F.base
theorem Fc.list (F : Fc X σ H P scope x u cenv A' s₂ m₂) (hT : Tab H P) {a : Addr} {xs : List V} (h : SqL X.K H a xs) : ∃ its : List Value, Vals xs its ∧ PlainL s₂.heap a its.toArray ∧ xs.length ≤ sizeLine := by
  have rd : ∀ {o : HO}, H a = some o → (∀ φ, o ≠ .ext φ) → but P H a = some o := fun {o} e n => by
    rw [but_ne fun z => by rw [z, hT] at e; exact n _ (Option.some.inj e).symm]
    exact e
  rcases h with (h | ⟨o, h⟩) | ⟨o, its, n, hk, hc, hd, hs, hz, r⟩
  · obtain ⟨z, its, n, r, e⟩ := F.hok a _ (rd h (fun φ z => by cases z))
    exact ⟨its, r, ⟨_, n, e, rfl, rfl, rfl⟩, z⟩
  · obtain ⟨_, z, its, n, r, e⟩ := F.hok a _ (rd h (fun φ z => by cases z))
    exact ⟨its, r, ⟨_, n, e, rfl, rfl, rfl⟩, z⟩
  · refine ⟨its.toList, r, ⟨o, n, F.kin a o hk, hc, hd, by simpa using hs⟩, ?_⟩
    have e := r.length
    simp only [Array.length_toList] at e
    omega
theorem Fc.tuple (F : Fc X σ H P scope x u cenv A' s₂ m₂) (hT : Tab H P) {a : Addr} {xs : List V} (h : SqT X.K H a xs) : ∃ its : List Value, Vals xs its ∧ IsTup s₂.heap a its.toArray ∧ xs.length ≤ sizeLine := by
  have rd : ∀ {o : HO}, H a = some o → (∀ φ, o ≠ .ext φ) → but P H a = some o := fun {o} e n => by
    rw [but_ne fun z => by rw [z, hT] at e; exact n _ (Option.some.inj e).symm]
    exact e
  rcases h with (h | ⟨o, h⟩) | ⟨o, its, n, hk, hc, hs, hz, r⟩
  · obtain ⟨z, its, r, p⟩ := F.hok a _ (rd h (fun φ z => by cases z))
    exact ⟨its, r, p, z⟩
  · obtain ⟨_, z, its, r, p⟩ := F.hok a _ (rd h (fun φ z => by cases z))
    exact ⟨its, r, p, z⟩
  · refine ⟨its.toList, r, ⟨o, F.kin a o hk, hc, n, by simpa using hs⟩, ?_⟩
    have e := r.length
    simp only [Array.length_toList] at e
    omega
end
/-- the expression has the value z there -/
def QV (X : Cx) (σ : L2.St) (H : Hp) (P : Addr) (scope : Scope) (x : Str) (u : Value) (e : Expr) (z : V) : Prop :=
  ∀ (cenv : Env) (A' : Around) (E' : Value → Shared → Prop) (s₂ : Shared) (m₂ : Str → Option Value), Fc X σ H P scope x u cenv A' s₂ m₂ → wpAny (model X.prog X.w) A' (eval e cenv) (fun y s₃ => RelV z y ∧ Keeps s₂ s₃) E' s₂
section
variable {X : Cx} {σ : L2.St} {H : Hp} {P : Addr} {scope : Scope} {x : Str} {u : Value} {a b : Expr} {za zb z : V} {pos : Pos}
theorem qv_x (hk : scope.kind = .function) (hl : scope.names.lookup x = some .local) (r : RelV z u) (hd : (x == ("__debug__" : Str)) = false := by decide) : QV X σ H P scope x u (.Name x pos) z := fun cenv A' E' s m F =>
  wpAny_Name (wpAny_loadName_local (by rw [F.sc]; exact hk) (show cenv.scope.names.lookup x = some .local by rw [F.sc]; exact hl) F.ns F.mx ⟨r, kp_refl _⟩) hd
theorem qv_cap {i : Nat} {y : Str} (hk : scope.kind = .function) (hl : scope.names.lookup y = some .free) (hN : X.N[i]? = some y) (hs : σ[i]? = some (some z)) (hv : X.env.kindOf y = some .cell ∨ X.env.kindOf y = some .free := by first | exact Or.inl rfl | exact Or.inr rfl) (hd : (y == ("__debug__" : Str)) = false := by decide) (hcd : (y == ("__classdict__" : Str)) = false := by decide) :
    QV X σ H P scope x u (.Name y pos) z := fun cenv A' E' s m F => by
  obtain ⟨r, c, h1, h2, h3⟩ := F.cap i y z hN hs hv hl
  exact wpAny_Name (wpAny_loadName_free (by rw [F.sc]; exact hk) (show cenv.scope.names.lookup y = some .free by rw [F.sc]; exact hl) h2 h3 ⟨h1, kp_refl _⟩ hcd) hd
theorem qv_glob {y : Str} {r : Value} (hk : scope.kind = .function) (hl : scope.names.lookup y = some .globalImplicit) (hm : X.mg y = some r) (h : RelV z r) (hd : (y == ("__debug__" : Str)) = false := by decide) :
    QV X σ H P scope x u (.Name y pos) z := fun cenv A' E' s m F =>
  Calls.Name_function_global (by rw [F.sc]; exact hk) (show cenv.scope.names.lookup y = some .globalImplicit by rw [F.sc]; exact hl) (Calls.loadGlobal_global (by rw [F.gl]; exact F.md.glob.keeps F.base) hm ⟨h, kp_refl _⟩) hd
theorem qv_int {i : Int} {j : Nat} : QV X σ H P scope x u (.Constant (.int i) j pos) (.int i) := fun cenv A' E' s m F => wpAny_Constant_int ⟨⟨_, rfl⟩, kp_tok _ _⟩
theorem qv_str {i : Str} {j : Nat} : QV X σ H P scope x u (.Constant (.str i) j pos) (.str i) := fun cenv A' E' s m F => Calls.Constant_str ⟨⟨_, rfl⟩, kp_tok _ _⟩
/-- an operation on two values -/
def QR (X : Cx) (σ : L2.St) (H : Hp) (P : Addr) (scope : Scope) (x : Str) (u : Value) (f : Value → Value → Sem Value) (za zb z : V) : Prop :=
  ∀ (cenv : Env) (A' : Around) (E' : Value → Shared → Prop) (s₂ : Shared) (m₂ : Str → Option Value) (v w : Value), Fc X σ H P scope x u cenv A' s₂ m₂ → RelV za v → RelV zb w → wpAny (model X.prog X.w) A' (f v w) (fun y s₃ => RelV z y ∧ Keeps s₂ s₃) E' s₂
theorem qv_two {f : Value → Value → Sem Value} (ha : QV X σ H P scope x u a za) (hb : QV X σ H P scope x u b zb) (hr : QR X σ H P scope x u f za zb z) (cenv : Env) (A' : Around) (E' : Value → Shared → Prop) (s : Shared) (m : Str → Option Value) (F : Fc X σ H P scope x u cenv A' s m) :
    wpAny (model X.prog X.w) A' (eval a cenv) (fun v s₁ => wpAny (model X.prog X.w) A' (eval b cenv) (fun w s₂ => wpAny (model X.prog X.w) A' (f v w) (fun y s₃ => RelV z y ∧ Keeps s s₃) E' s₂) E' s₁) E' s :=
  wpAny_mono (ha cenv A' E' s m F) (fun v s1 r1 => wpAny_mono (hb cenv A' E' s1 m (F.keeps r1.2)) (fun w s2 r2 => wpAny_mono (hr cenv A' E' s2 m v w ((F.keeps r1.2).keeps r2.2) r1.1 r2.1)
    (fun y s3 r3 => ⟨r3.1, kp_trans (kp_trans r1.2 r2.2) r3.2⟩) fun _ _ e => e) fun _ _ e => e) fun _ _ e => e
theorem qv_cmp {op : CmpOp} (hr : QR X σ H P scope x u (compareOp op) za zb z) (ha : QV X σ H P scope x u a za) (hb : QV X σ H P scope x u b zb) (hm : behindInMarks op b = false) : QV X σ H P scope x u (.Compare a [op] [b] pos) z := fun cenv A' E' s m F =>
  wpAny_Compare1 (qv_two ha hb hr cenv A' E' s m F) hm
theorem qv_op {op : Operator} (hr : QR X σ H P scope x u (binaryOp op) za zb z) (ha : QV X σ H P scope x u a za) (hb : QV X σ H P scope x u b zb) : QV X σ H P scope x u (.BinOp a op b pos) z := fun cenv A' E' s m F =>
  wpAny_BinOp (qv_two ha hb hr cenv A' E' s m F)
theorem qv_ix (hr : ∀ value slice, subscripted slice false = subscripted slice false → QR X σ H P scope x u (fun v w => subscriptTail value slice v w) za zb z) (ha : QV X σ H P scope x u a za) (hb : QV X σ H P scope x u b zb) : QV X σ H P scope x u (.Subscript a b pos) z := fun cenv A' E' s m F =>
  Subscript_ (qv_two ha hb (hr a b rfl) cenv A' E' s m F)
theorem qr_add {i j : Int} : QR X σ H P scope x u (binaryOp .Add) (.int i) (.int j) (.int (i + j)) := fun cenv A' E' s m v w F r1 r2 => by
  obtain ⟨t, rfl⟩ := r1
  obtain ⟨t', rfl⟩ := r2
  exact add_int ⟨⟨_, rfl⟩, kp_tok _ _⟩
theorem qr_ne_int {i j : Int} : QR X σ H P scope x u (compareOp .NotEq) (.int i) (.int j) (.bl (i != j)) := fun cenv A' E' s m v w F r1 r2 => by
  obtain ⟨t, rfl⟩ := r1
  obtain ⟨t', rfl⟩ := r2
  exact ne_int ⟨rfl, kp_refl _⟩
theorem qr_le_int {i j : Int} : QR X σ H P scope x u (compareOp .LtE) (.int i) (.int j) (.bl (decide (i ≤ j))) := fun cenv A' E' s m v w F r1 r2 => by
  obtain ⟨t, rfl⟩ := r1
  obtain ⟨t', rfl⟩ := r2
  exact le_int ⟨rfl, kp_refl _⟩
theorem qr_ne_str {i j : Str} : QR X σ H P scope x u (compareOp .NotEq) (.str i) (.str j) (.bl (i.cps.toList != j.cps.toList)) := fun cenv A' E' s m v w F r1 r2 => by
  obtain ⟨t, rfl⟩ := r1
  obtain ⟨t', rfl⟩ := r2
  exact PySem.P.ne_str ⟨rfl, kp_refl _⟩
theorem qr_in_sign {c : Nat} {j : Str} : QR X σ H P scope x u (compareOp .In) (.str ⟨#[c]⟩) (.str j) (.bl (decide (c ∈ j.cps.toList))) := fun cenv A' E' s m v w F r1 r2 => by
  obtain ⟨t, rfl⟩ := r1
  obtain ⟨t', rfl⟩ := r2
  exact PyProof.Rows.in_str ⟨(PySem.StrLaws.found_one j c).symm ▸ rfl, kp_refl _⟩
end

/-! ### what is walked -/
def SrcV (K : PySem.W.Frag) (H : Hp) (v : V) (n : Nat) (xs : Nat → V) : Prop :=
  (∃ (a : Addr) (l : List V), v = .ref a ∧ SqL K H a l ∧ n = l.length ∧ ∀ i, xs i = l.getD i .non) ∨
  (∃ z : Str, v = .str z ∧ n = z.cps.size ∧ ∀ i c, z.cps[i]? = some c → xs i = .str ⟨#[c]⟩) ∨
  (∃ (a : Addr) (lo hi : Int), v = .ref a ∧ H a = some (.rng lo hi) ∧ n = (hi - lo).toNat ∧ -(2 ^ 62) ≤ lo ∧ lo < 2 ^ 62 ∧ -(2 ^ 62) ≤ hi ∧ hi < 2 ^ 62 ∧ ∀ i : Nat, xs i = .int (lo + i))
section
variable {X : Cx} {pins : List (Addr × Obj)} {σ : L2.St} {H : Hp} {s : Shared}
theorem src_iter {v : V} {xv : Value} {n : Nat} {xs : Nat → V} {P : Addr} {Q : Value → Shared → Prop} {E : Value → Shared → Prop} (S : SrcV X.K H v n xs) (I : Inv X pins σ H s) (r : RelV v xv) (hT : Tab H P)
    (h : ∀ (o : Obj) (fp : List Addr) (Pf : Nat → Value → Prop) (St : Nat → Heap → Prop), (∀ i u, Pf i u → i < n → RelV (xs i) u) → (∀ A' : Around, A'.handled = none → Walks X.prog X.w A' s.heap.objs.size fp [s.heap.objs.size] n Pf St) →
      St 0 (s.heap.push o) → (∀ b ∈ fp, b ≤ s.heap.objs.size ∧ b ≠ P) → Q (.ref s.heap.objs.size) { s with heap := s.heap.push o }) : wpAny (model X.prog X.w) X.A (pyIter xv) Q E s := by
  have Plt : P < s.heap.objs.size := Heap.lt_size (hT.of_ok I.hok).choose_spec.1
  have szP : s.heap.objs.size ≠ P := fun z => Nat.lt_irrefl _ (z ▸ Plt : s.heap.objs.size < s.heap.objs.size)
  rcases S with ⟨a, l, rfl, hl, rfl, hx⟩ | ⟨z, rfl, rfl, hx⟩ | ⟨a, lo, hi, rfl, ha, rfl, b1, b2, b3, b4, hx⟩
  · cases r
    obtain ⟨its, rv, pl, _⟩ := I.list hl
    have hal : a < s.heap.objs.size := let ⟨_, e, _⟩ := pl.isList; Heap.lt_size e
    have naP : a ≠ P := fun e => by
      obtain ⟨ps, e1, _⟩ := hT.of_ok I.hok
      obtain ⟨o, n, e2, e3, _, e4⟩ := pl
      rw [e, e1] at e2
      cases e2
      cases e3
    refine wpAny_pyIter_list pl.isList ?_
    have hne : a ≠ s.heap.objs.size := Nat.ne_of_lt hal
    have en : its.toArray.size = l.length := by rw [List.size_toArray]; exact rv.length.symm
    refine h _ [s.heap.objs.size, a] (fun i v => its.toArray[i]? = some v) (fun i h => h.IsListIter s.heap.objs.size a i ∧ h.IsList a its.toArray) (fun i u hu hi => ?_) (fun A' hA => by rw [← en]; exact Walks.list hA _ a hne its.toArray) ⟨⟨_, Heap.get?_push_size _ rfl, rfl, rfl⟩, pl.isList.at fun o e => Heap.get?_push_of_some _ e⟩ fun b hb => ?_
    · obtain ⟨w, ew, rw'⟩ := rv.get (List.getElem?_eq_getElem hi)
      have e2 : its.toArray[i]? = some w := by simpa using ew
      rw [e2] at hu
      cases hu
      rw [hx, List.getD_eq_getElem?_getD, List.getElem?_eq_getElem hi]
      exact rw'
    · rcases List.mem_cons.mp hb with e | hb
      · rw [e]
        exact ⟨Nat.le_refl _, szP⟩
      · rw [List.mem_singleton.mp hb]
        exact ⟨Nat.le_of_lt hal, naP⟩
  · obtain ⟨t, rfl⟩ := r
    refine wpAny_pyIter_str fun o St W hst => ?_
    refine h o [s.heap.objs.size] (SignAt z) St (fun i u hu hi => ?_) W hst fun b hb => ?_
    · obtain ⟨c, t', hc, rfl⟩ := hu
      rw [hx i c hc]
      exact ⟨_, rfl⟩
    · rw [List.mem_singleton.mp hb]
      exact ⟨Nat.le_refl _, szP⟩
  · cases r
    obtain ⟨t, t1, t2, e⟩ := I.hok a _ ha
    refine wpAny_pyIter_range (a := lo) (b := hi) (c := 1) e (small_one b1 b2 b3 b4) ?_
    have en : ((Builtin.Range.rangeSize lo hi 1 : Int)) = (((hi - lo).toNat : Nat) : Int) := by
      unfold Builtin.Range.rangeSize
      simp
      omega
    refine h _ [s.heap.objs.size] (fun i v => ∃ t, v = .int (lo + i * 1) t) _ (fun i u hu hi => ?_) (fun A' hA => Walks.range hA _ lo 1 _) ?_ fun b hb => ?_
    · obtain ⟨t, rfl⟩ := hu
      rw [hx]
      exact ⟨t, by rw [Int.mul_one]⟩
    · rw [en]
      show IsRangeIter _ _ (lo + ((0 : Nat) : Int) * 1) ((((hi - lo).toNat : Nat) : Int) - ((0 : Nat) : Int)) 1
      rw [show lo + ((0 : Nat) : Int) * 1 = lo by simp, show (((hi - lo).toNat : Nat) : Int) - ((0 : Nat) : Int) = (((hi - lo).toNat : Nat) : Int) by simp]
      exact Heap.get?_push_size _ rfl
    · rw [List.mem_singleton.mp hb]
      exact ⟨Nat.le_refl _, szP⟩
end
theorem lookup_mem' {α : Type} : ∀ {l : List (Str × α)} {n : Str} {c : α}, l.lookup n = some c → (n, c) ∈ l
  | [], _, _, h => by cases h
  | (k, v) :: r, n, c, h => by
    rw [List.lookup_cons] at h
    cases hb : n == k with
    | true =>
      rw [hb] at h
      cases h
      rw [beq_iff_eq.mp hb]
      exact List.mem_cons_self
    | false =>
      rw [hb] at h
      exact List.mem_cons_of_mem _ (lookup_mem' h)
theorem walks_lt {prog : Program} {w : World} {A : Around} {I : Addr} {fp wr : List Addr} {n : Nat} {Pf : Nat → Value → Prop} {St : Nat → Heap → Prop} (W : Walks prog w A I fp wr n Pf St) : Walks prog w A I fp wr n (fun i u => i < n ∧ Pf i u) St where
  sub := W.sub
  frame := W.frame
  item := fun i s Q E hi st hQ => W.item i s Q E hi st fun v h' tk hp => hQ v h' tk ⟨hi, hp⟩
  done := W.done
  self := W.self
theorem clo_lookup {cells : List (Str × Addr)} {names : List (Str × NameKind)} {y : Str} {c : Addr} (hy : (y, NameKind.free) ∈ names) (hc : cells.lookup y = some c) : (cloFrom cells names []).lookup y = some c := by
  obtain ⟨c', h⟩ := mem_lookup (cloFrom_has (cells := cells) (acc := []) hy)
  rcases cloFrom_mem (lookup_mem' h) with z | ⟨_, z⟩
  · cases z
  · rw [h, z, hc]
    rfl
section
variable {X : Cx} {pins : List (Addr × Obj)} {σ : L2.St} {H : Hp} {s : Shared}
/-- the table has grown: nothing that is tracked changes -/
theorem inv_grown {P : Addr} {s' : Shared} (I : Inv X pins σ H s) (hT : Tab H P) (k : ∀ b o, b ≠ P → s.heap.get? b = some o → s'.heap.get? b = some o) (hP : TabPhi P s'.heap) (ho : s'.os = s.os) (hg : AllBare s'.gens) : Inv X pins σ H s' := by
  have nN : ∀ b, H b = none → b ≠ P := fun b e z => by
    rw [z, hT] at e
    cases e
  have J := I.step (h' := s'.heap) (H' := H) (g' := s'.gens) (t' := s'.toks) (d' := s'.drawn) (ch := []) (fun b hb => absurd hb (by simp)) (fun b o _ _ _ e n => k b o (nN b n) e) (fun b o _ _ _ e n => ⟨o.slots, k b o (nN b n) e⟩) (fun b o _ _ n => n)
    (fun b o _ e => by
      by_cases hb : b = P
      · rw [hb]
        exact ⟨_, hP.choose_spec.1⟩
      · exact ⟨o, k b o hb e⟩)
    (fun b xs e => e) (fun b o u e => e) (fun b ps e => ⟨#[], by rw [e]; simp⟩) (fun m ⟨ob, es, ep, e, r⟩ => ⟨ob, es, ep, k _ ob (nN _ I.free) e, r⟩)
    (fun b u e => by
      by_cases hb : b = P
      · subst hb
        rw [hT] at e
        cases e
        exact tab_ok hP
      · refine (I.hok b u e).stay (fun d v hd q => k d v ?_ q) (fun d q => q) fun d xs q => q
        rcases hd with z | z
        · rw [z]
          exact hb
        · intro e2
          rw [e2, hT] at z
          cases z) hg
  have e : ({ s with heap := s'.heap, gens := s'.gens, drawn := s'.drawn, toks := s'.toks } : Shared) = s' := by
    cases s'
    cases ho
    rfl
  rw [e] at J
  exact J
/-- the generator g, ready to be walked -/
def RdyG (X : Cx) (pins : List (Addr × Obj)) (σ : L2.St) (H : Hp) (n : Nat) (f : Nat → Bool) (g : Addr) (s5 : Shared) : Prop :=
  ∃ (fp wr : List Addr) (G : Array GenState → Array GenState → Prop) (F : Nat → Value → Prop) (St : Nat → Shared → Prop), WalksS X.prog X.w X.A.in1 g fp wr G n F St ∧ St 0 s5 ∧ TruthOf X.prog X.w X.A.in1 F f ∧ ∀ s', Moved wr G s5 s' → Inv X pins σ H s'
theorem gen_make {c P : Addr} {elt iter : Expr} {x : Str} {px gpos : Pos} {scope : Scope} {te : TE} {k : Nat} {Q' : Value → Shared → Prop} {R : Nat → (Nat → Bool) → Hp → Prop}
    (hr : Room k X.A) (TB : LamX.TabB X.base X.mg c P) (hcode : X.env.code = .ref c) (S : GxR.GenS X.env scope x) (hi : PE X iter te) (hs : ∀ v, genFold iter X.env v = pure v) (I : Inv X pins σ H s)
    (h : te σ H fun v H1 => Tab H1 P ∧ ∃ (n : Nat) (xs : Nat → V) (f : Nat → Bool), SrcV X.K H1 v n xs ∧ (∀ i u, i < n → RelV (xs i) u → QV X σ H1 P scope x u elt (.bl (f i))) ∧ R n f H1)
    (hQ : ∀ n f H1 g s5, R n f H1 → RdyG X pins σ H1 n f g s5 → Q' (.ref g) s5) :
    wpAny (model X.prog X.w) X.A (eval (.GeneratorExp elt [⟨.Name x px, iter, [], 0⟩] scope gpos) X.env) Q' X.xe s := by
  refine wpAny_GeneratorExp_walksQD hr.hd S.co (closure_ok S.free) S.cell S.dot S.loc S.kind hr.depth ?_ hs
  refine thn (hi.run pins s σ H _ I h) fun xv s1 ⟨v, H1, I1, r1, hT, n, xs, f, hsrc, hel, hR⟩ => ?_
  refine src_iter hsrc I1 r1 hT fun o fp Pf St hPf hW hst hfp => ?_
  obtain ⟨ps, hPs, ht⟩ := hT.of_ok I1.hok
  have hPlt : P < s1.heap.objs.size := Heap.lt_size hPs
  have hP2 : (s1.heap.push o).get? P = some { cls := .none, data := .fields ps } := Heap.get?_push_of_some _ hPs
  have cd : PySem.W.CodeHd (s1.heap.push o) c P := TB.code.keeps fun b u e => Heap.get?_push_of_some _ (I1.bk b u e)
  have lim2 : (s1.heap.push o).NoLimit := I1.nolimit.push o
  have hcP : cStatics ≠ P := fun e => by
    obtain ⟨_, ⟨o', es, ep, ho, hd, _⟩, _⟩ := I1.nolimit
    rw [e, hPs] at ho
    cases ho
    cases hd
  have hcl : cStatics < s1.heap.objs.size := let ⟨_, hns, _⟩ := I1.nolimit; hns.lt
  have sz2 : (s1.heap.push o).objs.size = s1.heap.objs.size + 1 := Heap.size_push ..
  have nTb : ∀ b, H1 b = none → b ≠ P := fun b e z => by
    rw [z, hT] at e
    cases e
  -- what is left once the code object is known
  have go : ∀ (code : Value) (h3 : Heap) (tk : Nat) (ps' : Array Value), Heap.ExtBut P (s1.heap.push o) h3 → (s1.heap.push o).objs.size ≤ h3.objs.size → h3.get? P = some { cls := .none, data := .fields ps' } → TriplesOk ps'.toList →
      wpAny (model X.prog X.w) X.A (builtinsFor X.env.globals X.env.builtins) (fun bi s₄ => ∃ I fp wr n₀ Pg St₀ pz F, Value.ref s1.heap.objs.size = .ref I ∧ (∀ A' : Around, A'.handled = none → Walks X.prog X.w A' I fp wr n₀ Pg St₀) ∧ St₀ 0 s₄.heap ∧ (∀ b ∈ fp, b < s₄.heap.objs.size) ∧ s₄.heap.NoLimit ∧ cStatics ∉ wr ∧
          (∀ href : Heap, (∀ b o, s₄.heap.get? b = some o → href.get? b = some o) → QuietGenD X.prog X.w (genEnv scope (cloFrom X.env.cells scope.names []) s₄.heap.objs.size code bi X.env) x [] elt (List.range s₄.heap.objs.size) wr Pg pz F href (X.A.depth + 1) (X.A.units + 8)) ∧
          (∀ a h₅ tk gs, gs.bare = true → s₄.heap.objs.size < a → h₅.objs.size = a + 1 → (∀ b o, s₄.heap.get? b = some o → h₅.get? b = some o) →
            WalksS X.prog X.w X.A.in4 a (a :: s₄.heap.objs.size :: List.range s₄.heap.objs.size) (s₄.heap.objs.size :: wr) (GenOnlyQ s₄.gens.size) (passing pz n₀ 0).length (fun j y => ∃ i, (passing pz n₀ 0)[j]? = some i ∧ F i y) (GenAt X.prog X.w X.A.in4 a s₄.gens.size s₄.heap.objs.size (List.range s₄.heap.objs.size) wr pz n₀ F) →
            GenAt X.prog X.w X.A.in4 a s₄.gens.size s₄.heap.objs.size (List.range s₄.heap.objs.size) wr pz n₀ F 0 { s₄ with gens := s₄.gens.push gs, toks := tk, heap := h₅ } →
            Q' (.ref a) { s₄ with gens := s₄.gens.push gs, toks := tk, heap := h₅ })) X.xe { s1 with heap := h3, toks := tk } := by
    intro code h3 tk ps' hx hsz hP3 ht3
    obtain ⟨bm, ob, e1, e2, e3, e4, e5, e6, e7, e8⟩ := TB.bm
    have keep3 : ∀ b u, b ≠ P → s1.heap.get? b = some u → h3.get? b = some u := fun b u hb e => hx b u hb (Heap.get?_push_of_some _ e)
    refine wpAny_builtinsFor (m := X.mg) (by rw [I1.ok.glob]; exact ((I1.mod.glob.keeps I1.bk).push o).extBut hx TB.gP) e1 e2 (keep3 _ _ e4 (I1.bk _ _ e5)) e6 e7 e8 ?_
    have hsz3 : s1.heap.objs.size < h3.objs.size := by omega
    refine ⟨s1.heap.objs.size, fp, [s1.heap.objs.size], n, fun i u => i < n ∧ Pf i u, St, fun _ => true, fun i y => y = .bool (f i), rfl, fun A' hA => walks_lt (hW A' hA), ?_, fun b hb => Nat.lt_of_le_of_lt (hfp b hb).1 hsz3, lim2.extBut hx hcP, ?_, ?_, ?_⟩
    · exact (hW X.A hr.hd).frame _ _ _ hst fun b hb u e => hx b u (hfp b hb).2 e
    · intro z
      rw [List.mem_singleton.mp z] at hcl
      exact Nat.lt_irrefl _ hcl
    · intro href hhref
      refine ⟨fun A' E' i v s₂ m₂ hA hD hU hPv hn hm hk => ?_, fun A' E' i v s₂ m₂ hA hD hU hPv hp hn hm hk => ?_⟩
      · simp only [List.forIn_nil]
        exact wpAny_pure ⟨rfl, kp_refl _⟩
      · have kept : ∀ b u, b ≠ P → s1.heap.get? b = some u → s₂.heap.get? b = some u := fun b u hb e => by
          have hlt := Heap.lt_size e
          refine hk b (List.mem_range.mpr ?_) (fun z => ?_) u (hhref b u (keep3 b u hb e))
          · show b < h3.objs.size
            exact Nat.lt_trans hlt hsz3
          · rw [List.mem_singleton.mp z] at hlt
            exact Nat.lt_irrefl _ hlt
        refine wpAny_mono (hel i v hPv.1 (hPf i v hPv.2 hPv.1) _ A' E' s₂ m₂ ⟨hA, hD, hU, rfl, I1.ok.glob, rfl, hn, hm, fun b u e => kept b u (nTb b (I1.bs b u e).2) (I1.bk b u e), I1.mod, fun b u e => ?_, fun j y w hN hσ hv hfr => ?_⟩) (fun y s3 r => ⟨r.1, r.2⟩) fun _ _ e => e
        · have hb : b ≠ P := fun z => by
            rw [z] at e
            unfold but at e
            rw [if_pos rfl] at e
            cases e
          rw [but_ne hb] at e
          refine (I1.hok b u e).stay (fun d w hd q => kept d w ?_ q) (fun d q => ?_) fun d ys q => ?_
          · rcases hd with z | z
            · rw [z]
              exact hb
            · intro e2
              rw [e2, hT] at z
              cases z
          · rw [but_ne fun e2 => by rw [e2, hT] at q; cases q]
            exact q
          · rw [but_ne fun e2 => by rw [e2, hT] at q; cases q]
            exact q
        · obtain ⟨m, hn1, hl⟩ := I1.loc
          obtain ⟨r, rv, l⟩ := hl j y w hN hσ (hv.elim (fun z => Or.inr (Or.inl z)) (fun z => Or.inr (Or.inr z)))
          rcases l with ⟨z, _⟩ | ⟨_, cc, hc, oc, he, hd⟩
          · rcases hv with z2 | z2
            · rw [z] at z2; cases z2
            · rw [z] at z2; cases z2
          · exact ⟨r, cc, rv, clo_lookup (lookup_mem' hfr) hc, oc, kept cc oc (nTb cc (I1.freeC y cc hc)) he, hd⟩
    · intro g h5 tk5 gs hgb hag hsz5 hk5 W5 hat
      simp only [GxR.passing_true, List.length_range] at W5
      refine hQ n f H1 g _ hR ⟨_, _, _, _, _, W5.in4_1, hat, fun j y sj Qj Ej hy hQj => ?_, fun s' hm => ?_⟩
      · obtain ⟨i, hij, rfl⟩ := hy
        obtain ⟨hj, ej⟩ := List.getElem?_eq_some_iff.mp hij
        rw [List.getElem_range] at ej
        subst ej
        exact wpAny_truthy_bool hQj
      · have nwr : ∀ b u, s1.heap.get? b = some u → b ∉ h3.objs.size :: [s1.heap.objs.size] := fun b u e hb => by
          have hl := Heap.lt_size e
          rcases List.mem_cons.mp hb with z | z
          · rw [z] at hl
            exact Nat.lt_irrefl _ (Nat.lt_trans hl hsz3)
          · rw [List.mem_singleton.mp z] at hl
            exact Nat.lt_irrefl _ hl
        exact inv_grown I1 hT (fun b u hb e => hm.heap b u (nwr b u e) (hk5 b u (keep3 b u hb e))) ⟨ps', hm.heap P _ (nwr P _ hPs) (hk5 P _ hP3), ht3⟩ hm.os (AllBare.movedS (I1.bare.push hgb) hm)
  refine ⟨lim2, ?_⟩
  cases hf : codeAmong gpos ps.toList with
  | some cv => exact wpAny_genexprCode_hit hcode (cd.code hP2 ht) hf (go cv (s1.heap.push o) s1.toks ps (Heap.ExtBut.refl _ _) (Nat.le_refl _) hP2 ht)
  | none =>
    refine wpAny_genexprCodeX hcode (cd.code hP2 ht) (cd.tab hP2) hf fun c' h' tk hx hge hlt hco' _ htab' _ => ?_
    obtain ⟨_, _, _, _, _, _, _, _, _, _, _, _, _, _, _, _, _, _, _, htr, _⟩ := hco'
    exact go _ h' tk _ hx (Nat.le_trans hge (Nat.le_of_lt hlt)) htab'.2 htr
/-- all(.. for x in e), any(.. for x in e) -/
def tGen (X : Cx) (P : Addr) (scope : Scope) (x : Str) (elt : Expr) (fin : Nat → (Nat → Bool) → Bool) (te : TE) : TE := fun σ H Q => te σ H fun v H1 => Tab H1 P ∧ ∃ (n : Nat) (xs : Nat → V) (f : Nat → Bool), SrcV X.K H1 v n xs ∧ (∀ i u, i < n → RelV (xs i) u → QV X σ H1 P scope x u elt (.bl (f i))) ∧ Q (.bl (fin n f)) H1
def allF (n : Nat) (f : Nat → Bool) : Bool := (List.range n).all f
def anyF (n : Nat) (f : Nat → Bool) : Bool := (List.range n).any f
theorem pe_all {c P : Addr} {elt iter : Expr} {x : Str} {px p pos gpos : Pos} {scope : Scope} {te : TE} {k : Nat} (hr : Room k X.A) (hg : Gl X "all") (hm : X.mg "all" = none) (hb : bootBuiltins "all" = some (.builtin "all")) (TB : LamX.TabB X.base X.mg c P) (hcode : X.env.code = .ref c) (S : GxR.GenS X.env scope x)
    (hi : PE X iter te) (hs : ∀ v, genFold iter X.env v = pure v)
    (he : starEach [.GeneratorExp elt [⟨.Name x px, iter, [], 0⟩] scope gpos] X.env = (false, eval (.GeneratorExp elt [⟨.Name x px, iter, [], 0⟩] scope gpos) X.env) :: starEach [] X.env := by rfl) :
    PE X (.Call (.Name "all" p) [.GeneratorExp elt [⟨.Name x px, iter, [], 0⟩] scope gpos] [] pos) (tGen X P scope x elt allF te) := by
  refine ⟨fun pins s σ H Q I h => wpAny_Call_Name_kw (ld_blt I hg hm hb (PyProof.Rows.callWith_builtin1 ?_ he (by rfl)))⟩
  rw [he]
  show wpAny _ _ (spliced ((false, eval (.GeneratorExp elt [⟨.Name x px, iter, [], 0⟩] scope gpos) X.env) :: backTo pos (starEach [] X.env))) _ _ s
  refine Calls.spliced_cons (gen_make (R := fun n f H1 => Q (.bl (allF n f)) H1) hr TB hcode S hi hs I h fun n f H1 g s5 hR ⟨fp, wr, G, F, St₁, W, hst, htr, hI⟩ => Calls.spliced_nil ?_)
  exact call_all_walkS (W.self 0 _ _ _ hst ⟨g, fp, wr, G, _, F, St₁, _, rfl, W, hst, htr, fun s' hmv => ⟨.bl _, H1, hI s' hmv, rfl, hR⟩⟩)
theorem pe_any {c P : Addr} {elt iter : Expr} {x : Str} {px p pos gpos : Pos} {scope : Scope} {te : TE} {k : Nat} (hr : Room k X.A) (hg : Gl X "any") (hm : X.mg "any" = none) (TB : LamX.TabB X.base X.mg c P) (hcode : X.env.code = .ref c) (S : GxR.GenS X.env scope x)
    (hi : PE X iter te) (hs : ∀ v, genFold iter X.env v = pure v)
    (he : starEach [.GeneratorExp elt [⟨.Name x px, iter, [], 0⟩] scope gpos] X.env = (false, eval (.GeneratorExp elt [⟨.Name x px, iter, [], 0⟩] scope gpos) X.env) :: starEach [] X.env := by rfl) :
    PE X (.Call (.Name "any" p) [.GeneratorExp elt [⟨.Name x px, iter, [], 0⟩] scope gpos] [] pos) (tGen X P scope x elt anyF te) := by
  refine ⟨fun pins s σ H Q I h => wpAny_Call_Name_kw (ld_blt I hg hm boot_any (PyProof.Rows.callWith_builtin1 ?_ he (by rfl)))⟩
  rw [he]
  show wpAny _ _ (spliced ((false, eval (.GeneratorExp elt [⟨.Name x px, iter, [], 0⟩] scope gpos) X.env) :: backTo pos (starEach [] X.env))) _ _ s
  refine Calls.spliced_cons (gen_make (R := fun n f H1 => Q (.bl (anyF n f)) H1) hr TB hcode S hi hs I h fun n f H1 g s5 hR ⟨fp, wr, G, F, St₁, W, hst, htr, hI⟩ => Calls.spliced_nil ?_)
  exact call_any_walkS (W.self 0 _ _ _ hst ⟨g, fp, wr, G, _, F, St₁, _, rfl, W, hst, htr, fun s' hmv => ⟨.bl _, H1, hI s' hmv, rfl, hR⟩⟩)
end
end LG

set_option Elab.async false
set_option linter.all false
set_option maxRecDepth 100000
set_option maxHeartbeats 4000000
namespace LS
open PySem PySem.Spec PyProof.Rows L2 Evl LT LG
/-! ### texts -/
section
variable {K : PySem.W.Frag} {σ : L2.St} {H : Hp} {ta tb tc te to : TE} {x y z v : V} {D : Ends} {tu tz : TS}
theorem rv_addS {i j : Str} (h : i.length + j.length ≤ sizeLine) : RV (fun x y H Q => ∃ i j, x = .str i ∧ y = .str j ∧ i.length + j.length ≤ sizeLine ∧ Q (.str (i ++ j)) H) (.str i) (.str j) H (.str (i ++ j)) := rv_val fun _ _ Q q => ⟨i, j, rfl, rfl, h, q⟩
theorem ev_lenS {z : Str} {ta : TE} (h : Ev ta σ H (.str z)) (hz : z.length ≤ sizeLine) : Ev (tCB (fun xs H Q => ∃ x, xs = [.str x] ∧ x.length ≤ sizeLine ∧ Q (.int x.length) H) (tCons ta tNil)) σ H (.int (z.length : Int)) := ev_cb (ea_cons h ea_nil) fun H1 _ Q q => ⟨z, rfl, hz, q H1 (Ex.refl H1)⟩
theorem ev_isi {x : V} {n : String} {t : Value} {b : Bool} (h : Ev ta σ H x) (hn : Ev tb σ H (.ty n)) (ht : ∀ H1, Ex H H1 → TyX K H1 x t) (hk : PySem.W.kitOne K t (.type n) = some b) : Ev (tCB (rIsi K) (tCons ta (tCons tb tNil))) σ H (.bl b) :=
  ev_cb (ea_cons h (ea_cons hn ea_nil)) fun H1 e Q q => ⟨x, .ty n, t, .type n, b, rfl, .ty n, ht H1 e, hk, q H1 (Ex.refl H1)⟩
/-- a < b < c over ints -/
theorem et_chain {f g : Int → Int → Bool} {i j k : Int} (ha : Ev ta σ H (.int i)) (hb : Ev tb σ H (.int j)) (hc : Ev tc σ H (.int k)) : EvT (tTest (tChain (rI0 fun i j => .bl (f i j)) (rI0 fun i j => .bl (g i j)) ta tb tc)) σ H (f i j && g j k) := fun H1 e Q q =>
  ha H1 e _ fun H2 e2 => hb H2 (e.trans e2) _ fun H3 e3 => ⟨i, j, rfl, rfl, f i j, rfl, by
    cases hf : f i j with
    | true =>
      rw [if_pos rfl]
      refine hc H3 ((e.trans e2).trans e3) _ fun H4 e4 => ⟨j, k, rfl, rfl, g j k, rfl, ?_⟩
      have := q H4 ((e2.trans e3).trans e4)
      rw [hf] at this
      exact this
    | false =>
      rw [if_neg Bool.false_ne_true]
      have := q H3 (e2.trans e3)
      rw [hf] at this
      exact ⟨false, rfl, this⟩⟩
theorem s_forS {zs : Str} {j : Nat} (h : Ev te σ H (.str zs)) (Pv : Nat → L2.St → Hp → Prop) (h0 : ∀ H1, Ex H H1 → Pv 0 σ H1)
    (hs : ∀ i c σ' H', zs.cps.toList[i]? = some c → Pv i σ' H' → tu { D with nx := Pv (i + 1), ct := Pv (i + 1), bk := D.nx } (σ'.set j (some (.str ⟨#[c]⟩))) H') (hd : ∀ σ' H', Pv zs.cps.toList.length σ' H' → D.nx σ' H') : tFor (iStr te) (gName j) tu D σ H :=
  h H (Ex.refl H) _ fun H1 e => ⟨zs, rfl, fun i m σ' H' => m + i = zs.cps.size ∧ Pv i σ' H', ⟨zs.cps.size, by omega, h0 H1 e⟩, fun i m σ' H' ⟨hm, p⟩ => by
    by_cases hi : i < zs.cps.size
    · refine .inr ⟨hi, Pv (i + 1), fun σ2 H2 p2 => ⟨m - 1, by omega, by omega, p2⟩, fun v H2 hy => ?_⟩
      obtain ⟨rfl, c, hc, rfl⟩ := hy
      exact hs i c σ' H2 (by rw [Array.getElem?_toList]; exact hc) p
    · have ei : i = zs.cps.toList.length := by
        rw [Array.length_toList]
        omega
      rw [ei] at p
      exact .inl ⟨Nat.le_of_not_lt hi, hd σ' H' p⟩⟩
theorem q_forS {zs : Str} {j : Nat} (h : Ev te σ H (.str zs)) (Pv : Nat → L2.St → Hp → Prop) (h0 : ∀ H1, Ex H H1 → Pv 0 σ H1)
    (hs : ∀ i c σ' H', zs.cps.toList[i]? = some c → Pv i σ' H' → tu { D with nx := Pv (i + 1), ct := Pv (i + 1), bk := tz D } (σ'.set j (some (.str ⟨#[c]⟩))) H') (hd : ∀ σ' H', Pv zs.cps.toList.length σ' H' → tz D σ' H') : tSeq (tFor (iStr te) (gName j) tu) tz D σ H :=
  s_forS (D := { D with nx := tz D }) h Pv h0 hs hd
theorem q_call {i : Nat} {sp : Sp} {dvs vs : List V} {E : XK} {tr : TA} (h : EvA tr σ H vs) (k : ∀ H1, Ex H H1 → sp (vs ++ dvs) H1 (fun v H2 => tz D (σ.set i (some v)) H2) E) : tSeq (tAsg (tCall sp dvs E tr) (gName i)) tz D σ H := h H (Ex.refl H) _ fun H1 e => k H1 e
/-- a call whose first argument is a new tuple -/
theorem ev_callU1 {sp : Sp} {dvs vs xs : List V} {E : XK} {tr : TA} (h : EvU ta σ H xs) (hr : EvA tr σ H vs) (hs : ∀ p H1, H1 p = some (.tup xs) → Ex H H1 → SpV sp ((.ref p :: vs) ++ dvs) H1 z) : Ev (tCall sp dvs E (tCons ta tr)) σ H z := fun H1 e Q q =>
  h H1 e _ fun p H2 hp e2 h2 => hr H2 (e.trans e2) _ fun H3 e3 => hs p H3 (e3 _ _ h2) ((e.trans e2).trans e3) H3 (Ex.refl _) Q (fun H4 e4 => q H4 ((e2.trans e3).trans e4)) E
theorem ev_index {W : WX} {a b : Str} {k : Nat} {tr : TA} (h : Ev to σ H (.str a)) (hb : EvA tr σ H [.str b]) (hk : Txt.index0 a b = some k) : Ev (tBMS K "str" (rIndexX W) to tr) σ H (.int (k : Int)) := fun H1 e Q q =>
  h H1 e _ fun H2 e2 => ⟨rfl, hb H2 (e.trans e2) _ fun H3 e3 => ⟨a, b, rfl, rfl, fun k' hk' => by
    rw [hk] at hk'
    cases hk'
    exact q H3 (e2.trans e3), fun hn => by
    rw [hk] at hn
    cases hn⟩⟩
theorem ev_find {a b : Str} (h : Ev to σ H (.str a)) (hb : Ev te σ H (.str b)) : Ev (tM1 (fun x xs H Q => ∃ a b, x = .str a ∧ xs = [.str b] ∧ Q (.int (Txt.find a b)) H) to te) σ H (.int (Txt.find a b)) := fun H1 e Q q =>
  h H1 e _ fun H2 e2 => ⟨⟨a, rfl⟩, hb H2 (e.trans e2) _ fun H3 e3 => ⟨a, b, rfl, rfl, q H3 (e2.trans e3)⟩⟩
theorem ev_slS {tl th : TO} {z : Str} {lo hi : Option Int} (h : Ev te σ H (.str z)) (h1 : EvO tl σ H lo) (h2 : EvO th σ H hi) (hz : z.length ≤ sizeLine) : Ev (tSl rSlS te tl th) σ H (.str (cutS z lo hi)) := fun H1 e Q q =>
  h H1 e _ fun H2 e2 => h1 H2 (e.trans e2) _ fun H3 e3 => h2 H3 ((e.trans e2).trans e3) _ fun H4 e4 => ⟨z, rfl, hz, q H4 ((e2.trans e3).trans e4)⟩
/-- text * int -/
def rMulS : R2 := fun x y H Q => ∃ a n, x = .str a ∧ y = .int n ∧ a.length ≤ 1000 ∧ 0 ≤ n ∧ n ≤ 1000 ∧ Q (.str (Txt.mul a n)) H
theorem rv_mulS {a : Str} {n : Int} (h1 : a.length ≤ 1000) (h2 : 0 ≤ n) (h3 : n ≤ 1000) : RV rMulS (.str a) (.int n) H (.str (Txt.mul a n)) := rv_val fun _ _ Q q => ⟨a, n, rfl, rfl, h1, h2, h3, q⟩
end
theorem mulOk {a : Str} {n : Int} (h1 : a.length ≤ 1000) (h2 : 0 ≤ n) (h3 : n ≤ 1000) : MulOk a n := by
  refine ⟨by simp; omega, fun h h' hh => ?_, fun h h' => ?_⟩
  · have p : (0 : Int) < n := by omega
    have m : (a.length : Int) * n ≤ 1000 * 1000 := Int.mul_le_mul (by omega) h3 h2 (by decide)
    have := (Int.le_ediv_iff_mul_le p).mpr (show (a.length : Int) * n ≤ 2 ^ 63 - 1 by omega)
    omega
  · have m : a.length * n.toNat ≤ 1000 * 1000 := Nat.mul_le_mul h1 (by omega)
    have z : sizeLine = 16777216 := rfl
    show decide (a.length * n.toNat > sizeLine) = false
    exact decide_eq_false (by omega)
theorem op_mul_str {X : Cx} : OpR X (binaryOp .Mult) rMulS := by
  intro pins s σ H x y v u Q I rx ry h
  obtain ⟨a, n, rfl, rfl, h1, h2, h3, q⟩ := h
  obtain ⟨t, rfl⟩ := rx
  obtain ⟨t', rfl⟩ := ry
  exact SB.mul (mulOk h1 h2 h3) fun t'' k => ⟨.str (Txt.mul a n), H, I.tok _, ⟨_, rfl⟩, q⟩
section
variable {X : Cx} {σ : L2.St} {H : Hp} {P : Addr} {scope : Scope} {x : Str} {elt : Expr} {te : TE} {fin : Nat → (Nat → Bool) → Bool}
theorem ev_gen {v : V} {n : Nat} {xs : Nat → V} {f : Nat → Bool} (h : Ev te σ H v) (hT : Tab H P) (hs : ∀ H1, Ex H H1 → SrcV X.K H1 v n xs) (he : ∀ H1, Ex H H1 → ∀ i u, i < n → RelV (xs i) u → QV X σ H1 P scope x u elt (.bl (f i))) :
    Ev (tGen X P scope x elt fin te) σ H (.bl (fin n f)) := fun H1 e Q q => h H1 e _ fun H2 e2 => ⟨hT.mono (e.trans e2), n, xs, f, hs H2 (e.trans e2), he H2 (e.trans e2), q H2 e2⟩
end
theorem allF_list {α : Type} (l : List α) (d : α) (p : α → Bool) : allF l.length (fun i => p (l.getD i d)) = l.all p := by
  unfold allF
  rw [Bool.eq_iff_iff, List.all_eq_true, List.all_eq_true]
  constructor
  · intro h y hy
    obtain ⟨i, hi, rfl⟩ := List.getElem_of_mem hy
    have q := h i (List.mem_range.mpr hi)
    rw [List.getD_eq_getElem?_getD, List.getElem?_eq_getElem hi] at q
    exact q
  · intro h i hi
    have hi' := List.mem_range.mp hi
    rw [List.getD_eq_getElem?_getD, List.getElem?_eq_getElem hi']
    exact h _ (List.getElem_mem hi')
theorem anyF_list {α : Type} (l : List α) (d : α) (p : α → Bool) : anyF l.length (fun i => p (l.getD i d)) = l.any p := by
  unfold anyF
  rw [Bool.eq_iff_iff, List.any_eq_true, List.any_eq_true]
  constructor
  · rintro ⟨i, hi, h⟩
    have hi' := List.mem_range.mp hi
    rw [List.getD_eq_getElem?_getD, List.getElem?_eq_getElem hi'] at h
    exact ⟨_, List.getElem_mem hi', h⟩
  · rintro ⟨y, hy, h⟩
    obtain ⟨i, hi, rfl⟩ := List.getElem_of_mem hy
    refine ⟨i, List.mem_range.mpr hi, ?_⟩
    rw [List.getD_eq_getElem?_getD, List.getElem?_eq_getElem hi]
    exact h
theorem src_str {K : PySem.W.Frag} {H : Hp} (z : Str) : SrcV K H (.str z) z.cps.toList.length (fun i => .str ⟨#[z.cps.toList.getD i 0]⟩) := .inr (.inl ⟨z, rfl, Array.length_toList, fun i c hc => by
  have e : z.cps.toList[i]? = some c := by rw [Array.getElem?_toList]; exact hc
  show V.str ⟨#[z.cps.toList.getD i 0]⟩ = V.str ⟨#[c]⟩
  rw [List.getD_eq_getElem?_getD, e]
  rfl⟩)
/-! ### a def whose code object is known -/
structure FunC (K : PySem.W.Frag) (x qual : Str) (st : Stmt) (f : Addr) (fd : FuncData) (c : Addr) : Prop where
  ex : ∃ (oc : Value) (od : Option Addr) (kV doc pm : Value) (an : Option Addr) (ct : Value) (osl : Array (Option Value)), fd = PySem.W.fnOf x qual (defArgs st) (defBody st) (defScope st) .none kV doc pm an (.ref c) ct ∧ K.lookup f = some ⟨oc, od, .func fd, osl⟩ ∧ PySem.W.codeIn K (.ref c) qual = true
  kp : PySem.W.keepIn K (.ref f) = true
section
variable {P : Program} {w : World} {K : PySem.W.Frag} {mg : Str → Option Value} {base : Heap}
theorem FunC.ok {x qual : Str} {st : Stmt} {f c : Addr} {fd : FuncData} {N ps : List Str} {k : Nat} {sp : Sp} (F : FunC K x qual st f fd c) (S : FnScope N ps (defScope st)) (len : ∀ vs H Q E, sp vs H Q E → vs.length = ps.length)
    (hbody : ∀ (A : Around) (outer : List Env) (s : Shared) (H : Hp) (vs : List V) (Q : VK) (E : XK), Room k (A.deeper (envOfC qual (defScope st) s.heap.objs.size f (.ref c))) → sp vs H Q E →
      ∃ t, PSs (cxOf CX0 P w K mg base N qual (defScope st) f (.ref c) A outer s H E).nox (defBody st) t ∧ t { nx := fun _ H' => Q .non H', rt := Q } (start N vs) H) : FnOk P w K mg base CX0 (k + 1) f fd ps sp := by
  obtain ⟨oc, od, kV, doc, pm, an, ct, osl, rfl, lk, hcd⟩ := F.ex
  exact fn_of lk hcd S len fun A outer s H vs Q E hr hsp => let ⟨t, h, q⟩ := hbody A outer s H vs Q E hr hsp; ⟨t, h.nox, q⟩
theorem FunC.fun {x qual : Str} {st : Stmt} {f c : Addr} {fd : FuncData} (F : FunC K x qual st f fd c) : Fun K x qual st f fd := let ⟨oc, od, kV, doc, pm, an, ct, osl, e, lk, hcd⟩ := F.ex; ⟨⟨oc, od, kV, doc, pm, an, .ref c, ct, osl, e, lk, hcd⟩, F.kp⟩
theorem tab_mk {x : Str} {f c T : Addr} {oc e : Value} {od dd : Option Addr} {osl sl : Array (Option Value)} {fd : FuncData} {vs : Array Value} (a : PySem.W.nsIn K mainGlobals x = some (some (.ref f))) (l : K.lookup f = some ⟨oc, od, .func fd, osl⟩)
    (h : K.lookup c = some ⟨e, dd, .fields vs, sl⟩) (hv : vs[11]? = some (.ref T)) (hc : fd.code = .ref c := by rfl) : PySem.W.tabIn K x = some (c, T) := by
  unfold PySem.W.tabIn
  rw [a]
  dsimp only
  rw [l]
  dsimp only
  rw [hc]
  dsimp only
  rw [h]
  dsimp only
  rw [hv]
theorem funC_mk {x qual : Str} {st : Stmt} {f c T : Addr} {oc : Value} {od an : Option Addr} {osl : Array (Option Value)} {kV doc pm cdv ct : Value} (a : PySem.W.nsIn K mainGlobals x = some (some (.ref f))) (l : K.lookup f = some ⟨oc, od, .func (PySem.W.fnOf x qual (defArgs st) (defBody st) (defScope st) .none kV doc pm an cdv ct), osl⟩)
    (cd : PySem.W.codeIn K cdv qual = true) (k : PySem.W.keepIn K (.ref f) = true) (ht : PySem.W.tabIn K x = some (c, T)) : FunC K x qual st f (PySem.W.fnOf x qual (defArgs st) (defBody st) (defScope st) .none kV doc pm an cdv ct) c := by
  have e : cdv = .ref c := by
    unfold PySem.W.tabIn at ht
    rw [a] at ht
    dsimp only at ht
    rw [l] at ht
    dsimp only [PySem.W.fnOf] at ht
    cases cdv with
    | ref c' =>
      dsimp only at ht
      split at ht
      · split at ht
        · cases ht
          rfl
        · cases ht
      · cases ht
    | _ => cases ht
  subst e
  exact ⟨⟨oc, od, kV, doc, pm, an, ct, osl, rfl, l, cd⟩, k⟩
end
end LS

set_option Elab.async false
set_option linter.all false
set_option maxRecDepth 100000
set_option maxHeartbeats 4000000
namespace LQ
open PySem PySem.Spec PyProof.Rows L2 Evl LT LG LS
/-! ### calls within the elements of a generator expression -/
section
variable {X : Cx} {σ : L2.St} {H : Hp} {P : Addr} {scope : Scope} {x : Str} {u : Value} {a b : Expr} {za zb z : V} {pos p : Pos}
theorem fc_blt {y : Str} {r : Value} {cenv : Env} {A' : Around} {E' : Value → Shared → Prop} {s : Shared} {m : Str → Option Value} {Q : Value → Shared → Prop} (F : Fc X σ H P scope x u cenv A' s m) (hk : scope.kind = .function) (hl : scope.names.lookup y = some .globalImplicit) (hm : X.mg y = none) (hv : bootBuiltins y = some r) (h : Q r s)
    (hn : y ≠ "__name__" := by decide) (hd : (y == ("__debug__" : Str)) = false := by decide) : wpAny (model X.prog X.w) A' (eval (.Name y p) cenv) Q E' s := by
  obtain ⟨mb, h1, h2⟩ := F.md.blt
  exact Calls.Name_function_global (by rw [F.sc]; exact hk) (show cenv.scope.names.lookup y = some .globalImplicit by rw [F.sc]; exact hl) (Calls.loadGlobal_builtin (by rw [F.gl]; exact F.md.glob.keeps F.base) hm (by rw [F.bi]; exact h1.keeps F.base) ((h2 y hn).trans hv) h) hd
theorem qv_blt {y : Str} {r : Value} (hk : scope.kind = .function) (hl : scope.names.lookup y = some .globalImplicit) (hm : X.mg y = none) (hv : bootBuiltins y = some r) (hz : RelV z r) (hn : y ≠ "__name__" := by decide) (hd : (y == ("__debug__" : Str)) = false := by decide) :
    QV X σ H P scope x u (.Name y p) z := fun cenv A' E' s m F => fc_blt F hk hl hm hv ⟨hz, kp_refl _⟩ hn hd
/-- a built-in function of two arguments -/
theorem qv_blt2 {y : Str} {id : String} (hk : scope.kind = .function) (hl : scope.names.lookup y = some .globalImplicit) (hm : X.mg y = none) (hv : bootBuiltins y = some (.builtin id)) (ha : QV X σ H P scope x u a za) (hb : QV X σ H P scope x u b zb) (hr : QR X σ H P scope x u (fun v w => call (.builtin id) [v, w]) za zb z)
    (he : ∀ env, starEach [a, b] env = (false, eval a env) :: starEach [b] env := by intro _; rfl) (h2 : ∀ env, starEach [b] env = [(false, eval b env)] := by intro _; rfl) (hn : y ≠ "__name__" := by decide) (hd : (y == ("__debug__" : Str)) = false := by decide) :
    QV X σ H P scope x u (.Call (.Name y p) [a, b] [] pos) z := fun cenv A' E' s m F => by
  refine wpAny_Call_Name_kw (fc_blt F hk hl hm hv ?_ hn hd)
  refine PyProof.Rows.callWith_builtin1 ?_ (he cenv) (by rw [h2 cenv]; rfl)
  rw [he cenv, h2 cenv]
  show wpAny _ _ (spliced [(false, eval a cenv), (false, eval b cenv)]) _ _ s
  refine Calls.spliced_cons (wpAny_mono (ha cenv A' E' s m F) (fun v s1 r1 => ?_) fun _ _ e => e)
  refine Calls.spliced_cons (wpAny_mono (hb cenv A' E' s1 m (F.keeps r1.2)) (fun w s2 r2 => ?_) fun _ _ e => e)
  exact Calls.spliced_nil (wpAny_mono (hr cenv A' E' s2 m v w ((F.keeps r1.2).keeps r2.2) r1.1 r2.1) (fun y s3 r3 => ⟨r3.1, kp_trans (kp_trans r1.2 r2.2) r3.2⟩) fun _ _ e => e)
/-- what isinstance asks of a value -/
theorem kit_fc {cenv : Env} {A' : Around} {s : Shared} {m : Str → Option Value} {v : Value} {t : Value} (F : Fc X σ H P scope x u cenv A' s m) (hT : Tab H P) (r : RelV z v) (ty : TyOf X.K H z t) (no : ∀ a C dx fs, H a = some (.ins C dx fs) → z ≠ .ref a) :
    ∃ Pz : Heap → Prop, PySem.W.KitX X.K v t Pz ∧ Pz s.heap ∧ v ≠ .builtin "__main__.__loader__#opaque" := by
  have rd : ∀ {a : Addr} {o : HO}, H a = some o → (∀ φ, o ≠ .ext φ) → but P H a = some o := fun {a o} e n => by
    rw [but_ne fun z => by rw [z, hT] at e; exact n _ (Option.some.inj e).symm]
    exact e
  cases ty with
  | non => cases (show v = Value.none from r); exact ⟨_, PySem.W.kitx_none, True.intro, fun z => nomatch z⟩
  | bl y => cases (show v = Value.bool y from r); exact ⟨_, PySem.W.kitx_bool, True.intro, fun z => nomatch z⟩
  | int i => obtain ⟨t, q⟩ := (show ∃ t, v = Value.int i t from r); cases q; exact ⟨_, PySem.W.kitx_int, True.intro, fun z => nomatch z⟩
  | str y => obtain ⟨t, q⟩ := (show ∃ t, v = Value.str y t from r); cases q; exact ⟨_, PySem.W.kitx_str, True.intro, fun z => nomatch z⟩
  | flt y => obtain ⟨t, q⟩ := (show ∃ t, v = Value.float y t from r); cases q; exact ⟨_, PySem.W.kitx_float, True.intro, fun z => nomatch z⟩
  | @lst a xs ea =>
    cases (show v = Value.ref a from r)
    obtain ⟨_, _, n, _, h1⟩ := (show ObjOk X.prog X.w (but P H) s.heap a (.lst xs) from F.hok a _ (rd ea (fun φ z => by cases z)))
    exact ⟨_, PySem.W.kitx_list, ⟨_, h1, rfl⟩, fun z => nomatch z⟩
  | @frz a ob xs ea =>
    cases (show v = Value.ref a from r)
    obtain ⟨_, _, _, n, _, h1⟩ := (show ObjOk X.prog X.w (but P H) s.heap a (.frz ob (.lst xs)) from F.hok a _ (rd ea (fun φ z => by cases z)))
    exact ⟨_, PySem.W.kitx_list, ⟨_, h1, rfl⟩, fun z => nomatch z⟩
  | @tup a xs ea =>
    cases (show v = Value.ref a from r)
    obtain ⟨_, _, _, o, h1, h2, _⟩ := (show ObjOk X.prog X.w (but P H) s.heap a (.tup xs) from F.hok a _ (rd ea (fun φ z => by cases z)))
    exact ⟨_, PySem.W.kitx_tuple, ⟨o, h1, h2⟩, fun z => nomatch z⟩
  | @dK a kvs ea =>
    cases (show v = Value.ref a from r)
    obtain ⟨_, _, vs, _, o, es, ep, h1, h2, _⟩ := F.hok a _ (rd ea (fun φ z => by cases z))
    exact ⟨_, PySem.W.kitx_dict, ⟨o, h1, h2.1⟩, fun z => nomatch z⟩
  | @dT a kvs ea =>
    cases (show v = Value.ref a from r)
    obtain ⟨_, _, xs, _, o, es, ep, h1, h2, _⟩ := F.hok a _ (rd ea (fun φ z => by cases z))
    exact ⟨_, PySem.W.kitx_dict, ⟨o, h1, h2.1⟩, fun z => nomatch z⟩
  | @ins a C dx fs ea cl ha hn htk hm => exact absurd rfl (no a C dx fs ea)
theorem qr_isi {T : String} {t : Value} {b : Bool} (hT : Tab H P) (ty : TyOf X.K H z t) (no : ∀ a C dx fs, H a = some (.ins C dx fs) → z ≠ .ref a) (hk : PySem.W.kitOne X.K t (.type T) = some b) : QR X σ H P scope x u (fun v w => call (.builtin "isinstance") [v, w]) z (.ty T) (.bl b) := fun cenv A' E' s m v w F r1 r2 => by
  cases (show w = Value.type T from r2)
  obtain ⟨Pz, Z, p, hx⟩ := kit_fc F hT r1 ty no
  exact PySem.W.kia_one Z F.kin p hk hx fun tk => ⟨rfl, kp_tok _ _⟩
theorem qv_is {z' : V} (h : QV X σ H P scope x u a z) (e : z = z') : QV X σ H P scope x u a z' := e ▸ h
theorem qv_not {c : Bool} (ha : QV X σ H P scope x u a (.bl c)) : QV X σ H P scope x u (.UnaryOp .Not a pos) (.bl (!c)) := fun cenv A' E' s m F => by
  refine UnaryOp_ (wpAny_mono (ha cenv A' E' s m F) (fun v s1 r1 => ?_) fun _ _ e => e)
  obtain ⟨rfl, k⟩ := r1
  exact not_of (wpAny_truthy_bool ⟨rfl, k⟩)
theorem qv_one {op : BoolOp} (ha : QV X σ H P scope x u a z) : QV X σ H P scope x u (.BoolOp op [a] pos) z := fun cenv A' E' s m F => BoolOp_one (ha cenv A' E' s m F)
theorem qv_and {rest : List Expr} {c d : Bool} (ha : QV X σ H P scope x u a (.bl c)) (hb : c = true → QV X σ H P scope x u (.BoolOp .And (b :: rest) pos) (.bl d)) : QV X σ H P scope x u (.BoolOp .And (a :: b :: rest) pos) (.bl (c && d)) := fun cenv A' E' s m F => by
  refine BoolOp_and (wpAny_mono (ha cenv A' E' s m F) (fun v s1 r1 => ?_) fun _ _ e => e)
  obtain ⟨rfl, k⟩ := r1
  refine wpAny_truthy_bool ?_
  cases c with
  | true => exact wpAny_mono (hb rfl cenv A' E' s1 m (F.keeps k)) (fun y s3 r3 => ⟨r3.1, kp_trans k r3.2⟩) fun _ _ e => e
  | false => exact ⟨rfl, k⟩
theorem qr_ge_int {i j : Int} : QR X σ H P scope x u (compareOp .GtE) (.int i) (.int j) (.bl (decide (j ≤ i))) := fun cenv A' E' s m v w F r1 r2 => by
  obtain ⟨t, rfl⟩ := r1
  obtain ⟨t', rfl⟩ := r2
  exact ge_int ⟨rfl, kp_refl _⟩
/-- an own def of one argument whose body is one return -/
theorem qv_call1 {nm pn qual : Str} {st : Stmt} {f : Addr} {fd : FuncData} {N : List Str} {e : Expr} {rp : Pos} {k : Nat} (hr : Room k X.A) (hk : scope.kind = .function) (hl : scope.names.lookup nm = some .globalImplicit) (hm : X.mg nm = some (.ref f)) (F : Fun X.K nm qual st f fd) (hbody : defBody st = [.Return (some e) rp]) (S : FnScope N [pn] (defScope st)) (hloc : (defScope st).names.lookup pn = some .local)
    (hb : Binds X.K fd [pn] []) (ha : QV X σ H P scope x u a za) (he : ∀ (A0 : Around) (v : Value), RelV za v → QV { X with A := A0 } σ H P (defScope st) pn v e z) (hs : ∀ env, starEach [a] env = (false, eval a env) :: starEach [] env := by intro _; rfl) (hd : (nm == ("__debug__" : Str)) = false := by decide) :
    QV X σ H P scope x u (.Call (.Name nm p) [a] [] pos) z := fun cenv A' E' s m Fc0 => by
  refine wpAny_Call_Name_kw (Calls.Name_function_global (by rw [Fc0.sc]; exact hk) (show cenv.scope.names.lookup nm = some .globalImplicit by rw [Fc0.sc]; exact hl) (Calls.loadGlobal_global (by rw [Fc0.gl]; exact Fc0.md.glob.keeps Fc0.base) hm ?_) hd)
  refine PySem.W.callWith_K (h₀ := X.base) Fc0.md.kin F.kp ?_ (hs cenv) (by rfl)
  rw [hs cenv]
  show wpAny _ _ (spliced ((false, eval a cenv) :: [])) _ _ s
  refine Calls.spliced_cons (wpAny_mono (ha cenv A' E' s m Fc0) (fun v s1 r1 => Calls.spliced_nil ?_) fun _ _ e => e)
  have F1 := Fc0.keeps r1.2
  refine ⟨F1.kin, ?_⟩
  obtain ⟨oc, od, kV, doc, pm, an, cdv, ct, osl, rfl, lk, hcd⟩ := F.ex
  refine wpAny_call (Att.call_fn (binds := [(pn, v)]) F1.kin (F1.md.nolimit.keeps F1.base) lk hcd (by have := hr.dp; have := Fc0.dp; omega) (hb s1 [v] F1.kin rfl) ?_ (fun s2 IC => ?_) S.co S.gen S.kind)
  · simp only [List.all_cons, List.all_nil, Bool.and_true, Bool.or_eq_true, beq_iff_eq]
    exact .inl hloc
  · obtain ⟨h2, tk2, rfl⟩ := IC.toInCall.same
    have kk : ∀ b o, s1.heap.get? b = some o → h2.get? b = some o := IC.toInCall.keep
    rw [hbody]
    have Fn : Fc { X with A := A' } σ H P (defScope st) pn v (envOfC qual (defScope st) s1.heap.objs.size f cdv) (A'.deeper (envOfC qual (defScope st) s1.heap.objs.size f cdv)) { s1 with heap := h2, toks := tk2 } _ :=
      ⟨Fc0.hd, Nat.le_refl _, by show A'.units + 3 ≤ A'.units + 8; omega, rfl, rfl, rfl, IC.toInCall.ns, by
        show bindL _ [(pn, v)] _ pn = some v
        unfold bindL
        have hkd : (envOfC qual (defScope st) s1.heap.objs.size f cdv).kindOf pn = some .local := hloc
        rw [hkd]
        simp [bindL], fun b o e => kk b o (F1.base b o e), F1.md, F1.hok.kept kk, fun i y w h1 h2 h3 h4 => absurd rfl (S.nofree (y, .free) (lookup_mem' h4))⟩
    refine wpAny_execs_cons (wpAny_Return_some (wpAny_mono (he A' v r1.1 _ _ _ _ _ Fn) (fun y s3 r3 => ⟨r3.1, kp_trans (kp_trans r1.2 ⟨h2, tk2, rfl, kk⟩) r3.2⟩) fun _ _ e => e))
end
end LQ

set_option Elab.async false
set_option linter.all false
set_option maxRecDepth 100000
set_option maxHeartbeats 4000000
namespace LX
open PySem PySem.Spec PyProof.Rows L2 Evl LT LG LS
/-! ### own exceptions without arguments -/
abbrev veTail : List Value := [.type "ValueError", .type "Exception", .type "BaseException", .type "object"]
/-- an exception class of the text: its name, what the written part says of it -/
structure Xc (K : PySem.W.Frag) (mg : Str → Option Value) (nm : Str) (C : Addr) : Prop where
  g : mg nm = some (.ref C)
  x : PySem.W.excIn K C veTail "ValueError.__new__" = true
  k : PySem.W.keepIn K (.ref C) = true
  b : PySem.W.subIn K (.ref C) (.type "BaseException") = some true
  t : PySem.W.typeIn K (.ref C) = some (.type "type")
  d : PySem.W.hasDictIn K C = true
section
variable {X : Cx} {C D : Addr} {nm : Str}
theorem pmk_own0 {p pos : Pos} (T : Xc X.K X.mg nm C) (hg : Gl X nm) (hdb : (nm == ("__debug__" : Str)) = false := by decide) : PMk X (.Call (.Name nm p) [] [] pos) (fun _ H Q => Q (.ref C) none H) := by
  intro pins s σ H Q I h
  refine wpAny_Call_Name_kw (ld_glob I hg T.g ?_ hdb)
  refine PySem.W.callWith_K0 I.kIn T.k ?_
  show wpAny _ _ (call (.ref C) []) _ _ _
  obtain ⟨_, _, _, _, _, _, _, _, _, _, _, _, _, _, _, _, _, hC, hN, hni, TT⟩ := exc_obj I.kIn T.x
  refine wpAny_call_exc_subT PySem.F.excBase_ValueError TT hC hN hni (fun h' e hm => ?_) (Nat.zero_le _)
  exact mk_of I hm (raises_own T.b T.t) h (I.hok.gone hm.new)
theorem ps_raise0 {W : WX} {p pos pos2 : Pos} (hc : X.calm = true) (T : Xc X.K X.mg nm C) (tk : Takes X W) (hg : Gl X nm) (hdb : (nm == ("__debug__" : Str)) = false := by decide) : PS X (.Raise (some (.Call (.Name nm p) [] [] pos)) none pos2) (fun _ σ H => W (.ref C) none σ H) := ps_raise hc tk (pmk_own0 T hg hdb)
/-- isinstance(e, c), e what the suite holds -/
def rIsX (K : PySem.W.Frag) (D a : Addr) (cls : Value) (d : Option Addr) : List V → Hp → VK → Prop := fun xs H Q => cls = .ref D ∧ d = none ∧ rIsE K D a xs H Q
theorem call_isX {a : Addr} {oe : Obj} {cls : Value} {d : Option Addr} {pn : List (Addr × Obj)} (C : ExcC X.K D) (hz : Zc cls d oe) (hf : ∃ vs, oe.data = .fields vs) : CallR (X.suite a ((a, oe) :: pn)) (.builtin "isinstance") (rIsX X.K D a cls d) := by
  intro pins s σ H xs us Q I r h
  obtain ⟨rfl, rfl, h⟩ := h
  exact call_isE C hz hf pins s σ H xs us Q I r h
end
section
variable {K : PySem.W.Frag} {mg : Str → Option Value} {C D : Addr} {nm : Str} {b : Bool}
theorem Xc.exm (T : Xc K mg nm C) {cls : Value} (h : PySem.W.subIn K cls (.ref C) = some b) : PySem.W.exmOne K cls (.ref C) = some b := PySem.W.exm_ref T.b T.d T.t h
theorem Xc.kit (T : Xc K mg nm C) {cls : Value} (h : PySem.W.subIn K cls (.ref C) = some b) (hn : cls = .ref C → b = true) : PySem.W.kitOne K cls (.ref C) = some b := by
  have e := T.exm h
  unfold PySem.W.exmOne at e
  rw [T.b] at e
  unfold PySem.W.kitOne
  by_cases q : cls = .ref C
  · rw [hn q, q]
    simp
  · rw [if_neg (by simpa using q)]
    simpa using e
end
/-- a try whose suite returns: what the body's calls that return do, what the suite does -/
theorem ev_isX {K : PySem.W.Frag} {D a C : Addr} {σ : L2.St} {H : Hp} {ta tb : TE} {b : Bool} (h : Ev ta σ H (.ref a)) (hn : Ev tb σ H (.ref C)) (hk : PySem.W.kitOne K (.ref D) (.ref C) = some b) : Ev (tCB (rIsX K D a (.ref D) none) (tCons ta (tCons tb tNil))) σ H (.bl b) :=
  ev_cb (ea_cons h (ea_cons hn ea_nil)) fun H1 e Q q => ⟨rfl, rfl, .ref C, .ref C, b, rfl, fun u hu => hu, hk, q H1 (Ex.refl H1)⟩
theorem pass_own {X : Cx} {E : XK} (tk : Takes X (fun cls d _ H => E cls d H)) : Passes (L2.CX X.prog X.w) X E := passes_call tk fun _ _ _ _ h => h
end LX

set_option Elab.async false
set_option linter.all false
set_option maxRecDepth 100000
set_option maxHeartbeats 4000000
namespace LN
open PySem PySem.Spec PyProof.Rows L2 Evl LT LG LS LQ
section
variable {X : Cx} {σ : L2.St} {H : Hp} {P : Addr} {scope : Scope} {x : Str} {u : Value} {a b c : Expr} {za zb zc z : V} {pos p : Pos}
theorem qv_ixL {l : Addr} {xs : List V} {i : Int} (hT : Tab H P) (hq : SqL X.K H l xs) (he : atI xs i = some z) (h0 : 0 ≤ i) (ha : QV X σ H P scope x u a (.ref l)) (hb : QV X σ H P scope x u b (.int i)) (hs : PlainIx b := by intro _ _; rfl) : QV X σ H P scope x u (.Subscript a b pos) z := fun cenv A' E' s m F =>
  Subscript_ (qv_two (f := fun v w => subscriptTail a b v w) ha hb (fun cenv A' E' s2 m2 v w F2 r1 r2 => by
    cases r1
    obtain ⟨t, rfl⟩ := r2
    obtain ⟨its, r, pl, hz⟩ := F2.list hT hq
    obtain ⟨j, h1, h2, h3, h4, h5⟩ := atI_get he
    obtain ⟨w', ew, rw'⟩ := r.get h2
    have hl := r.length
    have hn := line63
    have hj : i.toNat = j := by
      rw [seqIndex_of h0 h5] at h1
      exact Option.some.inj h1
    exact item_listR pl.isList h0 (by omega) (by rw [hj]; simpa using ew) ⟨rw', kp_refl _⟩ (hs _ _)) cenv A' E' s m F)
theorem qv_ixT {l : Addr} {xs : List V} {i : Int} (hT : Tab H P) (hq : SqT X.K H l xs) (he : atI xs i = some z) (ha : QV X σ H P scope x u a (.ref l)) (hb : QV X σ H P scope x u b (.int i)) (hs : PlainIx b := by intro _ _; rfl) : QV X σ H P scope x u (.Subscript a b pos) z := fun cenv A' E' s m F =>
  Subscript_ (qv_two (f := fun v w => subscriptTail a b v w) ha hb (fun cenv A' E' s2 m2 v w F2 r1 r2 => by
    cases r1
    obtain ⟨t, rfl⟩ := r2
    obtain ⟨its, r, pl, hz⟩ := F2.tuple hT hq
    obtain ⟨j, h1, h2, h3, h4, h5⟩ := atI_get he
    obtain ⟨w', ew, rw'⟩ := r.get h2
    have hl := r.length
    have hn := line63
    exact subscriptTail_builtinR (x := w') pl.typeIs slot_tuple_getitem.lookup
      (getItem_tuple (j := j) (Q := fun r s' => r = w' ∧ (RelV z r ∧ Keeps s2 s')) pl (by omega) (by omega) (by rw [List.size_toArray, ← hl]; exact h1) (by simpa using ew) ⟨rfl, rw', kp_refl _⟩) (hs _ _)) cenv A' E' s m F)
theorem qr_ltT {l r : Addr} {ns ms : List Int} (hT : Tab H P) (hu : X.A.units + 8 < cLine) (ha : SqT X.K H l (ns.map V.int)) (hb : SqT X.K H r (ms.map V.int)) : QR X σ H P scope x u (compareOp .Lt) (.ref l) (.ref r) (.bl (HT.lexLt ns ms)) := fun cenv A' E' s m v w F r1 r2 => by
  cases r1
  cases r2
  obtain ⟨its, r1, p1, _⟩ := F.tuple hT ha
  obtain ⟨its2, r2, p2, _⟩ := F.tuple hT hb
  have i1 : IntsAre its.toArray.toList ns := intsAre_of r1
  have i2 : IntsAre its2.toArray.toList ms := intsAre_of r2
  exact HT.lt_tupInts p1 p2 i1 i2 (Nat.lt_of_le_of_lt F.un hu) ⟨rfl, kp_refl _⟩
theorem qr_lt_int {i j : Int} : QR X σ H P scope x u (compareOp .Lt) (.int i) (.int j) (.bl (decide (i < j))) := fun cenv A' E' s m v w F r1 r2 => by
  obtain ⟨t, rfl⟩ := r1
  obtain ⟨t', rfl⟩ := r2
  exact lt_int ⟨rfl, kp_refl _⟩
theorem qv_chain {op op' : CmpOp} {f g : Bool} (hr : QR X σ H P scope x u (compareOp op) za zb (.bl f)) (hr' : QR X σ H P scope x u (compareOp op') zb zc (.bl g)) (ha : QV X σ H P scope x u a za) (hb : QV X σ H P scope x u b zb) (hc : QV X σ H P scope x u c zc)
    (hm : lastMarks [op, op'] [b, c] = false := by with_unfolding_all rfl) : QV X σ H P scope x u (.Compare a [op, op'] [b, c] pos) (.bl (f && g)) := fun cenv A' E' s m F => by
  refine Compare_chain (wpAny_mono (ha cenv A' E' s m F) (fun v s1 r1 => chain_link (wpAny_mono (hb cenv A' E' s1 m (F.keeps r1.2)) (fun w s2 r2 => wpAny_mono (hr cenv A' E' s2 m v w ((F.keeps r1.2).keeps r2.2) r1.1 r2.1) (fun d s3 r3 => ?_) fun _ _ e => e) fun _ _ e => e)) fun _ _ e => e) hm
  obtain ⟨rfl, k3⟩ := r3
  have k := kp_trans (kp_trans r1.2 r2.2) k3
  refine wpAny_truthy_bool ?_
  cases f with
  | false => exact ite_ff ⟨rfl, k⟩
  | true => exact ite_tt (chain_last (wpAny_mono (hc cenv A' E' s3 m (F.keeps k)) (fun y s4 r4 => wpAny_mono (hr' cenv A' E' s4 m w y ((F.keeps k).keeps r4.2) r2.1 r4.1) (fun e s5 r5 => ⟨r5.1, kp_trans (kp_trans k r4.2) r5.2⟩) fun _ _ e => e) fun _ _ e => e))
/-- an own def of one argument, a pair that it unpacks; it returns one test of each part -/
theorem qv_call2 {nm pn qual ya yb : Str} {st : Stmt} {f : Addr} {fd : FuncData} {N : List Str} {e1 e2 : Expr} {py1 py2 tp np ap bp rp : Pos} {kt k : Nat} {t : Addr} {v1 v2 : V} {c1 c2 : Bool} (hr : Room k X.A) (hT : Tab H P) (hk : scope.kind = .function) (hl : scope.names.lookup nm = some .globalImplicit) (hm : X.mg nm = some (.ref f)) (F : Fun X.K nm qual st f fd)
    (hbody : defBody st = [.Assign [.Tuple [.Name ya py1, .Name yb py2] kt tp] (.Name pn np) ap, .Return (some (.BoolOp .And [e1, e2] bp)) rp]) (S : FnScope N [pn] (defScope st)) (hloc : (defScope st).names.lookup pn = some .local) (hla : (defScope st).names.lookup ya = some .local) (hlb : (defScope st).names.lookup yb = some .local) (hab : ya ≠ yb)
    (hb : Binds X.K fd [pn] []) (ha : QV X σ H P scope x u a (.ref t)) (ht : SqT X.K H t [v1, v2])
    (h1 : ∀ (A0 : Around) (v : Value), RelV v1 v → QV { X with A := A0 } σ H P (defScope st) ya v e1 (.bl c1)) (h2 : ∀ (A0 : Around) (v : Value), RelV v2 v → QV { X with A := A0 } σ H P (defScope st) yb v e2 (.bl c2))
    (hs : ∀ env, starEach [a] env = (false, eval a env) :: starEach [] env := by intro _; rfl) (hd : (nm == ("__debug__" : Str)) = false := by decide) (hdp : (pn == ("__debug__" : Str)) = false := by decide) :
    QV X σ H P scope x u (.Call (.Name nm p) [a] [] pos) (.bl (c1 && c2)) := fun cenv A' E' s m Fc0 => by
  refine wpAny_Call_Name_kw (Calls.Name_function_global (by rw [Fc0.sc]; exact hk) (show cenv.scope.names.lookup nm = some .globalImplicit by rw [Fc0.sc]; exact hl) (Calls.loadGlobal_global (by rw [Fc0.gl]; exact Fc0.md.glob.keeps Fc0.base) hm ?_) hd)
  refine PySem.W.callWith_K (h₀ := X.base) Fc0.md.kin F.kp ?_ (hs cenv) (by rfl)
  rw [hs cenv]
  show wpAny _ _ (spliced ((false, eval a cenv) :: [])) _ _ s
  refine Calls.spliced_cons (wpAny_mono (ha cenv A' E' s m Fc0) (fun v s1 r1 => Calls.spliced_nil ?_) fun _ _ e => e)
  have F1 := Fc0.keeps r1.2
  refine ⟨F1.kin, ?_⟩
  obtain ⟨oc, od, kV, doc, pm, an, cdv, ct, osl, rfl, lk, hcd⟩ := F.ex
  have rv := r1.1
  refine wpAny_call (Att.call_fn (binds := [(pn, v)]) F1.kin (F1.md.nolimit.keeps F1.base) lk hcd (by have := hr.dp; have := Fc0.dp; omega) (hb s1 [v] F1.kin rfl) ?_ (fun s2 IC => ?_) S.co S.gen S.kind)
  · simp only [List.all_cons, List.all_nil, Bool.and_true, Bool.or_eq_true, beq_iff_eq]
    exact .inl hloc
  · obtain ⟨h2', tk2, rfl⟩ := IC.toInCall.same
    have kk : ∀ b o, s1.heap.get? b = some o → h2'.get? b = some o := IC.toInCall.keep
    rw [hbody]
    have Fn : Fc { X with A := A' } σ H P (defScope st) pn v (envOfC qual (defScope st) s1.heap.objs.size f cdv) (A'.deeper (envOfC qual (defScope st) s1.heap.objs.size f cdv)) { s1 with heap := h2', toks := tk2 } _ :=
      ⟨Fc0.hd, Nat.le_refl _, by show A'.units + 3 ≤ A'.units + 8; omega, rfl, rfl, rfl, IC.toInCall.ns, by
        show bindL _ [(pn, v)] _ pn = some v
        unfold bindL
        have hkd : (envOfC qual (defScope st) s1.heap.objs.size f cdv).kindOf pn = some .local := hloc
        rw [hkd]
        simp [bindL], fun b o e => kk b o (F1.base b o e), F1.md, F1.hok.kept kk, fun i y w h1 h2 h3 h4 => absurd rfl (S.nofree (y, .free) (lookup_mem' h4))⟩
    cases rv
    obtain ⟨its, ri, tup, _⟩ := Fn.tuple hT ht
    cases ri with
    | cons ra rr =>
      rename_i w1 wr
      cases rr with
      | cons rb rn =>
        rename_i w2 wn
        cases rn
        refine wpAny_execs_cons (Assign_Tuple (wpAny_mono (qv_x (X := { X with A := A' }) S.kind hloc (show RelV (.ref t) (.ref t) from rfl) hdp _ _ _ _ _ Fn) (fun y s3 r3 => ?_) fun _ _ e => e))
        obtain ⟨ry, h3, tk3, rfl, k3⟩ := r3
        cases ry
        refine assign_Tuple_tuple Fn.hd (tup.keeps k3) (by rfl) (by rfl) fun h4 hx4 => ?_
        have kL : ∀ b o, s1.heap.get? b = some o → b ≠ s1.heap.objs.size := fun b o e => Nat.ne_of_lt (Heap.lt_size e)
        have kx : ∀ b o, h3.get? b = some o → h4.get? b = some o := fun b o e => hx4 b o (Nat.ne_of_lt (Heap.lt_size e)) e
        have n4 := ((Fn.keeps ⟨h3, tk3, rfl, k3⟩).keeps (s₃ := { s1 with heap := h4, toks := tk3 }) ⟨h4, tk3, rfl, kx⟩).ns
        refine assignInOrder_cons (assign_Name (wpAny_storeName_local hla n4 (fun h5 n5 b5 => ?_) (by simp [envOfC, S.kind])))
        refine assignInOrder_cons (assign_Name (wpAny_storeName_local hlb n5 (fun h6 n6 b6 => ?_) (by simp [envOfC, S.kind])))
        refine assignInOrder_nil ?_
        have k6 : ∀ b o, s1.heap.get? b = some o → h6.get? b = some o := fun b o e => b6.extBut b o (kL b o e) (b5.extBut b o (kL b o e) (kx b o (k3 b o (kk b o e))))
        have FF : ∀ (y : Str) (w : Value), (if y = yb then some w2 else if y = ya then some w1 else none) = some w → Fc { X with A := A' } σ H P (defScope st) y w (envOfC qual (defScope st) s1.heap.objs.size f cdv) (A'.deeper (envOfC qual (defScope st) s1.heap.objs.size f cdv)) { s1 with heap := h6, toks := tk3 + 1 + 1 } _ := fun y w e => by
          refine ⟨Fc0.hd, Nat.le_refl _, (by show A'.units + 3 ≤ A'.units + 8; omega), rfl, rfl, rfl, n6, ?_, fun b o e => k6 b o (F1.base b o e), F1.md, F1.hok.kept k6, fun i y w h1 h2 h3 h4 => absurd rfl (S.nofree (y, .free) (lookup_mem' h4))⟩
          show (if y = yb then some w2 else if y = ya then some w1 else _) = some w
          by_cases q1 : y = yb
          · rw [if_pos q1] at e ⊢
            exact e
          · rw [if_neg q1] at e ⊢
            by_cases q2 : y = ya
            · rw [if_pos q2] at e ⊢
              exact e
            · rw [if_neg q2] at e
              cases e
        refine wpAny_execs_cons (wpAny_Return_some (BoolOp_and (wpAny_mono (h1 A' w1 ra _ _ _ _ _ (FF ya w1 (by rw [if_neg hab, if_pos rfl]))) (fun y s7 r7 => ?_) fun _ _ e => e)))
        obtain ⟨rfl, k7⟩ := r7
        refine wpAny_truthy_bool ?_
        have kA := kp_trans r1.2 (kp_trans (s1 := { s1 with heap := h6, toks := tk3 + 1 + 1 }) ⟨h6, _, rfl, k6⟩ k7)
        cases c1 with
        | true => exact BoolOp_one (wpAny_mono (h2 A' w2 rb _ _ _ _ _ ((FF yb w2 (if_pos rfl)).keeps k7)) (fun y s8 r8 => ⟨r8.1, kp_trans kA r8.2⟩) fun _ _ e => e)
        | false => exact ⟨rfl, kA⟩
end
/-! ### a list of pairs is walked -/
def SrcT (K : PySem.W.Frag) (H : Hp) (v : V) (n : Nat) (xs : Nat → V) : Prop := ∃ (a : Addr) (l : List V), v = .ref a ∧ SqL K H a l ∧ n = l.length ∧ ∀ i, i < n → ∃ (T : Addr) (y : V), l[i]? = some (.ref T) ∧ SqT K H T [y, xs i]
section
variable {X : Cx} {pins : List (Addr × Obj)} {σ : L2.St} {H : Hp} {s : Shared}
theorem src_iterT {v : V} {xv : Value} {n : Nat} {xs : Nat → V} {P : Addr} {Q : Value → Shared → Prop} {E : Value → Shared → Prop} (S : SrcT X.K H v n xs) (I : Inv X pins σ H s) (r : RelV v xv) (hT : Tab H P)
    (h : ∀ (o : Obj) (fp : List Addr) (Pf : Nat → Array Value → Prop) (St : Nat → Heap → Prop) (Mid : Nat → Addr → Heap → Prop), (∀ i va vb, Pf i #[va, vb] → i < n ∧ RelV (xs i) vb) → (∀ A' : Around, A'.handled = none → WalksU X.prog X.w A' s.heap.objs.size fp [s.heap.objs.size] n Pf St Mid) → (∀ i vals, Pf i vals → ∃ va vb, vals = #[va, vb]) →
      St 0 (s.heap.push o) → (∀ b ∈ fp, b ≤ s.heap.objs.size ∧ b ≠ P) → Q (.ref s.heap.objs.size) { s with heap := s.heap.push o }) : wpAny (model X.prog X.w) X.A (pyIter xv) Q E s := by
  have Plt : P < s.heap.objs.size := Heap.lt_size (hT.of_ok I.hok).choose_spec.1
  have szP : s.heap.objs.size ≠ P := fun z => Nat.lt_irrefl _ (z ▸ Plt : s.heap.objs.size < s.heap.objs.size)
  obtain ⟨a, l, rfl, hl, rfl, hx⟩ := S
  cases r
  obtain ⟨its, rv, pl, _⟩ := I.list hl
  have hal : a < s.heap.objs.size := let ⟨_, e, _⟩ := pl.isList; Heap.lt_size e
  have naP : a ≠ P := fun e => by
    obtain ⟨ps, e1, _⟩ := hT.of_ok I.hok
    obtain ⟨o, n, e2, e3, _, e4⟩ := pl
    rw [e, e1] at e2
    cases e2
    cases e3
  have hne : a ≠ s.heap.objs.size := Nat.ne_of_lt hal
  have en : its.toArray.size = l.length := by rw [List.size_toArray]; exact rv.length.symm
  have ev : ∀ i : Nat, ∃ (T : Addr) (va vb : Value), i < l.length → its.toArray[i]? = some (.ref T) ∧ IsTup s.heap T #[va, vb] ∧ RelV (xs i) vb := fun i => by
    by_cases hi : i < l.length
    · obtain ⟨T, y, e1, e2⟩ := hx i hi
      obtain ⟨w, ew, rw'⟩ := rv.get e1
      cases rw'
      obtain ⟨js, rj, tj, _⟩ := I.tuple e2
      cases rj with
      | cons ra rr =>
        rename_i w1 wr
        cases rr with
        | cons rb rn =>
          rename_i w2 wn
          cases rn
          exact ⟨T, w1, w2, fun _ => ⟨by simpa using ew, tj, rb⟩⟩
    · exact ⟨0, .none, .none, fun h => absurd h hi⟩
  refine wpAny_pyIter_list pl.isList ?_
  let Ts : Nat → Addr := fun i => (ev i).choose
  let va : Nat → Value := fun i => (ev i).choose_spec.choose
  let vb : Nat → Value := fun i => (ev i).choose_spec.choose_spec.choose
  have sp : ∀ i, i < l.length → its.toArray[i]? = some (.ref (Ts i)) ∧ IsTup s.heap (Ts i) #[va i, vb i] ∧ RelV (xs i) (vb i) := fun i => (ev i).choose_spec.choose_spec.choose_spec
  have tlt : ∀ i, i < l.length → Ts i < s.heap.objs.size := fun i hi => (sp i hi).2.1.lt
  have tnP : ∀ i, i < l.length → Ts i ≠ P := fun i hi e => by
    obtain ⟨ps, e1, _⟩ := hT.of_ok I.hok
    obtain ⟨o, e2, e3, _⟩ := (sp i hi).2.1
    rw [e, e1] at e2
    cases e2
    cases e3
  refine h _ (s.heap.objs.size :: a :: (List.range its.toArray.size).map Ts) (fun j v => j < l.length ∧ v = #[va j, vb j]) (fun j h => h.IsListIter s.heap.objs.size a j ∧ h.IsList a its.toArray ∧ ∀ k, k < its.toArray.size → h.IsTuple (Ts k) #[va k, vb k]) (fun j T h => (j < its.toArray.size ∧ T = Ts j) ∧ h.IsListIter s.heap.objs.size a (j + 1) ∧ h.IsList a its.toArray ∧ ∀ k, k < its.toArray.size → h.IsTuple (Ts k) #[va k, vb k]) (fun i wa wb hp => ?_) (fun A' hA => ?_) (fun i vals hp => ⟨_, _, hp.2⟩) ⟨⟨_, Heap.get?_push_size _ rfl, rfl, rfl⟩, pl.isList.at fun o e => Heap.get?_push_of_some _ e, fun k hk => ?_⟩ fun b hb => ?_
  · obtain ⟨hi, e⟩ := hp
    have e2 : wb = vb i := (by simpa using congrArg Array.toList e : wa = va i ∧ wb = vb i).2
    rw [e2]
    exact ⟨hi, (sp i hi).2.2⟩
  · have W := WalksU.listOfTuples (prog := X.prog) (w := X.w) hA s.heap.objs.size a hne its.toArray Ts (fun i => #[va i, vb i]) (fun j hj => (sp j (by rw [← en]; exact hj)).1) (fun j hj => Nat.ne_of_lt (tlt j (by rw [← en]; exact hj)))
    rw [← en]
    exact ⟨W.sub, W.frame, fun i s Q E hi st hQ => W.item i s Q E hi st fun T vals h' tk hv => hQ T vals h' tk ⟨hi, hv⟩, W.go, W.apart, W.done, W.self⟩
  · exact Heap.IsTuple.at ((sp k (by rw [← en]; exact hk)).2.1) fun o e => Heap.get?_push_of_some _ e
  · rcases List.mem_cons.mp hb with e | hb
    · rw [e]
      exact ⟨Nat.le_refl _, szP⟩
    · rcases List.mem_cons.mp hb with e | hb
      · rw [e]
        exact ⟨Nat.le_of_lt hal, naP⟩
      · obtain ⟨i, hi, rfl⟩ := List.mem_map.mp hb
        have hi' : i < l.length := by rw [← en]; exact List.mem_range.mp hi
        exact ⟨Nat.le_of_lt (tlt i hi'), tnP i hi'⟩
theorem gen_makeT {c P : Addr} {elt iter : Expr} {xa x : Str} {pa px pt gpos : Pos} {kt : Nat} {scope : Scope} {te : TE} {k : Nat} {Q' : Value → Shared → Prop} {R : Nat → (Nat → Bool) → Hp → Prop}
    (hr : Room k X.A) (TB : LamX.TabB X.base X.mg c P) (hcode : X.env.code = .ref c) (S : GxR.GenS X.env scope x) (hxa : scope.names.lookup xa = some .local) (hab : xa ≠ x) (hi : PE X iter te) (hs : ∀ v, genFold iter X.env v = pure v) (I : Inv X pins σ H s)
    (h : te σ H fun v H1 => Tab H1 P ∧ ∃ (n : Nat) (xs : Nat → V) (f : Nat → Bool), SrcT X.K H1 v n xs ∧ (∀ i u, i < n → RelV (xs i) u → QV X σ H1 P scope x u elt (.bl (f i))) ∧ R n f H1)
    (hQ : ∀ n f H1 g s5, R n f H1 → RdyG X pins σ H1 n f g s5 → Q' (.ref g) s5) :
    wpAny (model X.prog X.w) X.A (eval (.GeneratorExp elt [⟨.Tuple [.Name xa pa, .Name x px] kt pt, iter, [], 0⟩] scope gpos) X.env) Q' X.xe s := by
  refine wpAny_GeneratorExp_walksQTD hr.hd S.co (closure_ok S.free) S.cell S.dot hxa S.loc hab S.kind hr.depth ?_ hs
  refine thn (hi.run pins s σ H _ I h) fun xv s1 ⟨v, H1, I1, r1, hT, n, xs, f, hsrc, hel, hR⟩ => ?_
  refine src_iterT hsrc I1 r1 hT fun o fp Pf St Mid hPf hW hsz2 hst hfp => ?_
  obtain ⟨ps, hPs, ht⟩ := hT.of_ok I1.hok
  have hPlt : P < s1.heap.objs.size := Heap.lt_size hPs
  have hP2 : (s1.heap.push o).get? P = some { cls := .none, data := .fields ps } := Heap.get?_push_of_some _ hPs
  have cd : PySem.W.CodeHd (s1.heap.push o) c P := TB.code.keeps fun b u e => Heap.get?_push_of_some _ (I1.bk b u e)
  have lim2 : (s1.heap.push o).NoLimit := I1.nolimit.push o
  have hcP : cStatics ≠ P := fun e => by
    obtain ⟨_, ⟨o', es, ep, ho, hd, _⟩, _⟩ := I1.nolimit
    rw [e, hPs] at ho
    cases ho
    cases hd
  have hcl : cStatics < s1.heap.objs.size := let ⟨_, hns, _⟩ := I1.nolimit; hns.lt
  have sz2 : (s1.heap.push o).objs.size = s1.heap.objs.size + 1 := Heap.size_push ..
  have nTb : ∀ b, H1 b = none → b ≠ P := fun b e z => by
    rw [z, hT] at e
    cases e
  -- what is left once the code object is known
  have go : ∀ (code : Value) (h3 : Heap) (tk : Nat) (ps' : Array Value), Heap.ExtBut P (s1.heap.push o) h3 → (s1.heap.push o).objs.size ≤ h3.objs.size → h3.get? P = some { cls := .none, data := .fields ps' } → TriplesOk ps'.toList →
      wpAny (model X.prog X.w) X.A (builtinsFor X.env.globals X.env.builtins) (fun bi s₄ => ∃ I fp wr n₀ Pg St₀ Mid pz F, Value.ref s1.heap.objs.size = .ref I ∧ (∀ A' : Around, A'.handled = none → WalksU X.prog X.w A' I fp wr n₀ Pg St₀ Mid) ∧ (∀ i vals, Pg i vals → ∃ va vb, vals = #[va, vb]) ∧ St₀ 0 s₄.heap ∧ (∀ b ∈ fp, b < s₄.heap.objs.size) ∧ s₄.heap.NoLimit ∧ cStatics ∉ wr ∧
          (∀ href : Heap, (∀ b o, s₄.heap.get? b = some o → href.get? b = some o) → QuietGenTD X.prog X.w (genEnv scope (cloFrom X.env.cells scope.names []) s₄.heap.objs.size code bi X.env) xa x [] elt (List.range s₄.heap.objs.size) wr Pg pz F href (X.A.depth + 1) (X.A.units + 8)) ∧
          (∀ a h₅ tk gs, gs.bare = true → s₄.heap.objs.size < a → h₅.objs.size = a + 1 → (∀ b o, s₄.heap.get? b = some o → h₅.get? b = some o) →
            WalksS X.prog X.w X.A.in4 a (a :: s₄.heap.objs.size :: List.range s₄.heap.objs.size) (s₄.heap.objs.size :: wr) (GenOnlyQ s₄.gens.size) (passing pz n₀ 0).length (fun j y => ∃ i, (passing pz n₀ 0)[j]? = some i ∧ F i y) (GenAt X.prog X.w X.A.in4 a s₄.gens.size s₄.heap.objs.size (List.range s₄.heap.objs.size) wr pz n₀ F) →
            GenAt X.prog X.w X.A.in4 a s₄.gens.size s₄.heap.objs.size (List.range s₄.heap.objs.size) wr pz n₀ F 0 { s₄ with gens := s₄.gens.push gs, toks := tk, heap := h₅ } →
            Q' (.ref a) { s₄ with gens := s₄.gens.push gs, toks := tk, heap := h₅ })) X.xe { s1 with heap := h3, toks := tk } := by
    intro code h3 tk ps' hx hsz hP3 ht3
    obtain ⟨bm, ob, e1, e2, e3, e4, e5, e6, e7, e8⟩ := TB.bm
    have keep3 : ∀ b u, b ≠ P → s1.heap.get? b = some u → h3.get? b = some u := fun b u hb e => hx b u hb (Heap.get?_push_of_some _ e)
    refine wpAny_builtinsFor (m := X.mg) (by rw [I1.ok.glob]; exact ((I1.mod.glob.keeps I1.bk).push o).extBut hx TB.gP) e1 e2 (keep3 _ _ e4 (I1.bk _ _ e5)) e6 e7 e8 ?_
    have hsz3 : s1.heap.objs.size < h3.objs.size := by omega
    refine ⟨s1.heap.objs.size, fp, [s1.heap.objs.size], n, Pf, St, Mid, fun _ => true, fun i y => y = .bool (f i), rfl, hW, hsz2, ?_, fun b hb => Nat.lt_of_le_of_lt (hfp b hb).1 hsz3, lim2.extBut hx hcP, ?_, ?_, ?_⟩
    · exact (hW X.A hr.hd).frame _ _ _ hst fun b hb u e => hx b u (hfp b hb).2 e
    · intro z
      rw [List.mem_singleton.mp z] at hcl
      exact Nat.lt_irrefl _ hcl
    · intro href hhref
      refine ⟨fun A' E' i va v s₂ m₂ hA hD hU hPv hn hma hm hk => ?_, fun A' E' i va v s₂ m₂ hA hD hU hPv hp hn hma hm hk => ?_⟩
      · simp only [List.forIn_nil]
        exact wpAny_pure ⟨rfl, kp_refl _⟩
      · have kept : ∀ b u, b ≠ P → s1.heap.get? b = some u → s₂.heap.get? b = some u := fun b u hb e => by
          have hlt := Heap.lt_size e
          refine hk b (List.mem_range.mpr ?_) (fun z => ?_) u (hhref b u (keep3 b u hb e))
          · show b < h3.objs.size
            exact Nat.lt_trans hlt hsz3
          · rw [List.mem_singleton.mp z] at hlt
            exact Nat.lt_irrefl _ hlt
        refine wpAny_mono (hel i v (hPf i va v hPv).1 (hPf i va v hPv).2 _ A' E' s₂ m₂ ⟨hA, hD, hU, rfl, I1.ok.glob, rfl, hn, hm, fun b u e => kept b u (nTb b (I1.bs b u e).2) (I1.bk b u e), I1.mod, fun b u e => ?_, fun j y w hN hσ hv hfr => ?_⟩) (fun y s3 r => ⟨r.1, r.2⟩) fun _ _ e => e
        · have hb : b ≠ P := fun z => by
            rw [z] at e
            unfold but at e
            rw [if_pos rfl] at e
            cases e
          rw [but_ne hb] at e
          refine (I1.hok b u e).stay (fun d w hd q => kept d w ?_ q) (fun d q => ?_) fun d ys q => ?_
          · rcases hd with z | z
            · rw [z]
              exact hb
            · intro e2
              rw [e2, hT] at z
              cases z
          · rw [but_ne fun e2 => by rw [e2, hT] at q; cases q]
            exact q
          · rw [but_ne fun e2 => by rw [e2, hT] at q; cases q]
            exact q
        · obtain ⟨m, hn1, hl⟩ := I1.loc
          obtain ⟨r, rv, l⟩ := hl j y w hN hσ (hv.elim (fun z => Or.inr (Or.inl z)) (fun z => Or.inr (Or.inr z)))
          rcases l with ⟨z, _⟩ | ⟨_, cc, hc, oc, he, hd⟩
          · rcases hv with z2 | z2
            · rw [z] at z2; cases z2
            · rw [z] at z2; cases z2
          · exact ⟨r, cc, rv, clo_lookup (lookup_mem' hfr) hc, oc, kept cc oc (nTb cc (I1.freeC y cc hc)) he, hd⟩
    · intro g h5 tk5 gs hgb hag hsz5 hk5 W5 hat
      simp only [GxR.passing_true, List.length_range] at W5
      refine hQ n f H1 g _ hR ⟨_, _, _, _, _, W5.in4_1, hat, fun j y sj Qj Ej hy hQj => ?_, fun s' hm => ?_⟩
      · obtain ⟨i, hij, rfl⟩ := hy
        obtain ⟨hj, ej⟩ := List.getElem?_eq_some_iff.mp hij
        rw [List.getElem_range] at ej
        subst ej
        exact wpAny_truthy_bool hQj
      · have nwr : ∀ b u, s1.heap.get? b = some u → b ∉ h3.objs.size :: [s1.heap.objs.size] := fun b u e hb => by
          have hl := Heap.lt_size e
          rcases List.mem_cons.mp hb with z | z
          · rw [z] at hl
            exact Nat.lt_irrefl _ (Nat.lt_trans hl hsz3)
          · rw [List.mem_singleton.mp z] at hl
            exact Nat.lt_irrefl _ hl
        exact inv_grown I1 hT (fun b u hb e => hm.heap b u (nwr b u e) (hk5 b u (keep3 b u hb e))) ⟨ps', hm.heap P _ (nwr P _ hPs) (hk5 P _ hP3), ht3⟩ hm.os (AllBare.movedS (I1.bare.push hgb) hm)
  refine ⟨lim2, ?_⟩
  cases hf : codeAmong gpos ps.toList with
  | some cv => exact wpAny_genexprCode_hit hcode (cd.code hP2 ht) hf (go cv (s1.heap.push o) s1.toks ps (Heap.ExtBut.refl _ _) (Nat.le_refl _) hP2 ht)
  | none =>
    refine wpAny_genexprCodeX hcode (cd.code hP2 ht) (cd.tab hP2) hf fun c' h' tk hx hge hlt hco' _ htab' _ => ?_
    obtain ⟨_, _, _, _, _, _, _, _, _, _, _, _, _, _, _, _, _, _, _, htr, _⟩ := hco'
    exact go _ h' tk _ hx (Nat.le_trans hge (Nat.le_of_lt hlt)) htab'.2 htr
def tGenT (X : Cx) (P : Addr) (scope : Scope) (x : Str) (elt : Expr) (fin : Nat → (Nat → Bool) → Bool) (te : TE) : TE := fun σ H Q => te σ H fun v H1 => Tab H1 P ∧ ∃ (n : Nat) (xs : Nat → V) (f : Nat → Bool), SrcT X.K H1 v n xs ∧ (∀ i u, i < n → RelV (xs i) u → QV X σ H1 P scope x u elt (.bl (f i))) ∧ Q (.bl (fin n f)) H1
theorem pe_allT {c P : Addr} {elt iter : Expr} {xa x : Str} {pa px pt p pos gpos : Pos} {kt : Nat} {scope : Scope} {te : TE} {k : Nat} (hr : Room k X.A) (hg : Gl X "all") (hm : X.mg "all" = none) (hb : bootBuiltins "all" = some (.builtin "all")) (TB : LamX.TabB X.base X.mg c P) (hcode : X.env.code = .ref c) (S : GxR.GenS X.env scope x) (hxa : scope.names.lookup xa = some .local) (hab : xa ≠ x)
    (hi : PE X iter te) (hs : ∀ v, genFold iter X.env v = pure v)
    (he : starEach [.GeneratorExp elt [⟨.Tuple [.Name xa pa, .Name x px] kt pt, iter, [], 0⟩] scope gpos] X.env = (false, eval (.GeneratorExp elt [⟨.Tuple [.Name xa pa, .Name x px] kt pt, iter, [], 0⟩] scope gpos) X.env) :: starEach [] X.env := by rfl) :
    PE X (.Call (.Name "all" p) [.GeneratorExp elt [⟨.Tuple [.Name xa pa, .Name x px] kt pt, iter, [], 0⟩] scope gpos] [] pos) (tGenT X P scope x elt allF te) := by
  refine ⟨fun pins s σ H Q I h => wpAny_Call_Name_kw (ld_blt I hg hm hb (PyProof.Rows.callWith_builtin1 ?_ he (by rfl)))⟩
  rw [he]
  show wpAny _ _ (spliced ((false, eval (.GeneratorExp elt [⟨.Tuple [.Name xa pa, .Name x px] kt pt, iter, [], 0⟩] scope gpos) X.env) :: backTo pos (starEach [] X.env))) _ _ s
  refine Calls.spliced_cons (gen_makeT (R := fun n f H1 => Q (.bl (allF n f)) H1) hr TB hcode S hxa hab hi hs I h fun n f H1 g s5 hR ⟨fp, wr, G, F, St₁, W, hst, htr, hI⟩ => Calls.spliced_nil ?_)
  exact call_all_walkS (W.self 0 _ _ _ hst ⟨g, fp, wr, G, _, F, St₁, _, rfl, W, hst, htr, fun s' hmv => ⟨.bl _, H1, hI s' hmv, rfl, hR⟩⟩)
end
section
variable {X : Cx}
theorem cr_range1 : CallR X (.type "range") (fun vs H Q => ∃ i, vs = [V.int i] ∧ ∀ p, H p = none → Q (.ref p) (upd H p (.rng 0 i))) := by
  intro pins s σ H vs us Q I r h
  obtain ⟨i, rfl, q⟩ := h
  cases r with
  | cons ri rn =>
    cases rn
    obtain ⟨t, rfl⟩ := ri
    refine call_range_1 ⟨.ref s.heap.objs.size, upd H s.heap.objs.size (.rng 0 i), I.laid (t' := _) (fun b o e => Heap.get?_push_of_some _ e) (Nat.le_refl _) ?_, rfl, q _ (I.hok.fresh (Nat.le_refl _))⟩
    exact ⟨_, _, _, Heap.get?_push_size _ rfl⟩
end
section
variable {K : PySem.W.Frag} {σ : L2.St} {H : Hp} {ta tb tc te : TE}
theorem ev_chain {f g : Int → Int → Bool} {i j k : Int} (ha : Ev ta σ H (.int i)) (hb : Ev tb σ H (.int j)) (hc : Ev tc σ H (.int k)) : Ev (tChain (rI0 fun i j => .bl (f i j)) (rI0 fun i j => .bl (g i j)) ta tb tc) σ H (.bl (f i j && g j k)) := fun H1 e Q q =>
  ha H1 e _ fun H2 e2 => hb H2 (e.trans e2) _ fun H3 e3 => ⟨i, j, rfl, rfl, f i j, rfl, by
    cases hf : f i j with
    | true =>
      rw [if_pos rfl]
      refine hc H3 ((e.trans e2).trans e3) _ fun H4 e4 => ⟨j, k, rfl, rfl, ?_⟩
      have := q H4 ((e2.trans e3).trans e4)
      rw [hf] at this
      exact this
    | false =>
      rw [if_neg Bool.false_ne_true]
      have := q H3 (e2.trans e3)
      rw [hf] at this
      exact this⟩
variable {X : Cx} {P : Addr} {scope : Scope} {x : Str} {elt : Expr} {fin : Nat → (Nat → Bool) → Bool}
/-- a generator expression over range(n) -/
theorem ev_genR {n : Int} {f : Nat → Bool} (h : Ev te σ H (.int n)) (hb : -(2 ^ 62) ≤ n ∧ n < 2 ^ 62) (hT : Tab H P) (he : ∀ H1, Ex H H1 → ∀ (i : Nat) u, (i : Int) < n → RelV (.int (i : Int)) u → QV X σ H1 P scope x u elt (.bl (f i))) :
    Ev (tGen X P scope x elt fin (tCB (fun vs H Q => ∃ i, vs = [V.int i] ∧ ∀ p, H p = none → Q (.ref p) (upd H p (.rng 0 i))) (tCons te tNil))) σ H (.bl (fin n.toNat f)) := fun H1 e Q q =>
  h H1 e _ fun H2 e2 => ⟨n, rfl, fun p hp => by
    have e3 := Ex.new (o := HO.rng 0 n) hp
    refine ⟨((hT.mono e).mono e2).mono e3, n.toNat, fun i => .int (0 + (i : Int)), f, .inr (.inr ⟨p, 0, n, rfl, upd_same, by rw [Int.sub_zero], by decide, by decide, hb.1, hb.2, fun i => rfl⟩), fun i u hi hu => he _ ((e.trans e2).trans e3) i u (by omega) (by have hu2 : RelV (.int (0 + (i : Int))) u := hu; rw [Int.zero_add] at hu2; exact hu2), q _ (e2.trans e3)⟩⟩
/-- a generator expression over a new list -/
theorem ev_genL {xs : List V} {f : Nat → Bool} (h : EvL te σ H xs) (hT : Tab H P) (he : ∀ H1, Ex H H1 → ∀ i u, i < xs.length → RelV (xs.getD i .non) u → QV X σ H1 P scope x u elt (.bl (f i))) :
    Ev (tGen X P scope x elt fin te) σ H (.bl (fin xs.length f)) := fun H1 e Q q =>
  h H1 e _ fun p H2 hp e2 h2 => ⟨hT.mono (e.trans e2), xs.length, fun i => xs.getD i .non, f, .inl ⟨p, xs, rfl, sq_of h2, rfl, fun i => rfl⟩, fun i u hi hu => he H2 (e.trans e2) i u hi hu, q H2 e2⟩
/-- over a list of pairs -/
theorem ev_genT {v : V} {n : Nat} {xs : Nat → V} {f : Nat → Bool} (h : Ev te σ H v) (hT : Tab H P) (hs : ∀ H1, Ex H H1 → SrcT X.K H1 v n xs) (he : ∀ H1, Ex H H1 → ∀ i u, i < n → RelV (xs i) u → QV X σ H1 P scope x u elt (.bl (f i))) :
    Ev (tGenT X P scope x elt fin te) σ H (.bl (fin n f)) := fun H1 e Q q => h H1 e _ fun H2 e2 => ⟨hT.mono (e.trans e2), n, xs, f, hs H2 (e.trans e2), he H2 (e.trans e2), q H2 e2⟩
/-- tuple(new list) -/
theorem eu_tupL {xs : List V} (h : EvL te σ H xs) : EvU (tCB (fun zs H Q => ∃ p ys, zs = [.ref p] ∧ ((SqL K H p ys ∧ ∀ l, H l = none → Q (.ref l) (upd H l (.tup ys))) ∨ (SqT K H p ys ∧ Q (.ref p) H))) (tCons te tNil)) σ H xs := fun H1 e Q q =>
  h H1 e _ fun p H2 hp e2 h2 => ⟨p, xs, rfl, .inl ⟨sq_of h2, fun l hl => q l _ (fresh_back e2 hl) (e2.trans (Ex.new hl)) upd_same⟩⟩
end
end LN

set_option Elab.async false
set_option linter.all false
set_option maxRecDepth 100000
set_option maxHeartbeats 4000000
namespace LK
open PySem PySem.Spec PyProof.Rows L2 Evl

/-! ### data that == serves -/
def Sh (n : Nat) (d : PyData) : Prop := d.canLay0 = true ∧ d.depth ≤ n
theorem sh_int (i : Int) (n : Nat := 0) : Sh n (.int i) := ⟨by simp [PyData.canLay0], by simp [PyData.depth]⟩
theorem sh_bool (b : Bool) (n : Nat := 0) : Sh n (.bool b) := ⟨by simp [PyData.canLay0], by simp [PyData.depth]⟩
theorem sh_none (n : Nat := 0) : Sh n .none := ⟨by simp [PyData.canLay0], by simp [PyData.depth]⟩
theorem sh_all {n : Nat} : ∀ {ds : List PyData}, (∀ d ∈ ds, Sh n d) → PyData.canLayAll0 ds = true ∧ PyData.depthAll ds ≤ n
  | [], _ => ⟨by simp [PyData.canLayAll0], by simp [PyData.depthAll]⟩
  | d :: ds, h => by
    obtain ⟨h1, h2⟩ := h d List.mem_cons_self
    obtain ⟨h3, h4⟩ := sh_all fun e he => h e (List.mem_cons_of_mem _ he)
    refine ⟨?_, ?_⟩
    · rw [PyData.canLayAll0, h1, h3]
      rfl
    · rw [PyData.depthAll]
      omega
theorem sh_tup {n : Nat} {ds : List PyData} (h : ∀ d ∈ ds, Sh n d) : Sh (n + 1) (.tuple ds) := by
  obtain ⟨h1, h2⟩ := sh_all h
  refine ⟨?_, ?_⟩
  · rw [PyData.canLay0]
    exact h1
  · rw [PyData.depth]
    omega
theorem sh_lst {n : Nat} {ds : List PyData} (h : ∀ d ∈ ds, Sh n d) : Sh (n + 1) (.list ds) := by
  obtain ⟨h1, h2⟩ := sh_all h
  refine ⟨?_, ?_⟩
  · rw [PyData.canLay0]
    exact h1
  · rw [PyData.depth]
    omega
theorem Sh.up {n m : Nat} {d : PyData} (h : Sh n d) (e : n ≤ m) : Sh m d := ⟨h.1, Nat.le_trans h.2 e⟩
theorem Sh.shaped {n : Nat} {d : PyData} (h : Sh n d) (e : n ≤ 64) : SeqAt.shaped d = true := by
  unfold SeqAt.shaped
  rw [h.1, decide_eq_true (Nat.le_trans h.2 e)]
  rfl
theorem Sh.refl {n : Nat} {d : PyData} (h : Sh n d) : PyData.eqv d d = true := SeqAt.eqv_refl d h.1
theorem sh_ints (ns : List Int) : ∀ d ∈ ns.map PyData.int, Sh 0 d := fun d hd => by
  obtain ⟨i, _, rfl⟩ := List.mem_map.mp hd
  exact sh_int i
section
variable {K : PySem.W.Frag} {H H' : Hp}
theorem dp_ints : ∀ ns : List Int, DpAll K H (ns.map V.int) (ns.map PyData.int)
  | [] => .nil
  | n :: r => .cons (.int n) (dp_ints r)
mutual
theorem dp_mono (e : Ex H H') : ∀ {v : V} (d : PyData), Dp K H v d → Dp K H' v d
  | _, .none, h => by cases h; exact .non
  | _, .bool b, h => by cases h; exact .bl b
  | _, .int i, h => by cases h; exact .int i
  | _, .str x, h => by cases h; exact .str x
  | _, .list ds, h => by
    cases h with
    | lst h1 h2 => exact .lst (ex_l e h1) (dpa_mono e ds h2)
  | _, .tuple ds, h => by
    cases h with
    | tup h1 h2 => exact .tup (ex_t e h1) (dpa_mono e ds h2)
  | _, .dict _, h => by cases h
theorem dpa_mono (e : Ex H H') : ∀ {vs : List V} (ds : List PyData), DpAll K H vs ds → DpAll K H' vs ds
  | _, [], h => by cases h; exact .nil
  | _, d :: ds, h => by
    cases h with
    | cons h1 h2 => exact .cons (dp_mono e d h1) (dpa_mono e ds h2)
end
/-- two values of the same data: == True, != False -/
theorem rv_eqD {x y : V} {d : PyData} {n : Nat} (hx : Dp K H x d) (hy : Dp K H y d) (s : Sh n d) (hn : n ≤ 64) : RV (rEqD K) x y H (.bl true) := rv_val fun H1 e Q q =>
  ⟨d, d, dp_mono e d hx, dp_mono e d hy, s.shaped hn, s.shaped hn, by rw [s.refl]; exact q⟩
theorem rv_neD {x y : V} {d : PyData} {n : Nat} (hx : Dp K H x d) (hy : Dp K H y d) (s : Sh n d) (hn : n ≤ 64) : RV (rNeD K) x y H (.bl false) := rv_val fun H1 e Q q =>
  ⟨d, d, dp_mono e d hx, dp_mono e d hy, s.shaped hn, s.shaped hn, by rw [s.refl]; exact q⟩
/-- of any two data -/
theorem rv_neDD {x y : V} {d f : PyData} {n : Nat} (hx : Dp K H x d) (hy : Dp K H y f) (s : Sh n d) (s' : Sh n f) (hn : n ≤ 64) : RV (rNeD K) x y H (.bl (!PyData.eqv d f)) := rv_val fun H1 e Q q =>
  ⟨d, f, dp_mono e d hx, dp_mono e f hy, s.shaped hn, s'.shaped hn, q⟩
theorem rv_eqDD {x y : V} {d f : PyData} {n : Nat} (hx : Dp K H x d) (hy : Dp K H y f) (s : Sh n d) (s' : Sh n f) (hn : n ≤ 64) : RV (rEqD K) x y H (.bl (PyData.eqv d f)) := rv_val fun H1 e Q q =>
  ⟨d, f, dp_mono e d hx, dp_mono e f hy, s.shaped hn, s'.shaped hn, q⟩
theorem rv_ltT {a b : Addr} {ns ms : List Int} (ha : SqT K H a (ns.map V.int)) (hb : SqT K H b (ms.map V.int)) : RV (rLtT K) (.ref a) (.ref b) H (.bl (HT.lexLt ns ms)) := rv_val fun H1 e Q q =>
  ⟨a, b, ns, ms, rfl, rfl, ex_t e ha, ex_t e hb, q⟩
def leV (ns ms : List Int) : Bool := Ob.lexAt (fun j => decide (ns.getD j 0 = ms.getD j 0)) (fun j => decide (ns.getD j 0 ≤ ms.getD j 0)) (decide (ns.length ≤ ms.length)) 0 (min ns.length ms.length)
theorem rv_leT {a b : Addr} {ns ms : List Int} (ha : SqT K H a (ns.map V.int)) (hb : SqT K H b (ms.map V.int)) : RV (rLeT K) (.ref a) (.ref b) H (.bl (leV ns ms)) := rv_val fun H1 e Q q =>
  ⟨a, b, ns, ms, rfl, rfl, ex_t e ha, ex_t e hb, q⟩

/-! ### reading a cell of the script -/
def cellv (ns : List Int) (k : Nat) : Int := ns.getD k 0
theorem cellv_in {ns : List Int} {k : Nat} (hk : k < ns.length) : (ns.map V.int)[k]? = some (.int (cellv ns k)) := by
  rw [List.getElem?_map, List.getElem?_eq_getElem hk]
  unfold cellv
  rw [List.getD_eq_getElem?_getD, List.getElem?_eq_getElem hk]
  rfl
theorem cellv_out {ns : List Int} {k : Nat} (hk : ns.length ≤ k) : cellv ns k = 0 := by
  unfold cellv
  rw [List.getD_eq_getElem?_getD, List.getElem?_eq_none hk]
  rfl
def spCel (K : PySem.W.Frag) : Sp := fun vs H Q _ => ∃ (a : Addr) (ns : List Int) (k : Nat), vs = [.ref a, .int (k : Int)] ∧ SqL K H a (ns.map V.int) ∧ RetV (.int (cellv ns k)) H Q
theorem sv_cell {a : Addr} {ns : List Int} {k : Nat} {z : Int} (h : SqL K H a (ns.map V.int)) (e : z = (k : Int)) : SpV (spCel K) [.ref a, .int z] H (.int (cellv ns k)) := fun H1 e1 Q q E =>
  ⟨a, ns, k, by rw [e], ex_l e1 h, fun H2 e2 => q H2 e2⟩
end
end LK

namespace K10
open PySem PySem.Spec PyProof.Rows L2 Evl LK LT LG LS LQ LX LN
structure Txt (mg : Str → Option Value) (K : PySem.W.Frag) (aK : Addr) : Prop where
  len : mg "len" = none
  range : mg "range" = none
  all : mg "all" = none
  any : mg "any" = none
  tuple : mg "tuple" = none
  list : mg "list" = none
  isinstance : mg "isinstance" = none
  ValueError : mg "ValueError" = none
  gLEAF : ∃ t, mg "LEAF" = some (.int 1 t)
  gINNER : ∃ t, mg "INNER" = some (.int 2 t)
  gLEAF_ITEMS : ∃ t, mg "LEAF_ITEMS" = some (.int 4 t)
  gINNER_ITEMS : ∃ t, mg "INNER_ITEMS" = some (.int 5 t)
  gLEAF_ITEM_WORDS : ∃ t, mg "LEAF_ITEM_WORDS" = some (.int 7 t)
  gINNER_ITEM_WORDS : ∃ t, mg "INNER_ITEM_WORDS" = some (.int 5 t)
  gKEY_WORDS : ∃ t, mg "KEY_WORDS" = some (.int 3 t)
  gFIRST_ITEM : ∃ t, mg "FIRST_ITEM" = some (.int 4 t)
  gFIRST_BLOCK : ∃ t, mg "FIRST_BLOCK" = some (.int 5 t)
  gMAX_BLOCKS : ∃ t, mg "MAX_BLOCKS" = some (.int 256 t)
def top (i : Nat) : Stmt := PySem.Challenge.pw_laminae_k10_blocks_that_are_no_nodes.main.body.getD i (.Pass ⟨0, 0, 0, 0⟩)
abbrev sMost : Stmt := top 15
theorem scMost : FnScope ["kind"] ["kind"] (defScope sMost) := ⟨rfl, rfl, rfl, by decide +kernel, rfl, by decide +kernel, by decide +kernel⟩
abbrev sIw : Stmt := top 16
theorem scIw : FnScope ["kind"] ["kind"] (defScope sIw) := ⟨rfl, rfl, rfl, by decide +kernel, rfl, by decide +kernel, by decide +kernel⟩
abbrev sPtr : Stmt := top 17
theorem scPtr : FnScope ["pointer", "number", "birth"] ["pointer"] (defScope sPtr) := ⟨rfl, rfl, rfl, by decide +kernel, rfl, by decide +kernel, by decide +kernel⟩
abbrev sAsc : Stmt := top 18
theorem scAsc : FnScope ["items"] ["items"] (defScope sAsc) := ⟨rfl, rfl, rfl, by decide +kernel, rfl, by decide +kernel, by decide +kernel⟩
abbrev sRead : Stmt := top 19
theorem scRead : FnScope ["words"] ["words"] (defScope sRead) := ⟨rfl, rfl, rfl, by decide +kernel, rfl, by decide +kernel, by decide +kernel⟩
abbrev sFrom : Stmt := top 20
theorem scFrom : FnScope ["block", "kind", "many", "size", "end", "items", "start"] ["block"] (defScope sFrom) := ⟨rfl, rfl, rfl, by decide +kernel, rfl, by decide +kernel, by decide +kernel⟩
abbrev sOwn : Stmt := top 21
theorem scOwn : FnScope ["block"] ["block"] (defScope sOwn) := ⟨rfl, rfl, rfl, by decide +kernel, rfl, by decide +kernel, by decide +kernel⟩
abbrev sCell : Stmt := top 23
theorem scCell : FnScope ["script", "k"] ["script", "k"] (defScope sCell) := ⟨rfl, rfl, rfl, by decide +kernel, rfl, by decide +kernel, by decide +kernel⟩
abbrev sWd : Stmt := top 24
theorem scWd : FnScope ["cell", "menu"] ["cell"] (defScope sWd) := ⟨rfl, rfl, rfl, by decide +kernel, rfl, by decide +kernel, by decide +kernel⟩
abbrev sNode : Stmt := top 25
theorem scNode : FnScope ["script", "kind", "size", "many", "words", "turn", "cell"] ["script"] (defScope sNode) := ⟨rfl, rfl, rfl, by decide +kernel, rfl, by decide +kernel, by decide +kernel⟩
abbrev sLp : Stmt := top 26
theorem scLp : FnScope ["words"] ["words"] (defScope sLp) := ⟨rfl, rfl, rfl, by decide +kernel, rfl, by decide +kernel, by decide +kernel⟩
abbrev sDue : Stmt := top 27
theorem scDue : FnScope ["words", "size", "items", "turn", "part", "key", "word"] ["words"] (defScope sDue) := ⟨rfl, rfl, rfl, by decide +kernel, rfl, by decide +kernel, by decide +kernel⟩
abbrev sLaw : Stmt := top 28
theorem scLaw : FnScope ["script", "words", "size", "turn", "cell", "due", "told", "e"] ["script"] (defScope sLaw) := ⟨rfl, rfl, rfl, by decide +kernel, rfl, by decide +kernel, by decide +kernel⟩
/-! ### items: pairs of two tuples of ints -/
abbrev R := List Int × List Int
def rd (r : R) : PyData := .tuple [.tuple (r.1.map PyData.int), .tuple (r.2.map PyData.int)]
inductive Rows (K : PySem.W.Frag) (H : Hp) : List V → List R → Prop
  | nil : Rows K H [] []
  | cons {t k v : Addr} {r : R} {xs : List V} {rs : List R} : SqT K H t [.ref k, .ref v] → SqT K H k (r.1.map V.int) → SqT K H v (r.2.map V.int) → Rows K H xs rs → Rows K H (.ref t :: xs) (r :: rs)
/-! ### heaps in which a list may change, but nothing else -/
def TEx (H H' : Hp) : Prop := ∀ (a : Addr) (o : HO), H a = some o → (∀ l, o ≠ .lst l) → H' a = some o
theorem TEx.of {H H' : Hp} (e : Ex H H') : TEx H H' := fun a o h _ => e a o h
theorem TEx.trans {H H' H2 : Hp} (e : TEx H H') (f : TEx H' H2) : TEx H H2 := fun a o h n => f a o (e a o h n) n
theorem TEx.upd {H : Hp} {l : Addr} {xs ys : List V} (h : H l = some (.lst xs)) : TEx H (upd H l (.lst ys)) := fun a o ha n => by
  by_cases e : a = l
  · rw [e, h] at ha
    cases ha
    exact absurd rfl (n xs)
  · rw [upd_ne e]
    exact ha
section
variable {K : PySem.W.Frag} {H H' : Hp}
theorem TEx.t {a : Addr} {xs : List V} (e : TEx H H') (h : SqT K H a xs) : SqT K H' a xs := by
  rcases h with (h | ⟨o, h⟩) | h
  · exact .inl (.inl (e _ _ h (fun l z => by cases z)))
  · exact .inl (.inr ⟨o, e _ _ h (fun l z => by cases z)⟩)
  · exact .inr h
theorem Rows.tmono (e : TEx H H') : ∀ {xs : List V} {rs : List R}, Rows K H xs rs → Rows K H' xs rs
  | _, _, .nil => .nil
  | _, _, .cons h1 h2 h4 h3 => .cons (e.t h1) (e.t h2) (e.t h4) (h3.tmono e)
theorem Rows.mono (e : Ex H H') {xs : List V} {rs : List R} (h : Rows K H xs rs) : Rows K H' xs rs := h.tmono (.of e)
theorem Rows.len : ∀ {xs : List V} {rs : List R}, Rows K H xs rs → xs.length = rs.length
  | _, _, .nil => rfl
  | _, _, .cons _ _ _ h3 => congrArg (· + 1) h3.len
theorem Rows.at : ∀ {xs : List V} {rs : List R} {i : Nat} {x : V}, Rows K H xs rs → xs[i]? = some x → ∃ (t k v : Addr) (r : R), x = .ref t ∧ rs[i]? = some r ∧ SqT K H t [.ref k, .ref v] ∧ SqT K H k (r.1.map V.int) ∧ SqT K H v (r.2.map V.int)
  | _, _, _, _, .nil, h => by simp at h
  | _, _, 0, _, .cons (t := t) (k := k) (v := v) (r := r) h1 h2 h4 h3, h => ⟨t, k, v, r, (Option.some.inj h).symm, rfl, h1, h2, h4⟩
  | _, _, i + 1, _, .cons h1 h2 h4 h3, h => h3.at (i := i) h
theorem Rows.snoc {t k v : Addr} {r : R} (h1 : SqT K H t [.ref k, .ref v]) (h2 : SqT K H k (r.1.map V.int)) (h4 : SqT K H v (r.2.map V.int)) : ∀ {xs : List V} {rs : List R}, Rows K H xs rs → Rows K H (xs ++ [.ref t]) (rs ++ [r])
  | _, _, .nil => .cons h1 h2 h4 .nil
  | _, _, .cons a b d c => .cons a b d (c.snoc h1 h2 h4)
theorem Rows.dp : ∀ {xs : List V} {rs : List R}, Rows K H xs rs → DpAll K H xs (rs.map rd)
  | _, _, .nil => .nil
  | _, _, .cons (r := r) h1 h2 h4 h3 => .cons (.tup h1 (.cons (.tup h2 (dp_ints r.1)) (.cons (.tup h4 (dp_ints r.2)) .nil))) h3.dp
end
theorem sh_rd (r : R) : Sh 2 (rd r) := sh_tup fun d hd => by
  rcases List.mem_cons.mp hd with e | hd
  · rw [e]
    exact sh_tup (sh_ints _)
  · rcases List.mem_cons.mp hd with e | hd
    · rw [e]
      exact sh_tup (sh_ints _)
    · cases hd
theorem sh_rds (rs : List R) : Sh 3 (.list (rs.map rd)) := sh_lst fun d hd => by
  obtain ⟨r, _, rfl⟩ := List.mem_map.mp hd
  exact sh_rd r
theorem getD_of {α : Type} {l : List α} {i : Nat} {x d : α} (h : l[i]? = some x) : l.getD i d = x := by
  rw [List.getD_eq_getElem?_getD, h]
  rfl
def key (rs : List R) (i : Nat) : List Int := (rs.getD i ([], [])).1
def asc (rs : List R) : Bool := allF (rs.length - 1) fun i => HT.lexLt (key rs i) (key rs (i + 1))
def most (kind : Int) : Int := if kind = 1 then 4 else 5
def size (kind : Int) : Int := if kind = 1 then 7 else 5
def ptr (n b : Int) : Bool := (decide (5 ≤ n) && decide (n < 256)) && decide (1 ≤ b)
theorem el_is {te : TE} {σ : L2.St} {H : Hp} {xs ys : List V} (h : EvL te σ H xs) (e : xs = ys) : EvL te σ H ys := by
  rw [← e]
  exact h
theorem cut_to (xs : List V) (n : Nat) : cutV xs none (some (n : Int)) = xs.take n := by
  unfold cutV
  rw [HT.sIx_nat, HT.sIx_none]
  show (xs.drop 0).take _ = _
  rw [List.drop_zero, Nat.sub_zero, List.take_eq_take_iff]
  omega
theorem cut_from (xs : List V) (n : Nat) : cutV xs (some (n : Int)) none = xs.drop n := by
  unfold cutV
  rw [HT.sIx_nat, HT.sIx_none]
  show (xs.drop (min n xs.length)).take _ = _
  rw [List.take_of_length_le (by rw [List.length_drop]; omega)]
  by_cases h : n ≤ xs.length
  · rw [Nat.min_eq_left h]
  · rw [Nat.min_eq_right (by omega), List.drop_length, List.drop_eq_nil_of_le (by omega)]
/-- a new pair of two new tuples -/
theorem eu_pair {ta tb : TE} {σ : L2.St} {H : Hp} {xs ys : List V} (ha : EvU ta σ H xs) (hb : EvU tb σ H ys) : ∀ H1, Ex H H1 → ∀ Q : VK, (∀ t k v H2, H1 t = none → H1 k = none → H1 v = none → Ex H1 H2 → H2 t = some (.tup [.ref k, .ref v]) → H2 k = some (.tup xs) → H2 v = some (.tup ys) → Q (.ref t) H2) → tTup (tCons ta (tCons tb tNil)) σ H1 Q := fun H1 e Q q =>
  ha H1 e _ fun k H2 hk e2 h2 => hb H2 (e.trans e2) _ fun v H3 hv e3 h3 => ⟨sz_of (by simp), fun t ht => q t k v _ (fresh_back e2 (fresh_back e3 ht)) hk (fresh_back e2 hv) ((e2.trans e3).trans (Ex.new ht)) upd_same ((Ex.new ht) _ _ (e3 _ _ h2)) ((Ex.new ht) _ _ h3)⟩
/-! ### the promises -/
def spMost : Sp := fun vs H Q _ => ∃ k : Int, vs = [.int k] ∧ (k = 1 ∨ k = 2) ∧ RetV (.int (most k)) H Q
def spIw : Sp := fun vs H Q _ => ∃ k : Int, vs = [.int k] ∧ RetV (.int (size k)) H Q
def spPtr (K : PySem.W.Frag) : Sp := fun vs H Q _ => ∃ (t : Addr) (n b : Int), vs = [.ref t] ∧ SqT K H t [.int n, .int b] ∧ RetV (.bl (ptr n b)) H Q
def spAsc (K : PySem.W.Frag) (Pt : Addr) : Sp := fun vs H Q _ => ∃ (a : Addr) (xs : List V) (rs : List R), vs = [.ref a] ∧ SqL K H a xs ∧ Rows K H xs rs ∧ rs.length ≤ 100 ∧ Tab H Pt ∧ RetV (.bl (asc rs)) H Q
def spRead (K : PySem.W.Frag) : Sp := fun vs H Q _ => ∃ (a : Addr) (ns : List Int), vs = [.ref a] ∧ SqL K H a (ns.map V.int) ∧ ns.length ≤ 1000 ∧ ∀ (t k v : Addr) (H' : Hp), H t = none → H k = none → H v = none → Ex H H' → H' t = some (.tup [.ref k, .ref v]) → H' k = some (.tup ((ns.take 3).map V.int)) → H' v = some (.tup ((ns.drop 3).map V.int)) → Q (.ref t) H'
def spOwn (K : PySem.W.Frag) : Sp := fun vs H Q _ => ∃ (a : Addr) (k n p b : Int) (ns : List Int), vs = [.ref a] ∧ SqL K H a ((k :: n :: p :: b :: ns).map V.int) ∧ ∀ (t : Addr) (H' : Hp), H t = none → Ex H H' → H' t = some (.tup [.int p, .int b]) → Q (.ref t) H'
section
variable {P : Program} {w : World} {K : PySem.W.Frag} {mg : Str → Option Value} {base : Heap} {aK : Addr}
theorem ok_cell {f : Addr} {fd : FuncData} (F : Fun K "_law_cell" "_law_cell" sCell f fd) (T : Txt mg K aK) : FnOk P w K mg base CX0 1 f fd ["script", "k"] (spCel K) := by
  refine F.ok scCell (fun vs H Q E h => ?_) (fun cdv A outer s H vs Q E hr h => ?_)
  · obtain ⟨a, ns, k, rfl, _⟩ := h
    rfl
  · obtain ⟨a, ns, k, rfl, hS, q⟩ := h
    refine ⟨_, (pss_cons (ps_if (pt_cmpR op_lt (pv 1) (pe_callB call_len_seq (by rfl) T.len (by decide +kernel) (pa_cons (pv 0) pa_nil)) (nomark _)) (pss_one (ps_ret (pe_ix ix_list (pv 0) (pv 1) (fun _ _ => rfl)))) pss_nil)
      (pss_one (ps_ret pe_int))), ?_⟩
    refine q_when (et_test (ev_op (ev_var rfl) (ev_len (ev_var rfl) hS) rv_I0)) (fun hb H1 e1 => ?_) (fun hb H1 e1 => ?_)
    · have hk : k < ns.length := by
        have := of_decide_eq_true hb
        rw [List.length_map] at this
        omega
      exact s_ret (ev_op (ev_var rfl) (ev_var rfl) (rv_ixL (ex_l e1 hS) (atI_nat (cellv_in hk)))) fun H2 e2 => q H2 (e1.trans e2)
    · have hk : ns.length ≤ k := by
        have := of_decide_eq_false hb
        rw [List.length_map] at this
        omega
      rw [cellv_out hk] at q
      exact s_ret ev_c fun H2 e2 => q H2 (e1.trans e2)
theorem ok_most {f : Addr} {fd : FuncData} (F : Fun K "most_items" "most_items" sMost f fd) (T : Txt mg K aK) : FnOk P w K mg base CX0 1 f fd ["kind"] spMost := by
  refine F.ok scMost (fun vs H Q E h => ?_) (fun cdv A outer s H vs Q E hr h => ?_)
  · obtain ⟨a, rfl, _⟩ := h
    rfl
  · obtain ⟨k, rfl, hk, q⟩ := h
    obtain ⟨_, gLEAF⟩ := T.gLEAF
    obtain ⟨_, gINNER⟩ := T.gINNER
    obtain ⟨_, gLEAF_ITEMS⟩ := T.gLEAF_ITEMS
    obtain ⟨_, gINNER_ITEMS⟩ := T.gINNER_ITEMS
    refine ⟨_, (pss_cons (ps_if (pt_cmpR op_eq (pv 0) (pe_glob (v := .int 1) rfl gLEAF ⟨_, rfl⟩) (nomark _)) (pss_one (ps_ret (pe_glob (v := .int 4) rfl gLEAF_ITEMS ⟨_, rfl⟩))) pss_nil)
      (pss_cons (ps_if (pt_cmpR op_eq (pv 0) (pe_glob (v := .int 2) rfl gINNER ⟨_, rfl⟩) (nomark _)) (pss_one (ps_ret (pe_glob (v := .int 5) rfl gINNER_ITEMS ⟨_, rfl⟩))) pss_nil)
      (pss_one ps_never))), ?_⟩
    rcases hk with rfl | rfl
    · exact q_when (b := true) (et_test (ev_op (ev_var rfl) ev_c (rv_eq rfl))) (fun _ H1 e1 => s_ret ev_c fun H2 e2 => q H2 (e1.trans e2)) (fun h => by cases h)
    · exact q_when (b := false) (et_test (ev_op (ev_var rfl) ev_c (rv_eq rfl))) (fun h => by cases h) (fun _ H1 e1 => q_when (b := true) (et_test (ev_op (ev_var rfl) ev_c (rv_eq rfl))) (fun _ H2 e2 => s_ret ev_c fun H3 e3 => q H3 ((e1.trans e2).trans e3)) (fun h => by cases h))
theorem ok_iwd {f : Addr} {fd : FuncData} (F : Fun K "item_words" "item_words" sIw f fd) (T : Txt mg K aK) : FnOk P w K mg base CX0 1 f fd ["kind"] spIw := by
  refine F.ok scIw (fun vs H Q E h => ?_) (fun cdv A outer s H vs Q E hr h => ?_)
  · obtain ⟨a, rfl, _⟩ := h
    rfl
  · obtain ⟨k, rfl, q⟩ := h
    obtain ⟨_, gLEAF⟩ := T.gLEAF
    obtain ⟨_, gLEAF_ITEM_WORDS⟩ := T.gLEAF_ITEM_WORDS
    obtain ⟨_, gINNER_ITEM_WORDS⟩ := T.gINNER_ITEM_WORDS
    refine ⟨_, (pss_one (ps_ret (pe_ifExp (pt_cmpR op_eq (pv 0) (pe_glob (v := .int 1) rfl gLEAF ⟨_, rfl⟩) (nomark _)) (pe_glob (v := .int 7) rfl gLEAF_ITEM_WORDS ⟨_, rfl⟩) (pe_glob (v := .int 5) rfl gINNER_ITEM_WORDS ⟨_, rfl⟩)))), ?_⟩
    refine s_ret (ev_if (et_test (ev_op (ev_var rfl) ev_c (rv_eq rfl))) (fun hb => ev_is ev_c ?_) (fun hb => ev_is ev_c ?_)) fun H1 e1 => q H1 e1
    · unfold size
      rw [if_pos (V.int.inj (of_decide_eq_true hb))]
    · unfold size
      rw [if_neg fun e => of_decide_eq_false hb (congrArg V.int e)]
theorem ok_ptr {f : Addr} {fd : FuncData} (F : Fun K "is_pointer" "is_pointer" sPtr f fd) (T : Txt mg K aK) : FnOk P w K mg base CX0 1 f fd ["pointer"] (spPtr K) := by
  refine F.ok scPtr (fun vs H Q E h => ?_) (fun cdv A outer s H vs Q E hr h => ?_)
  · obtain ⟨t, n, b, rfl, _⟩ := h
    rfl
  · obtain ⟨t, n, b, rfl, hS, q⟩ := h
    obtain ⟨_, gFIRST_BLOCK⟩ := T.gFIRST_BLOCK
    obtain ⟨_, gMAX_BLOCKS⟩ := T.gMAX_BLOCKS
    refine ⟨_, (pss_cons (ps_asg (pv 0) (pg_tup (by rfl) (pgs_cons (pg_name (i := 1) scPtr.nd rfl (Or.inl rfl)) (pgs_cons (pg_name (i := 2) scPtr.nd rfl (Or.inl rfl)) pgs_nil))))
      (pss_one (ps_ret (pe_and (pe_chain op_le op_lt (pe_glob (v := .int 5) rfl gFIRST_BLOCK ⟨_, rfl⟩) (pv 1) (pe_glob (v := .int 256) rfl gMAX_BLOCKS ⟨_, rfl⟩)) (pe_one (pe_cmpR op_ge (pv 2) pe_int (nomark _))))))), ?_⟩
    refine ⟨.ref t, rfl, t, _, rfl, hS, rfl, _, _, rfl, _, _, rfl, rfl, ?_⟩
    exact s_ret (ev_andV (ev_chain ev_c (ev_var rfl) ev_c) (fun _ => ev_op (ev_var rfl) ev_c rv_I0)) fun H1 e1 => q H1 e1
theorem ok_own {f : Addr} {fd : FuncData} (F : Fun K "own_pointer" "own_pointer" sOwn f fd) (T : Txt mg K aK) : FnOk P w K mg base CX0 1 f fd ["block"] (spOwn K) := by
  refine F.ok scOwn (fun vs H Q E h => ?_) (fun cdv A outer s H vs Q E hr h => ?_)
  · obtain ⟨a, k, n, p, b, ns, rfl, _⟩ := h
    rfl
  · obtain ⟨a, k, n, p, b, ns, rfl, hS, q⟩ := h
    refine ⟨_, (pss_one (ps_ret (pe_tup (pa_cons (pe_ix ix_list (pv 0) pe_int (fun _ _ => rfl)) (pa_cons (pe_ix ix_list (pv 0) pe_int (fun _ _ => rfl)) pa_nil))))), ?_⟩
    exact s_retU (eu_tup (ea_cons (ev_op (ev_var rfl) ev_c (rv_ixL hS (atI_nat (j := 2) rfl))) (ea_cons (ev_op (ev_var rfl) ev_c (rv_ixL hS (atI_nat (j := 3) rfl))) ea_nil)) (by simp)) fun t H1 ht e1 h1 => q t H1 ht e1 h1
theorem ok_asc {f c Pt : Addr} {fd : FuncData} (F : FunC K "are_ascending" "are_ascending" sAsc f fd c) (TB : LamX.TabB base mg c Pt) (T : Txt mg K aK) : FnOk P w K mg base CX0 1 f fd ["items"] (spAsc K Pt) := by
  refine F.ok scAsc (fun vs H Q E h => ?_) (fun A outer s H vs Q E hr h => ?_)
  · obtain ⟨a, xs, rs, rfl, _⟩ := h
    rfl
  · obtain ⟨a, xs, rs, rfl, hS, hR, hl, hT, q⟩ := h
    have hxl := hR.len
    refine ⟨_, (pss_one (ps_ret (pe_all hr (by rfl) T.all (by decide +kernel) TB rfl ⟨rfl, rfl, by decide +kernel, rfl, rfl, fun y hy e => cell_has ((by decide +kernel : ∀ y ∈ _, y.2 = NameKind.free → (defScope sAsc).names.lookup y.1 = some .cell) y hy e)⟩ (pe_callTy cr_range1 (by rfl) T.range (by decide +kernel) (pa_cons (pe_op op_sub (pe_callB call_len_seq (by rfl) T.len (by decide +kernel) (pa_cons (pv 0) pa_nil)) pe_int) pa_nil)) (fun _ => rfl)))), ?_⟩
    have hfin : allF ((xs.length : Int) - 1).toNat (fun i => HT.lexLt (key rs i) (key rs (i + 1))) = asc rs := by
      unfold asc
      rw [show ((xs.length : Int) - 1).toNat = rs.length - 1 by omega]
    refine s_ret (ev_is (ev_genR (n := (xs.length : Int) - 1) (f := fun i => HT.lexLt (key rs i) (key rs (i + 1))) (ev_op (ev_len (ev_var rfl) hS) ev_c rv_I0) ⟨by omega, by omega⟩ hT (fun H2 e2 i u hi hu => ?_)) (congrArg V.bl hfin)) fun H1 e1 => q H1 e1
    have hu0 : ∀ n, n = (A.deeper (envOfC "are_ascending" (defScope sAsc) s.heap.objs.size f (.ref c))).units → n + 8 < cLine := fun n e => by
      have := hr.un
      omega
    have h1 : i < xs.length := by omega
    have h2 : i + 1 < xs.length := by omega
    obtain ⟨t1, k1, v1, r1, ex1, er1, st1, sk1, _⟩ := hR.at (List.getElem?_eq_getElem h1)
    obtain ⟨t2, k2, v2, r2, ex2, er2, st2, sk2, _⟩ := hR.at (List.getElem?_eq_getElem h2)
    have g1 : key rs i = r1.1 := by
      unfold key
      rw [getD_of er1]
    have g2 : key rs (i + 1) = r2.1 := by
      unfold key
      rw [getD_of er2]
    rw [g1, g2]
    have a1 : xs[i]? = some (.ref t1) := by rw [List.getElem?_eq_getElem h1, ex1]
    have a2 : xs[i + 1]? = some (.ref t2) := by rw [List.getElem?_eq_getElem h2, ex2]
    refine qv_cmp (qr_ltT (hT.mono e2) (hu0 _ rfl) (ex_t e2 sk1) (ex_t e2 sk2)) (qv_ixT (hT.mono e2) (ex_t e2 st1) (atI_nat (j := 0) rfl) (qv_ixL (hT.mono e2) (ex_l e2 hS) (atI_nat a1) (by omega) (qv_cap (i := 0) rfl rfl rfl rfl) (qv_x rfl rfl hu)) qv_int)
      (qv_ixT (hT.mono e2) (ex_t e2 st2) (atI_nat (j := 0) rfl) (qv_ixL (i := ((i + 1 : Nat) : Int)) (hT.mono e2) (ex_l e2 hS) (atI_nat a2) (by omega) (qv_cap (i := 0) rfl rfl rfl rfl) (qv_op qr_add (qv_x rfl rfl hu) qv_int)) qv_int) rfl
theorem ok_read {f : Addr} {fd : FuncData} (F : Fun K "read_item" "read_item" sRead f fd) (T : Txt mg K aK) : FnOk P w K mg base CX0 1 f fd ["words"] (spRead K) := by
  refine F.ok scRead (fun vs H Q E h => ?_) (fun cdv A outer s H vs Q E hr h => ?_)
  · obtain ⟨a, ns, rfl, _⟩ := h
    rfl
  · obtain ⟨a, ns, rfl, hS, hl, q⟩ := h
    obtain ⟨_, gKEY_WORDS⟩ := T.gKEY_WORDS
    refine ⟨_, (pss_one (ps_ret (pe_tup (pa_cons (pe_callTy call_tuple_of (by rfl) T.tuple (by decide +kernel) (pa_cons (pe_slice sl_list (pv 0) po_none (po_some (pe_glob (v := .int 3) rfl gKEY_WORDS ⟨_, rfl⟩))) pa_nil)) (pa_cons (pe_callTy call_tuple_of (by rfl) T.tuple (by decide +kernel) (pa_cons (pe_slice sl_list (pv 0) (po_some (pe_glob (v := .int 3) rfl gKEY_WORDS ⟨_, rfl⟩)) po_none) pa_nil)) pa_nil))))), ?_⟩
    have s1 : EvL _ _ H ((ns.take 3).map V.int) := el_is (el_sl (σ := [some (.ref a)]) (ev_var (i := 0) rfl) eo_none (eo_some (ev_c (v := .int 3))) hS) ((cut_to _ 3).trans List.map_take.symm)
    have s2 : EvL _ _ H ((ns.drop 3).map V.int) := el_is (el_sl (σ := [some (.ref a)]) (ev_var (i := 0) rfl) (eo_some (ev_c (v := .int 3))) eo_none hS) ((cut_from _ 3).trans List.map_drop.symm)
    refine eu_pair (eu_tupL s1) (eu_tupL s2) H (Ex.refl H) _ fun t k v H1 ht hk hv e1 h1 h2 h3 => q t k v H1 ht hk hv e1 h1 h2 h3
end

end K10

set_option Elab.async false
set_option linter.all false
set_option maxRecDepth 100000
set_option maxHeartbeats 4000000
namespace K10
open PySem PySem.Spec PyProof.Rows L2 Evl LK LT LG LS LQ LX LN StX
def vsz (k : Int) : Nat := if k = 1 then 4 else 2
section
variable {K : PySem.W.Frag} {σ : L2.St} {H : Hp} {ta tb te to : TE} {D : Ends} {tz : TS}
theorem el_cat {l : Addr} {xs ys : List V} (ha : Ev ta σ H (.ref l)) (hl : H l = some (.lst xs)) (hb : EvL tb σ H ys) (hz : xs.length + ys.length ≤ 100000) : EvL (tOp rCat ta tb) σ H (xs ++ ys) := fun H1 e Q q =>
  ha H1 e _ fun H2 e2 => hb H2 (e.trans e2) _ fun p H3 hp e3 h3 => ⟨l, p, xs, ys, rfl, rfl, e3 _ _ (e2 _ _ (e _ _ hl)), h3, sz_of hz, fun r hr => q r _ (fresh_back (e2.trans e3) hr) ((e2.trans e3).trans (Ex.new hr)) upd_same⟩
theorem el_rep1 {v : V} {n : Int} (ha : EvL ta σ H [v]) (hb : Ev tb σ H (.int n)) (h0 : 0 ≤ n) (h1 : n ≤ 100000) : EvL (tOp rRep ta tb) σ H (List.replicate n.toNat v) := fun H1 e Q q =>
  ha H1 e _ fun p H2 hp e2 h2 => hb H2 (e.trans e2) _ fun H3 e3 => ⟨p, n, [v], rfl, rfl, e3 _ _ h2, by omega, by omega, by
    show 1 * n.toNat ≤ sizeLine
    exact sz_of (by omega), fun r hr => q r _ (fresh_back (e2.trans e3) hr) ((e2.trans e3).trans (Ex.new hr)) (by rw [upd_same, List.flatten_replicate_singleton])⟩
theorem eu_call {sp : Sp} {dvs vs xs : List V} {E : XK} {t : TA} (h : EvA t σ H vs) (hs : ∀ H1, Ex H H1 → ∀ (Q : VK) (E : XK), (∀ p H2, H1 p = none → Ex H1 H2 → H2 p = some (.tup xs) → Q (.ref p) H2) → sp (vs ++ dvs) H1 Q E) : EvU (tCall sp dvs E t) σ H xs := fun H1 e Q q =>
  h H1 e _ fun H2 e2 => hs H2 (e.trans e2) Q E fun p H3 hp e3 h3 => q p H3 (fresh_back e2 hp) (e2.trans e3) h3
theorem q_par {i j : Nat} {t : TA} {v w : V} (h : EvA t σ H [v, w]) (k : ∀ H1, Ex H H1 → tz D ((σ.set i (some v)).set j (some w)) H1) : tSeq (tPar i j t) tz D σ H := h H (Ex.refl H) _ fun H1 e => ⟨v, w, rfl, k H1 e⟩
end
theorem size_eq (k : Int) : size k = ((3 + vsz k : Nat) : Int) := by
  unfold size vsz
  split <;> rfl
theorem vsz_le (k : Int) : vsz k ≤ 4 := by
  unfold vsz
  split <;> omega
theorem cut_mid (xs : List V) (s e : Nat) (hs : s ≤ e) (he : e ≤ xs.length) : cutV xs (some (s : Int)) (some (e : Int)) = (xs.drop s).take (e - s) := by
  unfold cutV
  rw [HT.sIx_nat, HT.sIx_nat, show min s xs.length = s from Nat.min_eq_left (by omega), show min e xs.length = e from Nat.min_eq_left he]
theorem rg7 : ∀ m : Fin 5, (7 : Int) ≠ 0 ∧ (7 : Int).natAbs < 1073741824 ∧ Builtin.Range.small 4 (4 + (m.val : Int) * 7) 7 = true ∧ Builtin.Range.rangeSize 4 (4 + (m.val : Int) * 7) 7 = m.val := by decide +kernel
theorem rg5 : ∀ m : Fin 6, (5 : Int) ≠ 0 ∧ (5 : Int).natAbs < 1073741824 ∧ Builtin.Range.small 4 (4 + (m.val : Int) * 5) 5 = true ∧ Builtin.Range.rangeSize 4 (4 + (m.val : Int) * 5) 5 = m.val := by decide +kernel
theorem rg_of {k : Int} {m : Nat} (hk : k = 1 ∨ k = 2) (hm : (m : Int) ≤ most k) : RgC 4 (4 + (m : Int) * size k) (size k) m := by
  rcases hk with rfl | rfl
  · have e : most 1 = 4 := rfl
    exact rg7 ⟨m, by omega⟩
  · have e : most 2 = 5 := rfl
    exact rg5 ⟨m, by omega⟩
theorem lc_rows {K : PySem.W.Frag} {ta : TA} {te : TE} {j : Nat} {vs : List Nat} {σ : L2.St} {H : Hp} {lo hi c : Int} {rs : List R} {Q : VK} (h : EvA ta σ H [.int lo, .int hi, .int c]) (hR : RgC lo hi c rs.length) (hn : rs.length ≤ 1000) (hw : ∀ x, wipe ((wipe σ vs).set j (some x)) vs = wipe σ vs)
    (he : ∀ (i : Nat) (r : R) H1, Ex H H1 → rs[i]? = some r → ∀ Q : VK, (∀ t k v H2, H1 t = none → H1 k = none → H1 v = none → Ex H1 H2 → H2 t = some (.tup [.ref k, .ref v]) → H2 k = some (.tup (r.1.map V.int)) → H2 v = some (.tup (r.2.map V.int)) → Q (.ref t) H2) → te ((wipe σ vs).set j (some (.int (lo + (i : Nat) * c)))) H1 Q)
    (q : ∀ D xs H1, H D = none → Ex H H1 → H1 D = some (.lst xs) → Rows K H1 xs rs → Q (.ref D) H1) : tLc (iRng3 ta) (gName j) tYes te vs σ H Q := h H (Ex.refl H) _ fun H1 e1 => ⟨lo, hi, c, rs.length, rfl, hR, fun D hD => by
  have hD0 := fresh_back e1 hD
  refine lc_it walk_rangeC (fun i H' => Ex H H' ∧ ∃ xs, H' D = some (.lst xs) ∧ Rows K H' xs (rs.take i)) ⟨e1.mut hD0, [], upd_same, .nil⟩ (fun _ _ _ _ => trivial) (fun i x H2 H3 hi p y => ?_) (fun H' ⟨e0, xs, hx, hr⟩ => ?_)
  · obtain ⟨rfl, rfl⟩ := y
    obtain ⟨e0, xs, hx, hr⟩ := p
    have er := List.getElem?_eq_getElem hi
    have htk : rs.take (i + 1) = rs.take i ++ [rs[i]] := by rw [List.take_add_one, er]; rfl
    have hxl := hr.len
    rw [List.length_take] at hxl
    refine ⟨hw _, ?_⟩
    unfold tYes
    simp only [if_true]
    refine he i _ _ e0 er _ fun t k v H4 ht hk hv e4 h1 h2 h3 => ⟨xs, e4 _ _ hx, sz_lt (by omega), (e0.trans e4).mut hD0, xs ++ [.ref t], upd_same, ?_⟩
    have tx : TEx H4 (upd H4 D (.lst (xs ++ [.ref t]))) := TEx.upd (e4 _ _ hx)
    rw [htk]
    exact Rows.snoc (tx.t (st_of h1)) (tx.t (st_of h2)) (tx.t (st_of h3)) ((hr.mono e4).tmono tx)
  · rw [List.take_length] at hr
    exact q D xs H' hD0 e0 hx hr
  ⟩
theorem q_rows {K : PySem.W.Frag} {ta : TA} {te : TE} {i0 j : Nat} {vs : List Nat} {σ : L2.St} {H : Hp} {lo hi c : Int} {rs : List R} {D : Ends} {tz : TS} (h : EvA ta σ H [.int lo, .int hi, .int c]) (hR : RgC lo hi c rs.length) (hn : rs.length ≤ 1000) (hw : ∀ x, wipe ((wipe σ vs).set j (some x)) vs = wipe σ vs)
    (he : ∀ (i : Nat) (r : R) H1, Ex H H1 → rs[i]? = some r → ∀ Q : VK, (∀ t k v H2, H1 t = none → H1 k = none → H1 v = none → Ex H1 H2 → H2 t = some (.tup [.ref k, .ref v]) → H2 k = some (.tup (r.1.map V.int)) → H2 v = some (.tup (r.2.map V.int)) → Q (.ref t) H2) → te ((wipe σ vs).set j (some (.int (lo + (i : Nat) * c)))) H1 Q)
    (q : ∀ L xs H1, H L = none → Ex H H1 → H1 L = some (.lst xs) → Rows K H1 xs rs → tz D (σ.set i0 (some (.ref L))) H1) : tSeq (tAsg (tLc (iRng3 ta) (gName j) tYes te vs) (gName i0)) tz D σ H :=
  lc_rows (K := K) (Q := fun v H1 => tz D (σ.set i0 (some v)) H1) h hR hn hw he q

/-! ### t >= u of tuples of ints -/
def geV (ns ms : List Int) : Bool := Ob.lexAt (fun j => decide (ns.getD j 0 = ms.getD j 0)) (fun j => decide (ms.getD j 0 ≤ ns.getD j 0)) (decide (ns.length ≥ ms.length)) 0 (min ns.length ms.length)
def rGeT (K : PySem.W.Frag) : R2 := fun x y H Q => ∃ (a b : Addr) (ns ms : List Int), x = .ref a ∧ y = .ref b ∧ SqT K H a (ns.map V.int) ∧ SqT K H b (ms.map V.int) ∧ Q (.bl (geV ns ms)) H
theorem op_geT {X : Cx} (hu : X.A.units < cLine) : OpR X (compareOp .GtE) (rGeT X.K) := by
  intro pins s σ H x y v u Q I rx ry h
  obtain ⟨a, b, ns, ms, rfl, rfl, ha, hb, q⟩ := h
  cases rx
  cases ry
  obtain ⟨its, r1, p1, _⟩ := I.tuple ha
  obtain ⟨its2, r2, p2, _⟩ := I.tuple hb
  have i1 : IntsAre its ns := Vals.ints r1
  have i2 : IntsAre its2 ms := Vals.ints r2
  have e1 : its.toArray.size = ns.length := by rw [List.size_toArray]; exact i1.length
  have e2 : its2.toArray.size = ms.length := by rw [List.size_toArray]; exact i2.length
  have at1 : ∀ j (h1 : j < its.toArray.size), ∃ t, its.toArray[j] = .int (ns.getD j 0) t := fun j h1 => PyProof.Rows.IntsAre.int_at i1 _ _ (by simp at h1; simp [h1])
  have at2 : ∀ j (h1 : j < its2.toArray.size), ∃ t, its2.toArray[j] = .int (ms.getD j 0) t := fun j h1 => PyProof.Rows.IntsAre.int_at i2 _ _ (by simp at h1; simp [h1])
  have R := Ob.RcOp.tuples_ge (A := X.A) (s := s) (e := fun j => decide (ns.getD j 0 = ms.getD j 0)) (r := fun j => decide (ms.getD j 0 ≤ ns.getD j 0)) p1 p2 hu (fun j h1 h2 => by
    obtain ⟨t, et⟩ := at1 j h1
    obtain ⟨t', et'⟩ := at2 j h2
    rw [et, et']
    have z : (ns.getD j 0 == ms.getD j 0) = decide (ns.getD j 0 = ms.getD j 0) := by
      by_cases q : ns.getD j 0 = ms.getD j 0
      · rw [decide_eq_true q]; exact beq_iff_eq.mpr q
      · rw [decide_eq_false q]; exact beq_eq_false_iff_ne.mpr q
    rw [← z]
    exact SeqAt.EqAt.int_int _ _ _ _) (fun j h1 h2 _ => by
    obtain ⟨t, et⟩ := at1 j h1
    obtain ⟨t', et'⟩ := at2 j h2
    rw [et, et']
    exact Ob.RcOp.ge_int _ _ _ _)
  rw [e1, e2] at R
  have z : wpAny (model X.prog X.w) X.A (compareOp .GtE (.ref a) (.ref b)) (EP X pins σ Q) X.xe s := R X.prog X.w X.xe (EP X pins σ Q) ⟨.bl _, H, I, rfl, q⟩
  exact z
theorem rv_geT {K : PySem.W.Frag} {H : Hp} {a b : Addr} {ns ms : List Int} (ha : SqT K H a (ns.map V.int)) (hb : SqT K H b (ms.map V.int)) : RV (rGeT K) (.ref a) (.ref b) H (.bl (geV ns ms)) := rv_val fun H1 e Q q =>
  ⟨a, b, ns, ms, rfl, rfl, ex_t e ha, ex_t e hb, q⟩
/-! ### what the words of a block say -/
def wds (k : Int) (ns : List Int) (i : Nat) : List Int := (ns.drop (4 + i * (3 + vsz k))).take (3 + vsz k)
def rowOf (k : Int) (ns : List Int) (i : Nat) : R := ((wds k ns i).take 3, (wds k ns i).drop 3)
def rowsOf (k : Int) (m : Nat) (ns : List Int) : List R := (List.range m).map (rowOf k ns)
theorem rows_len (k : Int) (m : Nat) (ns : List Int) : (rowsOf k m ns).length = m := by
  unfold rowsOf
  rw [List.length_map, List.length_range]
theorem rows_at {k : Int} {m : Nat} {ns : List Int} {i : Nat} {r : R} (h : (rowsOf k m ns)[i]? = some r) : i < m ∧ r = rowOf k ns i := by
  have hi := (List.getElem?_eq_some_iff.mp h).1
  rw [rows_len] at hi
  unfold rowsOf at h
  rw [List.getElem?_map, List.getElem?_range hi] at h
  exact ⟨hi, (Option.some.inj h).symm⟩
def zsB (k : Int) (m : Nat) (ns : List Int) : Bool := (ns.drop (4 + m * (3 + vsz k))).any fun z => z != 0
def pB (r : R) : Bool := ptr (r.2.getD 0 0) (r.2.getD 1 0)
def okH (k : Int) (m : Nat) (p b : Int) : Bool := inV (.int k) [.int 1, .int 2] && (decide ((m : Int) ≤ most k) && ptr p b)
def okB (k : Int) (m : Nat) (p b : Int) (ns : List Int) : Bool := okH k m p b && ((asc (rowsOf k m ns) && !zsB k m ns) && !(decide (V.int k = V.int 2) && !(rowsOf k m ns).all pB))
theorem bad3 {i l q : Bool} (h : (!i || (!l || !q)) = true) : (i && (l && q)) = false := by cases i <;> cases l <;> cases q <;> simp_all
theorem good3 {i l q : Bool} (h : (!i || (!l || !q)) = false) : i = true ∧ l = true ∧ q = true := by cases i <;> cases l <;> cases q <;> simp_all
theorem in12 {k : Int} (h : inV (.int k) [.int 1, .int 2] = true) : k = 1 ∨ k = 2 := by
  by_cases h1 : k = 1
  · exact .inl h1
  · by_cases h2 : k = 2
    · exact .inr h2
    · have e1 : ¬ 1 = k := fun z => h1 z.symm
      have e2 : ¬ 2 = k := fun z => h2 z.symm
      simp [inV, eqV, h1, h2, e1, e2] at h
theorem fit {k : Int} {m i : Nat} (hk : k = 1 ∨ k = 2) (hm : (m : Int) ≤ most k) (hi : i < m) : 4 + i * (3 + vsz k) + (3 + vsz k) ≤ 32 := by
  rcases hk with rfl | rfl
  · have e : most 1 = 4 := rfl
    have e2 : vsz 1 = 4 := rfl
    rw [e2]
    omega
  · have e : most 2 = 5 := rfl
    have e2 : vsz 2 = 2 := rfl
    rw [e2]
    omega
theorem wds_len {k : Int} {m i : Nat} {ns : List Int} (hk : k = 1 ∨ k = 2) (hm : (m : Int) ≤ most k) (hi : i < m) (hn : ns.length = 32) : (wds k ns i).length = 3 + vsz k := by
  have := fit hk hm hi
  unfold wds
  rw [List.length_take, List.length_drop]
  omega
def spFrom (K : PySem.W.Frag) (Pt Pf CB : Addr) : Sp := fun vs H Q E => ∃ (a : Addr) (k p b : Int) (m : Nat) (tl : List Int), vs = [.ref a] ∧ SqL K H a ((k :: (m : Int) :: p :: b :: tl).map V.int) ∧ tl.length = 28 ∧ Tab H Pt ∧ Tab H Pf ∧
  (okB k m p b (k :: (m : Int) :: p :: b :: tl) = true → ∀ (t l : Addr) (xs : List V) (H' : Hp), H t = none → Ex H H' → H' t = some (.tup [.int k, .ref l]) → H' l = some (.lst xs) → Rows K H' xs (rowsOf k m (k :: (m : Int) :: p :: b :: tl)) → Q (.ref t) H') ∧
  (okB k m p b (k :: (m : Int) :: p :: b :: tl) = false → ∀ H', Ex H H' → E (.ref CB) none H')
section
variable {P : Program} {w : World} {K : PySem.W.Frag} {mg : Str → Option Value} {base : Heap} {aK : Addr}
theorem okXC {x qual : Str} {st : Stmt} {f c : Addr} {fd : FuncData} {N ps : List Str} {k : Nat} {sp : Sp} (F : FunC K x qual st f fd c) (S : FnScope N ps (defScope st)) (len : ∀ vs H Q E, sp vs H Q E → vs.length = ps.length)
    (hbody : ∀ (A : Around) (outer : List Env) (s : Shared) (H : Hp) (vs : List V) (Q : VK) (E : XK), Room k (A.deeper (envOfC qual (defScope st) s.heap.objs.size f (.ref c))) → sp vs H Q E →
      ∃ t, PSs (cxOf (L2.CX P w) P w K mg base N qual (defScope st) f (.ref c) A outer s H E) (defBody st) t ∧ t { nx := fun _ H' => Q .non H', rt := Q } (start N vs) H) : FnOk P w K mg base (L2.CX P w) (k + 1) f fd ps sp := by
  obtain ⟨oc, od, kV, doc, pm, an, ct, osl, rfl, lk, hcd⟩ := F.ex
  exact fn_of lk hcd S len fun A outer s H vs Q E hr hsp => hbody A outer s H vs Q E hr hsp
theorem ok_from {f fM fA fI fP fR fO c Pf Pt CB : Addr} {fd fdM fdA fdI fdP fdR fdO : FuncData} (F : FunC K "from_block" "from_block" sFrom f fd c) (TB : LamX.TabB base mg c Pf) (FM : Fun K "most_items" "most_items" sMost fM fdM) (bM : Binds K fdM ["kind"] []) (gM : mg "most_items" = some (.ref fM)) (FA : Fun K "are_ascending" "are_ascending" sAsc fA fdA) (GA : FnOk P w K mg base CX0 1 fA fdA ["items"] (spAsc K Pt)) (bA : Binds K fdA ["items"] []) (gA : mg "are_ascending" = some (.ref fA))
    (FIW : Fun K "item_words" "item_words" sIw fI fdI) (bIW : Binds K fdI ["kind"] []) (gIW : mg "item_words" = some (.ref fI)) (FP : Fun K "is_pointer" "is_pointer" sPtr fP fdP) (bP : Binds K fdP ["pointer"] []) (gP : mg "is_pointer" = some (.ref fP)) (FR : Fun K "read_item" "read_item" sRead fR fdR) (bR : Binds K fdR ["words"] []) (gR : mg "read_item" = some (.ref fR))
    (FO : Fun K "own_pointer" "own_pointer" sOwn fO fdO) (bO : Binds K fdO ["block"] []) (gO : mg "own_pointer" = some (.ref fO)) (T : Txt mg K aK) (XB : Xc K mg "BadImage" CB) : FnOk P w K mg base (L2.CX P w) 2 f fd ["block"] (spFrom K Pt Pf CB) := by
  have GM : FnOk P w K mg base CX0 1 fM fdM ["kind"] spMost := ok_most FM T
  have GIW : FnOk P w K mg base CX0 1 fI fdI ["kind"] spIw := ok_iwd FIW T
  have GP : FnOk P w K mg base CX0 1 fP fdP ["pointer"] (spPtr K) := ok_ptr FP T
  have GR : FnOk P w K mg base CX0 1 fR fdR ["words"] (spRead K) := ok_read FR T
  have GO : FnOk P w K mg base CX0 1 fO fdO ["block"] (spOwn K) := ok_own FO T
  refine okXC F scFrom (fun vs H Q E h => ?_) (fun A outer s H vs Q E hr h => ?_)
  · obtain ⟨a, k, p, b, m, tl, rfl, _⟩ := h
    rfl
  · obtain ⟨a, k, p, b, m, tl, rfl, hS, htl, hT, hTf, q, qE⟩ := h
    obtain ⟨_, gLEAF⟩ := T.gLEAF
    obtain ⟨_, gINNER⟩ := T.gINNER
    obtain ⟨_, gFIRST_ITEM⟩ := T.gFIRST_ITEM
    have gFIRST_BLOCK' := T.gFIRST_BLOCK
    have gMAX_BLOCKS' := T.gMAX_BLOCKS
    refine ⟨_, (pss_cons (ps_par (i := 1) (j := 2) rfl scFrom.nd rfl rfl (by decide) rfl rfl (pa_cons (pe_ix ix_list (pv 0) pe_int (fun _ _ => rfl)) (pa_cons (pe_ix ix_list (pv 0) pe_int (fun _ _ => rfl)) pa_nil)) (by rfl))
      (pss_cons (ps_if (PW.pt (pw_or (pt_cmpR op_notIn_seq (pv 1) (pe_tup (pa_cons (pe_glob (v := .int 1) rfl gLEAF ⟨_, rfl⟩) (pa_cons (pe_glob (v := .int 2) rfl gINNER ⟨_, rfl⟩) pa_nil))) rfl) (pw_or (pt_cmpR op_gt (pv 2) (pe_call GM hr (by rfl) gM FM.kp bM .nil pass0 (pa_cons (pv 1) pa_nil)) (nomark _)) (pw_or1 (pt_not (pt_val (pe_call GP hr (by rfl) gP FP.kp bP .nil pass0 (pa_cons (pe_call GO hr (by rfl) gO FO.kp bO .nil pass0 (pa_cons (pv 0) pa_nil)) pa_nil)))))))) (pss_one (ps_raise0 rfl XB (takes_of rfl rfl rfl rfl) (by rfl))) pss_nil)
      (pss_cons (ps_set (i := 3) scFrom.nd rfl (Or.inr rfl) (pe_call GIW hr (by rfl) gIW FIW.kp bIW .nil pass0 (pa_cons (pv 1) pa_nil)))
      (pss_cons (ps_set (i := 4) scFrom.nd rfl (Or.inl rfl) (pe_op op_add (pe_glob (v := .int 4) rfl gFIRST_ITEM ⟨_, rfl⟩) (pe_op op_mul (pv 2) (pv 3))))
      (pss_cons (ps_setLc (i := 5) (own := [("start", 6)]) (g := gName 6) (tt := tYes) rfl scFrom.nd rfl rfl (sw_true rfl rfl rfl (by decide +kernel)) (pi_range3 (by rfl) T.range (pa_cons (pe_glob (v := .int 4) rfl gFIRST_ITEM ⟨_, rfl⟩) (pa_cons (pv 4) (pa_cons (pv 3) pa_nil)))) (blkOk_by (own := [("start", 6)]) (N := ["block", "kind", "many", "size", "end", "items", "start"]) (sc := defScope sFrom) (by decide +kernel)) (fun _ _ _ _ _ => pg_name (i := 6) scFrom.nd rfl (Or.inl rfl)) (fun _ _ _ _ _ => pts_nil) (fun _ _ _ _ _ => (pe_call GR hr (by rfl) gR FR.kp bR .nil pass0 (pa_cons (pe_slice (r := rSlL K) sl_list (pv 0) (po_some (pv 6)) (po_some (pe_op op_add (pv 6) (pv 3)))) pa_nil))))
      (pss_cons (ps_if (PW.pt (pw_or (pt_not (pt_val (pe_call GA hr (by rfl) gA FA.kp bA .nil pass0 (pa_cons (pv 5) pa_nil)))) (pw_or1 (pt_val (pe_any hr (by rfl) T.any TB rfl ⟨rfl, rfl, by decide +kernel, rfl, rfl, fun y hy e => absurd e ((by decide +kernel : ∀ y ∈ _, y.2 ≠ NameKind.free) y hy)⟩ (pe_slice sl_list (pv 0) (po_some (pv 4)) po_none) (fun _ => rfl)))))) (pss_one (ps_raise0 rfl XB (takes_of rfl rfl rfl rfl) (by rfl))) pss_nil)
      (pss_cons (ps_if (PW.pt (pw_and (pt_cmpR op_eq (pv 1) (pe_glob (v := .int 2) rfl gINNER ⟨_, rfl⟩) (nomark _)) (pw_and1 (pt_not (pt_val (pe_allT hr (by rfl) T.all (by decide +kernel) TB rfl ⟨rfl, rfl, by decide +kernel, rfl, rfl, fun y hy e => absurd e ((by decide +kernel : ∀ y ∈ _, y.2 ≠ NameKind.free) y hy)⟩ rfl (by decide) (pv 5) (fun _ => rfl))))))) (pss_one (ps_raise0 rfl XB (takes_of rfl rfl rfl rfl) (by rfl))) pss_nil)
      (pss_one (ps_ret (pe_tup (pa_cons (pv 1) (pa_cons (pv 5) pa_nil)))))))))))), ?_⟩
    refine q_par (v := .int k) (w := .int (m : Int)) (ea_cons (ev_op (ev_var rfl) ev_c (rv_ixL hS (atI_nat (j := 0) rfl))) (ea_cons (ev_op (ev_var rfl) ev_c (rv_ixL hS (atI_nat (j := 1) rfl))) ea_nil)) fun H1 e1 => ?_
    have hnl : (k :: (m : Int) :: p :: b :: tl).length = 32 := by
      simp only [List.length_cons]
      omega
    have hgt : decide ((m : Int) > most k) = !decide ((m : Int) ≤ most k) := by
      by_cases h : (m : Int) ≤ most k
      · rw [decide_eq_true h, decide_eq_false (by omega)]
        rfl
      · rw [decide_eq_false h, decide_eq_true (by omega)]
        rfl
    refine q_when (b := !inV (.int k) [.int 1, .int 2] || (!decide ((m : Int) ≤ most k) || !ptr p b)) (et_or (et_test (ev_niU (ev_var rfl) (eu_tup (ea_cons ev_c (ea_cons ev_c ea_nil)) (by simp)) rfl rfl)) (fun h1 => et_or (et_is (et_test (ev_op (ev_var rfl) (ev_call (vs := [.int k]) (z := .int (most k)) (ea_cons (ev_var rfl) ea_nil) (fun H1 e1 Q' q' E' => ⟨k, rfl, in12 (by simpa using h1), q'⟩)) rv_I0)) hgt) (fun _ => et_not (et_B (ev_callU1 (z := .bl (ptr p b)) (eu_call (vs := [.ref a]) (xs := [.int p, .int b]) (ea_cons (ev_var rfl) ea_nil) (fun H2 e2 Q' E' q' => ⟨a, k, _, p, b, _, rfl, ex_l (e1.trans e2) hS, q'⟩)) ea_nil (fun p H2 h2 e2 H3 e3 Q' q' E' => ⟨p, _, b, rfl, st_of (e3 _ _ h2), q'⟩)))))) (fun hb H2 e2 => ?_) (fun hb H2 e2 => ?_)
    · refine qE ?_ H2 (e1.trans e2)
      unfold okB okH
      rw [bad3 hb, Bool.false_and]
    · obtain ⟨g1, g2, g3⟩ := good3 hb
      have hk := in12 g1
      have hm : (m : Int) ≤ most k := of_decide_eq_true g2
      have hOk : okH k m p b = true := by
        unfold okH
        rw [g1, g2, g3]
        rfl
      have hm5 : m ≤ 5 := by
        rcases hk with rfl | rfl
        · have e : most 1 = 4 := rfl
          omega
        · have e : most 2 = 5 := rfl
          omega
      have hrl : (rowsOf k m (k :: (m : Int) :: p :: b :: tl)).length = m := rows_len _ _ _
      generalize hns : (k :: (m : Int) :: p :: b :: tl) = ns at *
      refine q_asg (ev_call (vs := [.int k]) (z := .int (size k)) (ea_cons (ev_var rfl) ea_nil) (fun H1 e1 Q' q' E' => ⟨k, rfl, q'⟩)) fun H3 e3 => ?_
      refine q_asg (v := .int (4 + (m : Int) * size k)) (ev_op ev_c (ev_op (ev_var rfl) (ev_var rfl) (rv_I (.inl ⟨by omega, by omega⟩))) rv_I0) fun H4 e4 => ?_
      have e04 := ((e1.trans e2).trans e3).trans e4
      refine q_rows (K := K) (rs := rowsOf k m ns) (ea_cons ev_c (ea_cons (ev_var rfl) (ea_cons (ev_var rfl) ea_nil))) (by rw [hrl]; exact rg_of hk hm) (by omega) (fun _ => rfl) (fun i r H5 e5 er Q' q' => ?_) (fun D xs H5 hD e5 hx hrw => ?_)
      · obtain ⟨hi, rfl⟩ := rows_at er
        have hfit := fit hk hm hi
        have ecut : cutV (ns.map V.int) (some (4 + (i : Nat) * size k)) (some (4 + (i : Nat) * size k + size k)) = (wds k ns i).map V.int := by
          rw [size_eq, show (4 : Int) + (i : Nat) * ((3 + vsz k : Nat) : Int) = ((4 + i * (3 + vsz k) : Nat) : Int) by push_cast; rfl, ← Int.natCast_add, cut_mid _ _ _ (by omega) (by rw [List.length_map, hnl]; omega), Nat.add_sub_cancel_left, ← List.map_drop, ← List.map_take]
          rfl
        have hwl := wds_len hk hm hi hnl
        have hv := vsz_le k
        exact el_is (el_sl (ev_var rfl) (eo_some (ev_var rfl)) (eo_some (ev_op (ev_var rfl) (ev_var rfl) rv_I0)) (ex_l (e04.trans e5) hS)) ecut H5 (Ex.refl _) _ fun p H6 hp6 e6 h6 => ⟨p, wds k ns i, rfl, sq_of h6, by omega, fun t ka va H7 ht hka hva e7 g1 g2 g3 => q' t ka va H7 (fresh_back e6 ht) (fresh_back e6 hka) (fresh_back e6 hva) (e6.trans e7) g1 g2 g3⟩
      · have hxl := hrw.len
        have e05 := e04.trans e5
        have hz : cutV (ns.map V.int) (some (4 + (m : Int) * size k)) none = (ns.drop (4 + m * (3 + vsz k))).map V.int := by
          rw [size_eq, show (4 : Int) + (m : Int) * ((3 + vsz k : Nat) : Int) = ((4 + m * (3 + vsz k) : Nat) : Int) by push_cast; rfl, cut_from, ← List.map_drop]
        refine q_when (b := !asc (rowsOf k m ns) || zsB k m ns) (et_or (et_not (et_B (ev_call (vs := [.ref D]) (z := .bl (asc (rowsOf k m ns))) (ea_cons (ev_var rfl) ea_nil) (fun H6 e6 Q' q' E' => ⟨D, xs, _, rfl, sq_of (e6 _ _ hx), hrw.mono e6, by omega, hT.mono (e05.trans e6), q'⟩)))) (fun _ => et_is (et_B (ev_genL (f := fun i => (ns.drop (4 + m * (3 + vsz k))).getD i 0 != 0) (el_is (el_sl (ev_var rfl) (eo_some (ev_var rfl)) eo_none (ex_l e05 hS)) hz) (hTf.mono e05) (fun H6 e6 i u hi hu => qv_cmp qr_ne_int (qv_x rfl rfl (by
          rw [List.length_map] at hi
          rw [List.getD_eq_getElem?_getD, List.getElem?_map, List.getElem?_eq_getElem hi] at hu
          rw [List.getD_eq_getElem?_getD, List.getElem?_eq_getElem hi]
          exact hu)) qv_int rfl))) (by
          rw [List.length_map, anyF_list (ns.drop (4 + m * (3 + vsz k))) 0 (fun z => z != 0)]
          rfl))) (fun hb2 H6 e6 => ?_) (fun hb2 H6 e6 => ?_)
        · refine qE ?_ H6 (e05.trans e6)
          unfold okB
          rw [hOk, Bool.true_and]
          cases ha : asc (rowsOf k m ns) <;> cases hzz : zsB k m ns <;> simp_all
        · have hasc : asc (rowsOf k m ns) = true ∧ zsB k m ns = false := by
            cases ha : asc (rowsOf k m ns) <;> cases hzz : zsB k m ns <;> simp_all
          have hva : ∀ i : Nat, ∃ v : Addr, ∀ r, (rowsOf k m ns)[i]? = some r → ∃ (t ka : Addr), xs[i]? = some (.ref t) ∧ SqT K H6 t [.ref ka, .ref v] ∧ SqT K H6 v (r.2.map V.int) := fun i => by
            by_cases hi : i < xs.length
            · obtain ⟨t, ka, v, r, ex, er, s1, _, s3⟩ := (hrw.mono e6).at (List.getElem?_eq_getElem hi)
              refine ⟨v, fun r' er' => ?_⟩
              rw [er] at er'
              cases er'
              exact ⟨t, ka, by rw [List.getElem?_eq_getElem hi, ex], s1, s3⟩
            · refine ⟨0, fun r er => absurd (List.getElem?_eq_some_iff.mp er).1 (by omega)⟩
          obtain ⟨va, hva⟩ := Classical.skolem.mp hva
          have ca : decide (V.int k = V.int 2) = true → k = 2 := fun h => V.int.inj (of_decide_eq_true h)
          refine q_when (b := decide (V.int k = V.int 2) && !(rowsOf k m ns).all pB) (et_and (et_test (ev_op (ev_var rfl) ev_c (rv_eq rfl))) (fun hb => et_not (et_is (et_B (ev_genT (n := xs.length) (xs := fun i => .ref (va i)) (f := fun i => pB ((rowsOf k m ns).getD i ([], []))) (ev_var rfl) (hTf.mono (e05.trans e6)) (fun H7 e7 => ⟨D, xs, rfl, sq_of (e7 _ _ (e6 _ _ hx)), rfl, fun i hi => by
            obtain ⟨t, ka, g1, g2, _⟩ := hva i _ (List.getElem?_eq_getElem (by omega))
            exact ⟨t, .ref ka, g1, ex_t e7 g2⟩⟩) (fun H7 e7 i u hi hu => by
            have hi' : i < (rowsOf k m ns).length := by omega
            obtain ⟨t, ka, g1, g2, g3⟩ := hva i _ (List.getElem?_eq_getElem hi')
            have er := (rows_at (List.getElem?_eq_getElem hi')).2
            have hwl := wds_len hk hm (i := i) (by omega) hnl
            have v2 : vsz k = 2 := by rw [ca hb]; rfl
            obtain ⟨n', b', q1⟩ : ∃ n' b', (rowsOf k m ns)[i].2 = [n', b'] := by
              have hl : (rowsOf k m ns)[i].2.length = 2 := by
                rw [er]
                show ((wds k ns i).drop 3).length = 2
                rw [List.length_drop, hwl, v2]
              match (rowsOf k m ns)[i].2, hl with
              | [n', b'], _ => exact ⟨_, _, rfl⟩
            rw [q1] at g3
            rw [getD_of (List.getElem?_eq_getElem hi')]
            unfold pB
            rw [q1]
            obtain ⟨_, gFB⟩ := gFIRST_BLOCK'
            obtain ⟨_, gMB⟩ := gMAX_BLOCKS'
            exact qv_call2 (c1 := decide (5 ≤ n') && decide (n' < 256)) (c2 := decide (1 ≤ b')) hr (hTf.mono ((e05.trans e6).trans e7)) rfl rfl gP FP rfl scPtr rfl rfl rfl (by decide) bP (qv_x rfl rfl hu) (ex_t e7 g3)
              (fun A0 v rv => qv_chain qr_le_int qr_lt_int (qv_glob rfl rfl gFB ⟨_, rfl⟩) (qv_x rfl rfl rv) (qv_glob rfl rfl gMB ⟨_, rfl⟩)) (fun A0 v rv => qv_cmp qr_ge_int (qv_x rfl rfl rv) qv_int rfl)))) (by rw [hxl, allF_list (rowsOf k m ns) ([], []) pB])))) (fun hb3 H7 e7 => ?_) (fun hb3 H7 e7 => ?_)
          · refine qE ?_ H7 (e05.trans (e6.trans e7))
            unfold okB
            rw [hb3]
            simp
          · refine s_retU (eu_tup (ea_cons (ev_var rfl) (ea_cons (ev_var rfl) ea_nil)) (by simp)) fun t H8 ht e8 h8 => q ?_ t D xs H8 (fresh_back (e05.trans (e6.trans e7)) ht) ((e05.trans (e6.trans e7)).trans e8) h8 (e8 _ _ (e7 _ _ (e6 _ _ hx))) (hrw.mono ((e6.trans e7).trans e8))
            unfold okB
            rw [hOk, hasc.1, hasc.2, hb3]
            rfl
end

end K10

set_option Elab.async false
set_option linter.all false
set_option maxRecDepth 100000
set_option maxHeartbeats 4000000
namespace K10
open PySem PySem.Spec PyProof.Rows L2 Evl LK LT LG LS LQ LX LN StX
theorem ge_lt (a0 a1 a2 b0 b1 b2 : Int) : geV [a0, a1, a2] [b0, b1, b2] = !HT.lexLt [a0, a1, a2] [b0, b1, b2] := by
  have e : geV [a0, a1, a2] [b0, b1, b2] = if a0 = b0 then (if a1 = b1 then (if a2 = b2 then true else decide (b2 ≤ a2)) else decide (b1 ≤ a1)) else decide (b0 ≤ a0) := by
    simp [geV, Ob.lexAt]
  rw [e, HT.lexLt_cons, HT.lexLt_cons, HT.lexLt_cons, HT.lexLt_nil_nil]
  have neg : ∀ x y : Int, ¬ x = y → decide (y ≤ x) = !decide (x < y) := fun x y h => by
    by_cases q : x < y
    · rw [decide_eq_true q, decide_eq_false (by omega)]
      rfl
    · rw [decide_eq_false q, decide_eq_true (by omega)]
      rfl
  by_cases h0 : a0 = b0
  · rw [if_pos h0, if_pos h0]
    by_cases h1 : a1 = b1
    · rw [if_pos h1, if_pos h1]
      by_cases h2 : a2 = b2
      · rw [if_pos h2, if_pos h2]
        rfl
      · rw [if_neg h2, if_neg h2]
        exact neg _ _ h2
    · rw [if_neg h1, if_neg h1]
      exact neg _ _ h1
  · rw [if_neg h0, if_neg h0]
    exact neg _ _ h0
theorem eqv_ne {rs : List R} (h : rs ≠ []) : PyData.eqv (.list (rs.map rd)) (.list []) = false := by
  cases rs with
  | nil => exact absurd rfl h
  | cons r rs => simp [PyData.eqv, PyData.eqvAll]
def menu : List Int := [0, 1, 2, 3, 4, 5, 6, 255, 256, 4611686018427387903]
def wdV (c : Int) : Int := if c % 2 = 0 then menu.getD (c / 2 % 10).toNat 0 else c / 2 % 4611686018427387904
theorem menu_nn : ∀ i : Fin 10, 0 ≤ menu.getD i.val 0 := by decide
theorem wdV_nn (c : Int) : 0 ≤ wdV c := by
  unfold wdV
  split
  · have h1 := Int.emod_lt_of_pos (c / 2) (show (0 : Int) < 10 by decide)
    have h2 := Int.emod_nonneg (c / 2) (show (10 : Int) ≠ 0 by decide)
    exact menu_nn ⟨(c / 2 % 10).toNat, by omega⟩
  · exact Int.emod_nonneg _ (by decide)
def spWd : Sp := fun vs H Q _ => ∃ c : Int, vs = [.int c] ∧ RetV (.int (wdV c)) H Q
def spNode (K : PySem.W.Frag) : Sp := fun vs H Q _ => ∃ (a : Addr) (ns : List Int), vs = [.ref a] ∧ SqL K H a (ns.map V.int) ∧ ∀ (t l : Addr) (z : Int) (ws : List Int) (H' : Hp), H t = none → H l = none → Ex H H' → H' t = some (.tup [.ref l, .int z]) → H' l = some (.lst (ws.map V.int)) → ws.length = 32 → (∀ x ∈ ws, 0 ≤ x) → Q (.ref t) H'
def spLp (K : PySem.W.Frag) : Sp := fun vs H Q _ => ∃ (a : Addr) (x y : Int) (r : List Int), vs = [.ref a] ∧ SqL K H a ((x :: y :: r).map V.int) ∧ RetV (.bl (ptr x y)) H Q
section
variable {K : PySem.W.Frag} {σ : L2.St} {H : Hp} {ta tb te te1 te2 : TE} {D : Ends} {tz : TS}
theorem s_appUU {l : Addr} {x : V} {xs ys : List V} (hl : H l = some (.lst xs)) (ha : Ev ta σ H (.ref l)) (h1 : Ev te1 σ H x) (h2 : EvU te2 σ H ys) (hz : xs.length < 100000) (k : ∀ p v H1, H p = none → H v = none → Ex H H1 → H1 p = some (.tup [x, .ref v]) → H1 v = some (.tup ys) → D.nx σ (upd H1 l (.lst (xs ++ [.ref p])))) :
    tDrop (tBM K "list" rAppend ta (tCons (tTup (tCons te1 (tCons te2 tNil))) tNil)) D σ H := ha H (Ex.refl H) _ fun H1 e1 =>
  ⟨Or.inl ⟨rfl, xs, sq_of (e1 l _ hl)⟩, h1 H1 e1 _ fun H2 e2 => h2 H2 (e1.trans e2) _ fun v H3 hv e3 h3 => ⟨sz_of (by simp), fun p hp => ⟨l, xs, .ref p, rfl, rfl, (Ex.new hp) _ _ (((e1.trans e2).trans e3) l _ hl), sz_lt hz,
    k p v _ (fresh_back ((e1.trans e2).trans e3) hp) (fresh_back (e1.trans e2) hv) (((e1.trans e2).trans e3).trans (Ex.new hp)) upd_same ((Ex.new hp) _ _ h3)⟩⟩⟩
theorem ev_callL1 {sp : Sp} {dvs xs : List V} {E : XK} {z : V} (h : EvL ta σ H xs) (hs : ∀ p H1, H1 p = some (.lst xs) → Ex H H1 → SpV sp ([.ref p] ++ dvs) H1 z) : Ev (tCall sp dvs E (tCons ta tNil)) σ H z := fun H1 e Q q =>
  h H1 e _ fun p H2 hp e2 h2 => hs p H2 h2 (e.trans e2) H2 (Ex.refl _) Q (fun H4 e4 => q H4 (e2.trans e4)) E
theorem el_catL {l : Addr} {xs ys : List V} (ha : Ev ta σ H (.ref l)) (hl : H l = some (.lst xs)) (hb : EvL tb σ H ys) (hz : xs.length + ys.length ≤ 100000) : EvL (tOp rCat ta tb) σ H (xs ++ ys) := el_cat ha hl hb hz
theorem s_retLV {xs : List V} {y : V} (h1 : EvL te1 σ H xs) (h2 : ∀ H1, Ex H H1 → Ev te2 σ H1 y) (k : ∀ p l H1, H p = none → H l = none → Ex H H1 → H1 p = some (.tup [.ref l, y]) → H1 l = some (.lst xs) → D.rt (.ref p) H1) : tRet (tTup (tCons te1 (tCons te2 tNil))) D σ H :=
  h1 H (Ex.refl H) _ fun l H2 hl e2 g2 => h2 H2 e2 H2 (Ex.refl _) _ fun H3 e3 => ⟨sz_of (by simp), fun p hp => k p l _ (fresh_back (e2.trans e3) hp) hl ((e2.trans e3).trans (Ex.new hp)) upd_same ((Ex.new hp) _ _ (e3 _ _ g2))⟩
/-- a slice of a new list -/
theorem el_slL {tl th : TO} {xs : List V} {lo hi : Option Int} (h : EvL te σ H xs) (h1 : ∀ H1, Ex H H1 → EvO tl σ H1 lo) (h2 : ∀ H1, Ex H H1 → EvO th σ H1 hi) : EvL (tSl (rSlL K) te tl th) σ H (cutV xs lo hi) := fun H1 e _ q =>
  h H1 e _ fun a H2 ha e2 g2 => h1 H2 (e.trans e2) H2 (Ex.refl _) _ fun H3 e3 => h2 H3 ((e.trans e2).trans e3) H3 (Ex.refl _) _ fun H4 e4 =>
    ⟨a, xs, rfl, sq_of (e4 _ _ (e3 _ _ g2)), fun p hp => q p _ (fresh_back ((e2.trans e3).trans e4) hp) (((e2.trans e3).trans e4).trans (Ex.new hp)) upd_same⟩
end
section
variable {P : Program} {w : World} {K : PySem.W.Frag} {mg : Str → Option Value} {base : Heap} {aK : Addr}
theorem ok_wd {f : Addr} {fd : FuncData} (F : Fun K "_law_word" "_law_word" sWd f fd) (T : Txt mg K aK) : FnOk P w K mg base CX0 1 f fd ["cell"] spWd := by
  refine F.ok scWd (fun vs H Q E h => ?_) (fun cdv A outer s H vs Q E hr h => ?_)
  · obtain ⟨c, rfl, _⟩ := h
    rfl
  · obtain ⟨c, rfl, q⟩ := h
    refine ⟨_, (pss_cons (ps_set (i := 1) scWd.nd rfl (Or.inl rfl) (pe_tup (pa_cons pe_int (pa_cons pe_int (pa_cons pe_int (pa_cons pe_int (pa_cons pe_int (pa_cons pe_int (pa_cons pe_int (pa_cons pe_int (pa_cons pe_int (pa_cons pe_int pa_nil))))))))))))
      (pss_cons (ps_if (pt_cmpR op_eq (pe_op op_mod (pv 0) pe_int) pe_int (nomark _)) (pss_one (ps_ret (pe_ix ix_tup (pv 1) (pe_op op_mod (pe_op op_fdiv (pv 0) pe_int) pe_int) (fun _ _ => rfl)))) pss_nil)
      (pss_one (ps_ret (pe_op op_mod (pe_op op_fdiv (pv 0) pe_int) pe_int))))), ?_⟩
    refine q_asgU (eu_tup (vs := menu.map V.int) (ea_cons ev_c (ea_cons ev_c (ea_cons ev_c (ea_cons ev_c (ea_cons ev_c (ea_cons ev_c (ea_cons ev_c (ea_cons ev_c (ea_cons ev_c (ea_cons ev_c ea_nil)))))))))) (by simp [menu])) fun ma H1 hma e1 h1 => ?_
    refine q_when (et_test (ev_op (ev_op (ev_var rfl) ev_c (rv_I (by show (0 : Int) < 2; decide))) ev_c (rv_eq rfl))) (fun hb H2 e2 => ?_) (fun hb H2 e2 => ?_)
    · have h2 := Int.emod_nonneg (c / 2) (show (10 : Int) ≠ 0 by decide)
      have h3 := Int.emod_lt_of_pos (c / 2) (show (0 : Int) < 10 by decide)
      obtain ⟨j, hj⟩ := Int.eq_ofNat_of_zero_le h2
      have hjl : j < menu.length := by
        have : menu.length = 10 := rfl
        omega
      have e : wdV c = menu[j] := by
        unfold wdV
        rw [if_pos (V.int.inj (of_decide_eq_true hb)), hj, Int.toNat_natCast, List.getD_eq_getElem?_getD, List.getElem?_eq_getElem hjl]
        rfl
      rw [e] at q
      exact s_ret (ev_op (ev_var rfl) (ev_op (ev_op (ev_var rfl) ev_c (rv_I ⟨by decide, by decide⟩)) ev_c (rv_I (by show (0 : Int) < 10; decide))) (rv_ixT (st_of (e2 _ _ h1)) (by rw [hj]; exact atI_nat (by rw [List.getElem?_map, List.getElem?_eq_getElem hjl]; rfl)))) fun H3 e3 => q H3 ((e1.trans e2).trans e3)
    · have e : wdV c = c / 2 % 4611686018427387904 := by
        unfold wdV
        rw [if_neg fun z => of_decide_eq_false hb (congrArg V.int z)]
      rw [e] at q
      exact s_ret (ev_op (ev_op (ev_var rfl) ev_c (rv_I ⟨by decide, by decide⟩)) ev_c (rv_I (by show (0 : Int) < 4611686018427387904; decide))) fun H3 e3 => q H3 ((e1.trans e2).trans e3)
theorem ok_lp {f : Addr} {fd : FuncData} (F : Fun K "_law_pointer" "_law_pointer" sLp f fd) (T : Txt mg K aK) : FnOk P w K mg base CX0 1 f fd ["words"] (spLp K) := by
  refine F.ok scLp (fun vs H Q E h => ?_) (fun cdv A outer s H vs Q E hr h => ?_)
  · obtain ⟨a, x, y, r, rfl, _⟩ := h
    rfl
  · obtain ⟨a, x, y, r, rfl, hS, q⟩ := h
    refine ⟨_, (pss_one (ps_ret (pe_and (pe_chain op_le op_le pe_int (pe_ix ix_list (pv 0) pe_int (fun _ _ => rfl)) pe_int) (pe_one (pe_cmpR op_ge (pe_ix ix_list (pv 0) pe_int (fun _ _ => rfl)) pe_int (nomark _)))))), ?_⟩
    have e : (decide (x ≤ 255)) = decide (x < 256) := decide_eq_decide.mpr (by omega)
    refine s_ret (ev_is (ev_andV (ev_chain ev_c (ev_op (ev_var rfl) ev_c (rv_ixL hS (atI_nat (j := 0) rfl))) ev_c) (fun _ => ev_op (ev_op (ev_var rfl) ev_c (rv_ixL hS (atI_nat (j := 1) rfl))) ev_c rv_I0)) (w := .bl (ptr x y)) ?_) fun H1 e1 => q H1 e1
    show V.bl ((decide (5 ≤ x) && decide (x ≤ 255)) && decide (y ≥ 1)) = _
    rw [e]
    rfl
theorem ok_node {f fC : Addr} {fd fdC : FuncData} (F : Fun K "_law_node" "_law_node" sNode f fd) (FC : Fun K "_law_cell" "_law_cell" sCell fC fdC) (bC : Binds K fdC ["script", "k"] []) (gC : mg "_law_cell" = some (.ref fC)) (T : Txt mg K aK) : FnOk P w K mg base CX0 2 f fd ["script"] (spNode K) := by
  have GC : FnOk P w K mg base CX0 1 fC fdC ["script", "k"] (spCel K) := ok_cell FC T
  refine F.ok scNode (fun vs H Q E h => ?_) (fun cdv A outer s H vs Q E hr h => ?_)
  · obtain ⟨a, ns, rfl, _⟩ := h
    rfl
  · obtain ⟨a, ns, rfl, hS, q⟩ := h
    refine ⟨_, (pss_cons (ps_set (i := 1) scNode.nd rfl (Or.inl rfl) (pe_op op_add pe_int (pe_op op_mod (pe_call GC hr (by rfl) gC FC.kp bC .nil pass0 (pa_cons (pv 0) (pa_cons pe_int pa_nil))) pe_int)))
      (pss_cons (ps_set (i := 2) scNode.nd rfl (Or.inl rfl) (pe_op op_sub pe_int (pe_op op_mul pe_int (pv 1))))
      (pss_cons (ps_set (i := 3) scNode.nd rfl (Or.inl rfl) (pe_op op_mod (pe_op op_fdiv (pe_call GC hr (by rfl) gC FC.kp bC .nil pass0 (pa_cons (pv 0) (pa_cons pe_int pa_nil))) pe_int) (pe_op op_add pe_int (pv 1))))
      (pss_cons (ps_set (i := 4) scNode.nd rfl (Or.inl rfl) (pe_lst (pa_cons (pv 1) (pa_cons (pv 3) (pa_cons (pe_op op_add pe_int (pe_op op_mod (pe_call GC hr (by rfl) gC FC.kp bC .nil pass0 (pa_cons (pv 0) (pa_cons pe_int pa_nil))) pe_int)) (pa_cons (pe_op op_add pe_int (pe_op op_mod (pe_op op_fdiv (pe_call GC hr (by rfl) gC FC.kp bC .nil pass0 (pa_cons (pv 0) (pa_cons pe_int pa_nil))) pe_int) pe_int)) pa_nil))))))
      (pss_cons (ps_for PassesOwn.never rfl (pi_range1 (by rfl) T.range (pa_cons (pe_ix ix_list (pv 4) pe_int (fun _ _ => rfl)) pa_nil)) (pg_name (i := 5) scNode.nd rfl (Or.inl rfl)) (pss_cons (ps_set (i := 6) scNode.nd rfl (Or.inl rfl) (pe_call GC hr (by rfl) gC FC.kp bC .nil pass0 (pa_cons (pv 0) (pa_cons (pe_op op_add pe_int (pv 5)) pa_nil))))
      (pss_cons (ps_set (i := 4) scNode.nd rfl (Or.inl rfl) (pe_op op_cat (pv 4) (pe_lst (pa_cons (pe_op op_add pe_int (pe_op op_fdiv (pv 5) pe_int)) (pa_cons (pe_op op_add (pe_op op_mod (pv 6) pe_int) (pe_op op_mul pe_int (pv 5))) (pa_cons (pe_op op_mod (pe_op op_fdiv (pv 6) pe_int) pe_int) pa_nil))))))
      (pss_one (ps_if (pt_cmpR op_eq (pv 1) pe_int (nomark _)) (pss_one (ps_set (i := 4) scNode.nd rfl (Or.inl rfl) (pe_op op_cat (pv 4) (pe_lst (pa_cons (pe_op op_add pe_int (pe_op op_mod (pv 6) pe_int)) (pa_cons (pe_op op_add pe_int (pe_op op_mod (pe_op op_fdiv (pv 6) pe_int) pe_int)) pa_nil)))))) (pss_one (ps_set (i := 4) scNode.nd rfl (Or.inl rfl) (pe_op op_cat (pv 4) (pe_lst (pa_cons (pe_op op_mod (pv 6) pe_int) (pa_cons (pe_op op_mod (pe_op op_fdiv (pv 6) pe_int) pe_int) (pa_cons pe_int (pa_cons (pe_op op_mod (pe_op op_fdiv (pv 6) pe_int) (pe_op op_pow pe_int pe_int)) pa_nil)))))))))))))
      (pss_one (ps_ret (pe_tup (pa_cons (pe_slice sl_list (pe_op op_cat (pv 4) (pe_op op_rep (pe_lst (pa_cons pe_int pa_nil)) pe_int)) po_none (po_some pe_int)) (pa_cons (pv 2) pa_nil)))))))))), ?_⟩
    have cc : ∀ {H1 : Hp} {z : Int} {σ : L2.St} {tk : TE} (j : Nat), Ex H H1 → z = (j : Int) → σ[0]? = some (some (.ref a)) → Ev tk σ H1 (.int z) → Ev (tCall (spCel K) [] E0 (tCons (tVar 0) (tCons tk tNil))) σ H1 (.int (cellv ns j)) :=
      fun j e ez h0 hk => ev_call (ea_cons (ev_var h0) (ea_cons hk ea_nil)) (sv_cell (ex_l e hS) ez)
    have hk0 : 1 + cellv ns 0 % 2 = 1 ∨ 1 + cellv ns 0 % 2 = 2 := by omega
    refine q_asg (ev_op ev_c (ev_op (cc 0 (Ex.refl _) rfl rfl ev_c) ev_c (rv_I (by show (0 : Int) < 2; decide))) rv_I0) fun H1 e1 => ?_
    generalize 1 + cellv ns 0 % 2 = k at hk0
    refine q_asg (ev_op ev_c (ev_op ev_c (ev_var rfl) (rv_I (.inl ⟨by decide, by decide⟩))) rv_I0) fun H2 e2 => ?_
    generalize 9 - 2 * k = sz
    have m0 := Int.emod_nonneg (cellv ns 0 / 2) (show (4 : Int) + k ≠ 0 by omega)
    have m1 := Int.emod_lt_of_pos (cellv ns 0 / 2) (show (0 : Int) < 4 + k by omega)
    refine q_asg (ev_op (ev_op (cc 0 (e1.trans e2) rfl rfl ev_c) ev_c (rv_I ⟨by decide, by decide⟩)) (ev_op ev_c (ev_var rfl) rv_I0) (rv_I (by show (0 : Int) < 4 + k; omega))) fun H3 e3 => ?_
    generalize cellv ns 0 / 2 % (4 + k) = m at *
    have e03 := (e1.trans e2).trans e3
    have b0 := Int.emod_nonneg (cellv ns 1) (show (251 : Int) ≠ 0 by decide)
    have b1 := Int.emod_nonneg (cellv ns 1 / 251) (show (99 : Int) ≠ 0 by decide)
    refine q_asgL (xs := [k, m, 5 + cellv ns 1 % 251, 1 + cellv ns 1 / 251 % 99].map V.int) (el_lst (ea_cons (ev_var rfl) (ea_cons (ev_var rfl) (ea_cons (ev_op ev_c (ev_op (cc 1 e03 rfl rfl ev_c) ev_c (rv_I (by show (0 : Int) < 251; decide))) rv_I0) (ea_cons (ev_op ev_c (ev_op (ev_op (cc 1 e03 rfl rfl ev_c) ev_c (rv_I ⟨by decide, by decide⟩)) ev_c (rv_I (by show (0 : Int) < 99; decide))) rv_I0) ea_nil)))) (by simp)) fun wa H4 hwa e4 h4 => ?_
    have nn0 : ∀ x ∈ [k, m, 5 + cellv ns 1 % 251, 1 + cellv ns 1 / 251 % 99], 0 ≤ x := fun x hx => by
      simp only [List.mem_cons, List.not_mem_nil, or_false] at hx
      rcases hx with rfl | rfl | rfl | rfl <;> omega
    have i1 : ([k, m, 5 + cellv ns 1 % 251, 1 + cellv ns 1 / 251 % 99].map V.int)[1]? = some (.int m) := rfl
    have len4 : [k, m, 5 + cellv ns 1 % 251, 1 + cellv ns 1 / 251 % 99].length = 4 := rfl
    generalize [k, m, 5 + cellv ns 1 % 251, 1 + cellv ns 1 / 251 % 99] = w0 at *
    refine q_forR1 (n := m) (ea_cons (ev_op (ev_var rfl) ev_c (rv_ixL (sq_of h4) (atI_nat (j := 1) i1))) ea_nil) ⟨m0, by omega⟩
      (fun i σ' H' => ∃ (wb : Addr) (y5 y6 : Option V) (ws : List Int), σ' = [some (.ref a), some (.int k), some (.int sz), some (.int m), some (.ref wb), y5, y6] ∧ Ex H H' ∧ H' wb = some (.lst (ws.map V.int)) ∧ ws.length ≤ 4 + 7 * i ∧ ∀ x ∈ ws, 0 ≤ x)
      (fun H5 e5 => ⟨wa, none, none, w0, rfl, (e03.trans e4).trans e5, e5 _ _ h4, by omega, nn0⟩) ?_ ?_
    · rintro i σ' H' hi ⟨wb, y5, y6, ws, rfl, e0, hw, hl, nn⟩
      have hi5 : i < 6 := by rcases hk0 with rfl | rfl <;> omega
      refine q_asg (cc (2 + i) e0 (by show (2 : Int) + (i : Int) = ((2 + i : Nat) : Int); omega) rfl (ev_op ev_c (ev_var rfl) rv_I0)) fun H5 e5 => ?_
      generalize cellv ns (2 + i) = c
      refine q_asgL (xs := (ws ++ [1 + (i : Int) / 2, c % 3 + 3 * (i : Int), c / 3 % 100]).map V.int) (el_is (el_cat (ev_var rfl) (e5 _ _ hw) (el_lst (ea_cons (ev_op ev_c (ev_op (ev_var rfl) ev_c (rv_I ⟨by decide, by decide⟩)) rv_I0) (ea_cons (ev_op (ev_op (ev_var rfl) ev_c (rv_I (by show (0 : Int) < 3; decide))) (ev_op ev_c (ev_var rfl) (rv_I (.inl ⟨by decide, by decide⟩))) rv_I0) (ea_cons (ev_op (ev_op (ev_var rfl) ev_c (rv_I ⟨by decide, by decide⟩)) ev_c (rv_I (by show (0 : Int) < 100; decide))) ea_nil))) (by simp)) (by
        rw [List.length_map]
        simp only [List.length_cons, List.length_nil]
        omega)) (by rw [List.map_append]; rfl)) fun wc H6 hwc e6 h6 => ?_
      have nn2 : ∀ x ∈ ws ++ [1 + (i : Int) / 2, c % 3 + 3 * (i : Int), c / 3 % 100], 0 ≤ x := fun x hx => by
        rcases List.mem_append.mp hx with h | h
        · exact nn x h
        · simp only [List.mem_cons, List.not_mem_nil, or_false] at h
          rcases h with rfl | rfl | rfl <;> omega
      have hl2 : (ws ++ [1 + (i : Int) / 2, c % 3 + 3 * (i : Int), c / 3 % 100]).length ≤ 7 + 7 * i := by
        rw [List.length_append]
        simp only [List.length_cons, List.length_nil]
        omega
      generalize ws ++ [1 + (i : Int) / 2, c % 3 + 3 * (i : Int), c / 3 % 100] = w2 at *
      have e56 := (e0.trans e5).trans e6
      refine s_if (et_test (ev_op (ev_var rfl) ev_c (rv_eq rfl))) (fun _ H7 e7 => ?_) (fun _ H7 e7 => ?_)
      · refine s_asgL (xs := (w2 ++ [5 + c % 251, 1 + c / 251 % 5]).map V.int) (el_is (el_cat (ev_var rfl) (e7 _ _ h6) (el_lst (ea_cons (ev_op ev_c (ev_op (ev_var rfl) ev_c (rv_I (by show (0 : Int) < 251; decide))) rv_I0) (ea_cons (ev_op ev_c (ev_op (ev_op (ev_var rfl) ev_c (rv_I ⟨by decide, by decide⟩)) ev_c (rv_I (by show (0 : Int) < 5; decide))) rv_I0) ea_nil)) (by simp)) (by
          rw [List.length_map]
          simp only [List.length_cons, List.length_nil]
          omega)) (by rw [List.map_append]; rfl)) fun wd H8 hwd e8 h8 => ⟨wd, _, _, _, rfl, (e56.trans e7).trans e8, h8, by
          rw [List.length_append]
          simp only [List.length_cons, List.length_nil]
          omega, fun x hx => ?_⟩
        rcases List.mem_append.mp hx with h | h
        · exact nn2 x h
        · simp only [List.mem_cons, List.not_mem_nil, or_false] at h
          rcases h with rfl | rfl <;> omega
      · refine s_asgL (xs := (w2 ++ [c % 7, c / 7 % 7, 0, c / 49 % 10 ^ (12 : Int).toNat]).map V.int) (el_is (el_cat (ev_var rfl) (e7 _ _ h6) (el_lst (ea_cons (ev_op (ev_var rfl) ev_c (rv_I (by show (0 : Int) < 7; decide))) (ea_cons (ev_op (ev_op (ev_var rfl) ev_c (rv_I ⟨by decide, by decide⟩)) ev_c (rv_I (by show (0 : Int) < 7; decide))) (ea_cons ev_c (ea_cons (ev_op (ev_op (ev_var rfl) ev_c (rv_I ⟨by decide, by decide⟩)) (ev_op ev_c ev_c (rv_I ⟨by decide, by decide, by decide⟩)) (rv_I (by show (0 : Int) < 10 ^ (12 : Int).toNat; decide))) ea_nil)))) (by simp)) (by
          rw [List.length_map]
          simp only [List.length_cons, List.length_nil]
          omega)) (by rw [List.map_append]; rfl)) fun wd H8 hwd e8 h8 => ⟨wd, _, _, _, rfl, (e56.trans e7).trans e8, h8, by
          rw [List.length_append]
          simp only [List.length_cons, List.length_nil]
          omega, fun x hx => ?_⟩
        have hp := Int.emod_nonneg (c / 49) (show (10 : Int) ^ (12 : Int).toNat ≠ 0 by decide)
        rcases List.mem_append.mp hx with h | h
        · exact nn2 x h
        · simp only [List.mem_cons, List.not_mem_nil, or_false] at h
          rcases h with rfl | rfl | rfl | rfl
          · omega
          · omega
          · omega
          · exact hp
    · rintro σ' H' ⟨wb, y5, y6, ws, rfl, e0, hw, hl, nn⟩
      have hl6 : ws.length ≤ 1000 := by
        have hmm : m.toNat ≤ 6 := by rcases hk0 with rfl | rfl <;> omega
        omega
      have tl : EvL _ _ H' (((ws ++ List.replicate 32 (0 : Int)).take 32).map V.int) := el_is (el_slL (K := K) (σ := [some (.ref a), some (.int k), some (.int sz), some (.int m), some (.ref wb), y5, y6]) (el_cat (ev_var (i := 4) rfl) hw (el_rep1 (el_lst (ea_cons (ev_c (v := .int 0)) ea_nil) (by simp)) (ev_c (v := .int 32)) (by decide) (by decide)) (by
        rw [List.length_map, List.length_replicate]
        show ws.length + 32 ≤ 100000
        omega)) (fun _ _ => eo_none) (fun _ _ => eo_some (ev_c (v := .int 32)))) ((cut_to _ 32).trans (by
        rw [List.map_take, List.map_append, List.map_replicate]
        rfl))
      refine s_retLV tl (fun H1 e1 => ev_var rfl) fun t l H5 ht hl5 e5 h5 g5 => q t l sz _ H5 (fresh_back e0 ht) (fresh_back e0 hl5) (e0.trans e5) h5 g5 ?_ fun x hx => ?_
      · rw [List.length_take, List.length_append, List.length_replicate]
        omega
      · rcases List.mem_append.mp (List.mem_of_mem_take hx) with h | h
        · exact nn x h
        · rw [(List.mem_replicate.mp h).2]
          decide
end
end K10

set_option Elab.async false
set_option linter.all false
set_option maxRecDepth 100000
set_option maxHeartbeats 4000000
namespace K10
open PySem PySem.Spec PyProof.Rows L2 Evl LK LT LG LS LQ LX LN StX
def spDue (K : PySem.W.Frag) : Sp := fun vs H Q _ => ∃ (a : Addr) (k p b : Int) (m : Nat) (tl : List Int), vs = [.ref a] ∧ SqL K H a ((k :: (m : Int) :: p :: b :: tl).map V.int) ∧ tl.length = 28 ∧
  (okB k m p b (k :: (m : Int) :: p :: b :: tl) = true → ∀ (t l : Addr) (xs : List V) (H' : Hp), H t = none → Ex H H' → H' t = some (.tup [.int k, .ref l]) → H' l = some (.lst xs) → Rows K H' xs (rowsOf k m (k :: (m : Int) :: p :: b :: tl)) → Q (.ref t) H') ∧
  (okB k m p b (k :: (m : Int) :: p :: b :: tl) = false → RetV .non H Q)
theorem not12 {k : Int} (h1 : ¬ k = 1) (h2 : ¬ k = 2) : inV (.int k) [.int 1, .int 2] = false := by
  cases h : inV (.int k) [.int 1, .int 2] with
  | false => rfl
  | true => rcases in12 h with e | e <;> contradiction
theorem asc_bad {rs : List R} {i : Nat} (hi : i + 1 < rs.length) (h : HT.lexLt (key rs i) (key rs (i + 1)) = false) : asc rs = false := by
  unfold asc allF
  rw [List.all_eq_false]
  exact ⟨i, List.mem_range.mpr (by omega), by rw [h]; decide⟩
theorem asc_good {rs : List R} (h : ∀ i, i + 1 < rs.length → HT.lexLt (key rs i) (key rs (i + 1)) = true) : asc rs = true := by
  unfold asc allF
  rw [List.all_eq_true]
  exact fun i hi => h i (by have := List.mem_range.mp hi; omega)
section
variable {P : Program} {w : World} {K : PySem.W.Frag} {mg : Str → Option Value} {base : Heap} {aK : Addr}
theorem ok_due {f fLp : Addr} {fd fdLp : FuncData} (F : Fun K "_law_due" "_law_due" sDue f fd) (FLp : Fun K "_law_pointer" "_law_pointer" sLp fLp fdLp) (bLp : Binds K fdLp ["words"] []) (gLp : mg "_law_pointer" = some (.ref fLp)) (T : Txt mg K aK) : FnOk P w K mg base CX0 2 f fd ["words"] (spDue K) := by
  have GLp : FnOk P w K mg base CX0 1 fLp fdLp ["words"] (spLp K) := ok_lp FLp T
  refine F.ok scDue (fun vs H Q E h => ?_) (fun cdv A outer s H vs Q E hr h => ?_)
  · obtain ⟨a, k, p, b, m, tl, rfl, _⟩ := h
    rfl
  · obtain ⟨a, k, p, b, m, tl, rfl, hS, htl, q, qN⟩ := h
    refine ⟨_, (pss_cons (ps_if (PW.pt (pw_and (pt_cmpR op_ne (pe_ix ix_list (pv 0) pe_int (fun _ _ => rfl)) pe_int (nomark _)) (pw_and1 (pt_cmpR op_ne (pe_ix ix_list (pv 0) pe_int (fun _ _ => rfl)) pe_int (nomark _))))) (pss_one (ps_ret pe_non)) pss_nil)
      (pss_cons (ps_set (i := 1) scDue.nd rfl (Or.inl rfl) (pe_op op_sub pe_int (pe_op op_mul pe_int (pe_ix ix_list (pv 0) pe_int (fun _ _ => rfl)))))
      (pss_cons (ps_if (PW.pt (pw_or (pt_cmpR op_gt (pe_ix ix_list (pv 0) pe_int (fun _ _ => rfl)) (pe_op op_add pe_int (pe_ix ix_list (pv 0) pe_int (fun _ _ => rfl))) (nomark _)) (pw_or1 (pt_not (pt_val (pe_call GLp hr (by rfl) gLp FLp.kp bLp .nil pass0 (pa_cons (pe_slice sl_list (pv 0) (po_some pe_int) (po_some pe_int)) pa_nil))))))) (pss_one (ps_ret pe_non)) pss_nil)
      (pss_cons (ps_set (i := 2) scDue.nd rfl (Or.inl rfl) (pe_lst pa_nil))
      (pss_cons (ps_for PassesOwn.never rfl (pi_range1 (by rfl) T.range (pa_cons (pe_ix ix_list (pv 0) pe_int (fun _ _ => rfl)) pa_nil)) (pg_name (i := 3) scDue.nd rfl (Or.inl rfl)) (pss_cons (ps_set (i := 4) scDue.nd rfl (Or.inl rfl) (pe_slice sl_list (pv 0) (po_some (pe_op op_add pe_int (pe_op op_mul (pv 1) (pv 3)))) (po_some (pe_op op_add pe_int (pe_op op_mul (pv 1) (pe_op op_add (pv 3) pe_int))))))
      (pss_cons (ps_set (i := 5) scDue.nd rfl (Or.inl rfl) (pe_tup (pa_cons (pe_ix ix_list (pv 4) pe_int (fun _ _ => rfl)) (pa_cons (pe_ix ix_list (pv 4) pe_int (fun _ _ => rfl)) (pa_cons (pe_ix ix_list (pv 4) pe_int (fun _ _ => rfl)) pa_nil)))))
      (pss_cons (ps_if (PW.pt (pw_and (pt_cmpR (op_neD hr.units) (pv 2) (pe_lst pa_nil) (nomark _)) (pw_and1 (pt_cmpR (op_geT hr.units0) (pe_ix ix_tup (pe_ix ix_list (pv 2) (pe_un un_neg pe_int) (fun _ _ => rfl)) pe_int (fun _ _ => rfl)) (pv 5) (nomark _))))) (pss_one (ps_ret pe_non)) pss_nil)
      (pss_cons (ps_if (PW.pt (pw_and (pt_cmpR op_eq (pe_ix ix_list (pv 0) pe_int (fun _ _ => rfl)) pe_int (nomark _)) (pw_and1 (pt_not (pt_val (pe_call GLp hr (by rfl) gLp FLp.kp bLp .nil pass0 (pa_cons (pe_slice sl_list (pv 4) (po_some pe_int) po_none) pa_nil))))))) (pss_one (ps_ret pe_non)) pss_nil)
      (pss_one (ps_expr (pe_bm PySem.F.plainAttrs_list PySem.F.slot_list_append PySem.F.type_list_append mt_append (pv 2) (pa_cons (pe_tup (pa_cons (pv 5) (pa_cons (pe_callTy call_tuple_of (by rfl) T.tuple (by decide +kernel) (pa_cons (pe_slice sl_list (pv 4) (po_some pe_int) po_none) pa_nil)) pa_nil))) pa_nil)))))))))
      (pss_cons (ps_for PassesOwn.never rfl (pi_list (pe_slice sl_list (pv 0) (po_some (pe_op op_add pe_int (pe_op op_mul (pv 1) (pe_ix ix_list (pv 0) pe_int (fun _ _ => rfl))))) po_none)) (pg_name (i := 6) scDue.nd rfl (Or.inl rfl)) (pss_one (ps_if (pt_cmpR op_ne (pv 6) pe_int (nomark _)) (pss_one (ps_ret pe_non)) pss_nil)))
      (pss_one (ps_ret (pe_tup (pa_cons (pe_ix ix_list (pv 0) pe_int (fun _ _ => rfl)) (pa_cons (pv 2) pa_nil))))))))))), ?_⟩
    have hnl : (k :: (m : Int) :: p :: b :: tl).length = 32 := by
      simp only [List.length_cons]
      omega
    have w0 : ∀ {H1 : Hp} {σ : L2.St}, Ex H H1 → σ[0]? = some (some (.ref a)) → Ev (tOp (rIxL K) (tVar 0) (tC (.int 0))) σ H1 (.int k) := fun e h => ev_op (ev_var h) ev_c (rv_ixL (ex_l e hS) (atI_nat (j := 0) rfl))
    have w1 : ∀ {H1 : Hp} {σ : L2.St}, Ex H H1 → σ[0]? = some (some (.ref a)) → Ev (tOp (rIxL K) (tVar 0) (tC (.int 1))) σ H1 (.int (m : Int)) := fun e h => ev_op (ev_var h) ev_c (rv_ixL (ex_l e hS) (atI_nat (j := 1) rfl))
    have bad : ∀ {H1 : Hp}, okH k m p b = false → Ex H H1 → Q .non H1 := fun h e => qN (by unfold okB; rw [h, Bool.false_and]) _ e
    refine q_when (et_and (et_test (ev_op (w0 (Ex.refl _) rfl) ev_c (rv_ne rfl))) (fun _ => et_test (ev_op (w0 (Ex.refl _) rfl) ev_c (rv_ne rfl)))) (fun hb H1 e1 => ?_) (fun hb H1 e1 => ?_)
    · refine s_ret ev_c fun H2 e2 => bad ?_ (e1.trans e2)
      have h1 : ¬ k = 1 := fun e => by
        rw [e] at hb
        simp at hb
      have h2 : ¬ k = 2 := fun e => by
        rw [e] at hb
        simp at hb
      unfold okH
      rw [not12 h1 h2, Bool.false_and]
    · have hk : k = 1 ∨ k = 2 := by
        by_cases h1 : k = 1
        · exact .inl h1
        · by_cases h2 : k = 2
          · exact .inr h2
          · rw [decide_eq_false fun e => h1 (V.int.inj e), decide_eq_false fun e => h2 (V.int.inj e)] at hb
            cases hb
      have hin : inV (.int k) [.int 1, .int 2] = true := by rcases hk with rfl | rfl <;> rfl
      have hsz : 9 - 2 * k = size k := by rcases hk with rfl | rfl <;> rfl
      have hmost : 3 + k = most k := by rcases hk with rfl | rfl <;> rfl
      have hgt : decide ((m : Int) > 3 + k) = !decide ((m : Int) ≤ most k) := by
        rw [hmost]
        by_cases h : (m : Int) ≤ most k
        · rw [decide_eq_true h, decide_eq_false (by omega)]
          rfl
        · rw [decide_eq_false h, decide_eq_true (by omega)]
          rfl
      refine q_asg (v := .int (size k)) (ev_is (ev_op ev_c (ev_op ev_c (w0 e1 rfl) (rv_I (.inl ⟨by decide, by decide⟩))) rv_I0) (congrArg V.int hsz)) fun H2 e2 => ?_
      have e02 := e1.trans e2
      have c24 : cutV ((k :: (m : Int) :: p :: b :: tl).map V.int) (some 2) (some 4) = [p, b].map V.int := (cut_mid _ 2 4 (by decide) (by rw [List.length_map, hnl]; decide)).trans rfl
      refine q_when (b := !decide ((m : Int) ≤ most k) || !ptr p b) (et_or (et_is (et_test (ev_op (w1 e02 rfl) (ev_op ev_c (w0 e02 rfl) rv_I0) rv_I0)) hgt) (fun _ => et_not (et_B (ev_callL1 (z := .bl (ptr p b)) (el_is (el_sl (ev_var rfl) (eo_some ev_c) (eo_some ev_c) (ex_l e02 hS)) c24) (fun l H3 h3 e3 H4 e4 Q' q' E' => ⟨l, p, b, [], rfl, sq_of (e4 _ _ h3), q'⟩))))) (fun hb2 H3 e3 => ?_) (fun hb2 H3 e3 => ?_)
      · refine s_ret ev_c fun H4 e4 => bad ?_ ((e02.trans e3).trans e4)
        unfold okH
        exact bad3 (by rw [hb2]; simp)
      · have hg : decide ((m : Int) ≤ most k) = true ∧ ptr p b = true := by
          cases h1 : decide ((m : Int) ≤ most k) <;> cases h2 : ptr p b <;> simp_all
        have hm : (m : Int) ≤ most k := of_decide_eq_true hg.1
        have hOk : okH k m p b = true := by
          unfold okH
          rw [hin, hg.1, hg.2]
          rfl
        have hm5 : m ≤ 5 := by
          rcases hk with rfl | rfl
          · have e : most 1 = 4 := rfl
            omega
          · have e : most 2 = 5 := rfl
            omega
        have hrl := rows_len k m (k :: (m : Int) :: p :: b :: tl)
        generalize hns : (k :: (m : Int) :: p :: b :: tl) = ns at *
        have bad2 : ∀ {H1 : Hp}, (asc (rowsOf k m ns) && !zsB k m ns) = false ∨ (k = 2 ∧ (rowsOf k m ns).all pB = false) → Ex H H1 → Q .non H1 := fun h e => qN (by
          unfold okB
          rw [hOk, Bool.true_and]
          rcases h with h | ⟨h1, h2⟩
          · rw [h, Bool.false_and]
          · rw [h2, decide_eq_true (congrArg V.int h1)]
            simp) _ e
        refine q_asgL (el_lst ea_nil (by decide)) fun ia H4 hia4 e4 h4 => ?_
        have e03 := e02.trans e3
        have hia : H ia = none := fresh_back e03 hia4
        have e04 := e03.trans e4
        refine q_forR1 (n := (m : Int)) (ea_cons (w1 e04 rfl) ea_nil) ⟨by omega, by omega⟩
          (fun i σ' H' => ∃ (y3 y4 y5 : Option V) (xs : List V), σ' = [some (.ref a), some (.int (size k)), some (.ref ia), y3, y4, y5, none] ∧ Ex H H' ∧ H' ia = some (.lst xs) ∧ Rows K H' xs ((rowsOf k m ns).take i) ∧ (∀ j, j + 1 < i → HT.lexLt (key (rowsOf k m ns) j) (key (rowsOf k m ns) (j + 1)) = true) ∧ (k = 2 → ∀ r ∈ (rowsOf k m ns).take i, pB r = true))
          (fun H5 e5 => ⟨none, none, none, [], rfl, e04.trans e5, e5 _ _ h4, .nil, (fun j hj => absurd hj (Nat.not_lt_zero _)), (fun _ r hr => absurd hr (List.not_mem_nil))⟩) ?_ ?_
        · rintro i σ' H' hi ⟨y3, y4, y5, xs, rfl, e0, hx, hR, hasc, hps⟩
          have him : i < m := by omega
          have hir : i < (rowsOf k m ns).length := by omega
          have er := List.getElem?_eq_getElem hir
          have hrow := (rows_at er).2
          have htk : (rowsOf k m ns).take (i + 1) = (rowsOf k m ns).take i ++ [rowOf k ns i] := by rw [List.take_add_one, er, hrow]; rfl
          have hkey : key (rowsOf k m ns) i = (rowOf k ns i).1 := by
            unfold key
            rw [getD_of er, hrow]
          have hwl := wds_len hk hm him hnl
          have hfit := fit hk hm him
          have hv := vsz_le k
          have hv2 : 2 ≤ vsz k := by rcases hk with rfl | rfl <;> decide
          have hxl := hR.len
          rw [List.length_take] at hxl
          have ecut : cutV (ns.map V.int) (some (4 + size k * (i : Nat))) (some (4 + size k * ((i : Nat) + 1))) = (wds k ns i).map V.int := by
            rw [size_eq, show (4 : Int) + ((3 + vsz k : Nat) : Int) * (i : Nat) = ((4 + i * (3 + vsz k) : Nat) : Int) by push_cast; rw [Int.mul_comm], show (4 : Int) + ((3 + vsz k : Nat) : Int) * ((i : Nat) + 1) = ((4 + i * (3 + vsz k) + (3 + vsz k) : Nat) : Int) by push_cast; rw [Int.mul_add, Int.mul_comm]; omega, cut_mid _ _ _ (by omega) (by rw [List.length_map, hnl]; omega), Nat.add_sub_cancel_left, ← List.map_drop, ← List.map_take]
            rfl
          refine q_asgL (el_is (el_sl (ev_var rfl) (eo_some (ev_op ev_c (ev_op (ev_var rfl) (ev_var rfl) (rv_I (.inl ⟨by have := size_eq k; omega, by have := size_eq k; omega⟩))) rv_I0)) (eo_some (ev_op ev_c (ev_op (ev_var rfl) (ev_op (ev_var rfl) ev_c rv_I0) (rv_I (.inl ⟨by have := size_eq k; omega, by have := size_eq k; omega⟩))) rv_I0)) (ex_l e0 hS)) ecut) fun pa H5 hpa e5 h5 => ?_
          obtain ⟨x0, x1, x2, rest, hw⟩ : ∃ x0 x1 x2 rest, wds k ns i = x0 :: x1 :: x2 :: rest := by
            match hw : wds k ns i, hwl with
            | x0 :: x1 :: x2 :: rest, _ => exact ⟨_, _, _, _, rfl⟩
            | [], hl => simp at hl; omega
            | [_], hl => simp at hl; omega
            | [_, _], hl => simp at hl; omega
          have hr1 : (rowOf k ns i).1 = [x0, x1, x2] := by
            unfold rowOf
            rw [hw]
            rfl
          have hr2 : (rowOf k ns i).2 = rest := by
            unfold rowOf
            rw [hw]
            rfl
          have hrest : rest.length = vsz k := by
            rw [hw] at hwl
            simp only [List.length_cons] at hwl
            omega
          rw [hw] at h5
          refine q_asgU (eu_tup (vs := [x0, x1, x2].map V.int) (ea_cons (ev_op (ev_var rfl) ev_c (rv_ixL (sq_of h5) (atI_nat (j := 0) rfl))) (ea_cons (ev_op (ev_var rfl) ev_c (rv_ixL (sq_of h5) (atI_nat (j := 1) rfl))) (ea_cons (ev_op (ev_var rfl) ev_c (rv_ixL (sq_of h5) (atI_nat (j := 2) rfl))) ea_nil))) (by simp)) fun ka H6 hka e6 h6 => ?_
          have f06 := (e0.trans e5).trans e6
          have f6 := e5.trans e6
          have dpE : ∀ {p : Addr} {H6 : Hp}, H6 p = some (.lst []) → Dp K H6 (.ref p) (.list []) := fun h => .lst (sq_of h) .nil
          have ne : EvT (tTest (tOp (rNeD K) (tVar 2) (tLst tNil))) [some (.ref a), some (.int (size k)), some (.ref ia), some (.int (i : Int)), some (.ref pa), some (.ref ka), none] H6 (!PyData.eqv (.list (((rowsOf k m ns).take i).map rd)) (.list [])) := et_test (ev_opL (ev_var rfl) (el_lst ea_nil (by decide)) (fun p H8 hp e8 => rv_neDD (.lst (sq_of ((f6.trans e8) _ _ hx)) ((hR.mono (f6.trans e8)).dp)) (dpE hp) (sh_rds _) (sh_rds []) (by decide)))
          have lt_i : ∀ {j : Nat}, j + 1 = i → ∃ (t kl vl : Addr) (l0 l1 l2 : Int), atI xs (-1) = some (.ref t) ∧ SqT K H6 t [.ref kl, .ref vl] ∧ SqT K H6 kl ([l0, l1, l2].map V.int) ∧ key (rowsOf k m ns) j = [l0, l1, l2] := fun {j} hj => by
            have hlt : xs.length - 1 < xs.length := by omega
            obtain ⟨t, kl, vl, r, ex, er2, s1, s2, _⟩ := (hR.mono f6).at (List.getElem?_eq_getElem hlt)
            have ej : xs.length - 1 = j := by omega
            rw [ej, List.getElem?_take, if_pos (by omega)] at er2
            obtain ⟨_, rfl⟩ := rows_at er2
            have hwl2 := wds_len hk hm (i := j) (by omega) hnl
            obtain ⟨l0, l1, l2, rest2, hw2⟩ : ∃ x0 x1 x2 rest, wds k ns j = x0 :: x1 :: x2 :: rest := by
              match hw : wds k ns j, hwl2 with
              | x0 :: x1 :: x2 :: rest, _ => exact ⟨_, _, _, _, rfl⟩
              | [], hl => simp at hl; omega
              | [_], hl => simp at hl; omega
              | [_, _], hl => simp at hl; omega
            have hq1 : (rowOf k ns j).1 = [l0, l1, l2] := by
              unfold rowOf
              rw [hw2]
              rfl
            refine ⟨t, kl, vl, l0, l1, l2, ?_, s1, hq1 ▸ s2, ?_⟩
            · have hxn : xs ≠ [] := List.ne_nil_of_length_pos (by omega)
              have eg : xs.getLast hxn = .ref t := by
                rw [List.getLast_eq_getElem]
                exact ex
              have ea : xs = xs.dropLast ++ [.ref t] := by
                rw [← eg]
                exact (List.dropLast_concat_getLast hxn).symm
              rw [ea]
              exact atI_last _ _
            · unfold key
              rw [getD_of er2, hq1]
          -- the order
          refine q_when (b := decide (0 < i) && !HT.lexLt (key (rowsOf k m ns) (i - 1)) (key (rowsOf k m ns) i)) ?_ (fun hb3 H7 e7 => ?_) (fun hb3 H7 e7 => ?_)
          · by_cases hi0 : i = 0
            · subst hi0
              exact et_is (et_and (b := false) (et_is ne (show (!PyData.eqv (.list (((rowsOf k m ns).take 0).map rd)) (.list [])) = false from by rw [List.take_zero]; decide)) (fun h => by cases h)) rfl
            · obtain ⟨t, kl, vl, l0, l1, l2, g1, g2, g3, g4⟩ := lt_i (j := i - 1) (by omega)
              have hn : (rowsOf k m ns).take i ≠ [] := List.ne_nil_of_length_pos (by rw [List.length_take]; omega)
              rw [decide_eq_true (show 0 < i by omega), g4, hkey, hr1, ← ge_lt]
              exact et_is (et_and (et_is ne (show _ = true from by rw [eqv_ne hn]; rfl)) (fun _ => et_test (ev_op (ev_op (ev_op (ev_var rfl) (ev_un ev_c ru_neg) (rv_ixL (sq_of (f6 _ _ hx)) g1)) ev_c (rv_ixT g2 (atI_nat (j := 0) rfl))) (ev_var rfl) (rv_geT g3 (st_of h6))))) rfl
          · refine s_ret ev_c fun H8 e8 => bad2 (.inl ?_) ((f06.trans e7).trans e8)
            have h3 := Bool.and_eq_true_iff.mp hb3
            have hi0 := of_decide_eq_true h3.1
            rw [asc_bad (i := i - 1) (by omega) (by rw [show i - 1 + 1 = i by omega]; simpa using h3.2), Bool.false_and]
          · have hstep : ∀ j, j + 1 < i + 1 → HT.lexLt (key (rowsOf k m ns) j) (key (rowsOf k m ns) (j + 1)) = true := fun j hj => by
              by_cases e : j + 1 < i
              · exact hasc j e
              · have ej : i = j + 1 := by omega
                subst ej
                simpa using hb3
            have f7 := f06.trans e7
            have e37 : cutV ((x0 :: x1 :: x2 :: rest).map V.int) (some 3) none = rest.map V.int := (cut_from _ 3).trans rfl
            have hlp : k = 2 → ∃ n' b', rest = [n', b'] := fun h2 => by
              have hl : rest.length = 2 := by
                rw [hrest, h2]
                rfl
              match rest, hl with
              | [n', b'], _ => exact ⟨_, _, rfl⟩
            refine q_when (b := decide (V.int k = V.int 2) && !pB (rowOf k ns i)) (et_and (et_test (ev_op (w0 f7 rfl) ev_c (rv_eq rfl))) (fun h2 => et_not (et_B (ev_callL1 (z := .bl (pB (rowOf k ns i))) (el_is (el_sl (ev_var rfl) (eo_some ev_c) eo_none (sq_of ((e6.trans e7) _ _ h5))) e37) (fun l H8 h8 e8 H9 e9 Q' q' E' => by
              obtain ⟨n', b', hb'⟩ := hlp (V.int.inj (of_decide_eq_true h2))
              unfold pB at q'
              rw [hr2, hb'] at q'
              rw [hb'] at h8
              exact ⟨l, n', b', [], rfl, sq_of (e9 _ _ h8), q'⟩))))) (fun hb4 H8 e8 => ?_) (fun hb4 H8 e8 => ?_)
            · refine s_ret ev_c fun H9 e9 => bad2 (.inr ?_) ((f7.trans e8).trans e9)
              have h4 := Bool.and_eq_true_iff.mp hb4
              refine ⟨V.int.inj (of_decide_eq_true h4.1), ?_⟩
              rw [List.all_eq_false]
              exact ⟨rowOf k ns i, hrow ▸ List.getElem_mem hir, by simpa using h4.2⟩
            · have f8 := f7.trans e8
              have f68 := f6.trans (e7.trans e8)
              refine s_appUU (f68 _ _ hx) (ev_var rfl) (ev_var rfl) (eu_tupL (el_is (el_sl (ev_var rfl) (eo_some ev_c) eo_none (sq_of ((e6.trans (e7.trans e8)) _ _ h5))) e37)) (by omega) fun t v H9 ht hv9 e9 h9 hv => ⟨_, _, _, xs ++ [.ref t], rfl, (f8.trans e9).mut hia, upd_same, ?_, hstep, fun h2 r hr => ?_⟩
              · have tx : TEx H9 (upd H9 ia (.lst (xs ++ [.ref t]))) := TEx.upd (e9 _ _ (f68 _ _ hx))
                rw [htk]
                exact Rows.snoc (r := rowOf k ns i) (tx.t (st_of h9)) (by rw [hr1]; exact tx.t (st_of (e9 _ _ (e8 _ _ (e7 _ _ h6))))) (by rw [hr2]; exact tx.t (st_of hv)) ((hR.mono (f68.trans e9)).tmono tx)
              · rw [htk] at hr
                rcases List.mem_append.mp hr with h | h
                · exact hps h2 r h
                · rw [List.mem_singleton.mp h]
                  rw [decide_eq_true (congrArg V.int h2)] at hb4
                  simpa using hb4
        · rintro σ' H' ⟨y3, y4, y5, xs, rfl, e0, hx, hR, hasc, hps⟩
          have htl2 : (rowsOf k m ns).take (m : Int).toNat = rowsOf k m ns := by
            rw [Int.toNat_natCast]
            exact List.take_of_length_le (by omega)
          rw [htl2] at hR hps
          have hasc' : asc (rowsOf k m ns) = true := asc_good fun j hj => hasc j (by rw [Int.toNat_natCast]; omega)
          have hz : cutV (ns.map V.int) (some (4 + size k * (m : Int))) none = (ns.drop (4 + m * (3 + vsz k))).map V.int := by
            rw [size_eq, show (4 : Int) + ((3 + vsz k : Nat) : Int) * (m : Int) = ((4 + m * (3 + vsz k) : Nat) : Int) by push_cast; rw [Int.mul_comm], cut_from, ← List.map_drop]
          have hzd : zsB k m ns = (ns.drop (4 + m * (3 + vsz k))).any (fun z => z != 0) := rfl
          generalize ns.drop (4 + m * (3 + vsz k)) = zs at *
          refine q_forNLn (xs := zs.map V.int) (el_is (el_sl (ev_var rfl) (eo_some (ev_op ev_c (ev_op (ev_var rfl) (w1 e0 rfl) (rv_I (.inl ⟨by have := size_eq k; have := vsz_le k; omega, by have := size_eq k; have := vsz_le k; omega⟩))) rv_I0)) eo_none (ex_l e0 hS)) hz)
            (fun pp i σ' H1 => ∃ (y6 : Option V), σ' = [some (.ref a), some (.int (size k)), some (.ref ia), y3, y4, y5, y6] ∧ Ex H' H1 ∧ H1 pp = some (.lst (zs.map V.int)) ∧ ∀ j z, j < i → zs[j]? = some z → z = 0)
            (fun pp H5 hpp e5 h5 => ⟨none, rfl, e5, h5, fun j z hj => absurd hj (Nat.not_lt_zero _)⟩) (fun pp i σ' H1 _ ⟨_, _, _, h, _⟩ => sq_of h) ?_ ?_
          · rintro pp i x σ' H1 hxi ⟨y6, rfl, e1', hp, hall⟩
            rw [List.getElem?_map] at hxi
            obtain ⟨z, hz1, rfl⟩ := Option.map_eq_some_iff.mp hxi
            refine s_when (et_test (ev_op (ev_var rfl) ev_c (rv_ne rfl))) (fun hb5 H5 e5 => ?_) (fun hb5 H5 e5 => ?_)
            · refine s_ret ev_c fun H6 e6 => bad2 (.inl ?_) (((e0.trans e1').trans e5).trans e6)
              have hz0 : ¬ z = 0 := fun e => by
                rw [e] at hb5
                simp at hb5
              have : zs.any (fun z => z != 0) = true := List.any_eq_true.mpr ⟨z, List.mem_of_getElem? hz1, by simpa using hz0⟩
              rw [hzd, this]
              simp
            · refine ⟨_, rfl, e1'.trans e5, e5 _ _ hp, fun j y hj hy => ?_⟩
              by_cases e : j = i
              · rw [e, hz1] at hy
                cases hy
                by_cases h0 : z = 0
                · exact h0
                · rw [decide_eq_false fun e => h0 (V.int.inj e)] at hb5
                  cases hb5
              · exact hall j y (by omega) hy
          · rintro pp σ' H1 ⟨y6, rfl, e1', hp, hall⟩
            have hok : okB k m p b ns = true := by
              unfold okB
              have hzf : zs.any (fun z => z != 0) = false := by
                rw [List.any_eq_false]
                intro z hz
                obtain ⟨j, hj⟩ := List.mem_iff_getElem?.mp hz
                rw [hall j z (by rw [List.length_map]; exact (List.getElem?_eq_some_iff.mp hj).1) hj]
                decide
              rw [hOk, hasc', hzd, hzf]
              cases hd : decide (V.int k = V.int 2) with
              | false => rfl
              | true =>
                have : (rowsOf k m ns).all pB = true := List.all_eq_true.mpr (hps (V.int.inj (of_decide_eq_true hd)))
                rw [this]
                rfl
            refine s_retU (eu_tup (ea_cons (w0 (e0.trans e1') rfl) (ea_cons (ev_var rfl) ea_nil)) (by simp)) fun t H6 ht e6 h6 => q hok t ia xs H6 (fresh_back (e0.trans e1') ht) ((e0.trans e1').trans e6) h6 (e6 _ _ (e1' _ _ hx)) (hR.mono (e1'.trans e6))
end
end K10

set_option Elab.async false
set_option linter.all false
set_option maxRecDepth 100000
set_option maxHeartbeats 4000000
namespace K10
open PySem PySem.Spec PyProof.Rows L2 Evl LK LT LG LS LQ LX LN StX
theorem rv_isN {H : Hp} {x : V} : RV (fun x y H Q => y = .non ∧ Q (.bl (decide (x = .non))) H) x .non H (.bl (decide (x = .non))) := rv_val fun _ _ Q q => ⟨rfl, q⟩
theorem rv_notN {H : Hp} {x : V} : RV (fun x y H Q => y = .non ∧ Q (.bl (!decide (x = .non))) H) x .non H (.bl (!decide (x = .non))) := rv_val fun _ _ Q q => ⟨rfl, q⟩
theorem ev_isXT {K : PySem.W.Frag} {D a : Addr} {T : String} {σ : L2.St} {H : Hp} {ta tb : TE} {b : Bool} (h : Ev ta σ H (.ref a)) (hn : Ev tb σ H (.ty T)) (hk : PySem.W.kitOne K (.ref D) (.type T) = some b) : Ev (tCB (rIsX K D a (.ref D) none) (tCons ta (tCons tb tNil))) σ H (.bl b) :=
  ev_cb (ea_cons h (ea_cons hn ea_nil)) fun H1 e Q q => ⟨rfl, rfl, .ty T, .type T, b, rfl, fun u hu => hu, hk, q H1 (Ex.refl H1)⟩
theorem kit_ve {K : PySem.W.Frag} {D : Addr} (h : PySem.W.subIn K (.ref D) (.type "ValueError") = some true) : PySem.W.kitOne K (.ref D) (.type "ValueError") = some true := by
  unfold PySem.W.kitOne
  rw [if_neg (show ¬ (Value.ref D == Value.type "ValueError") = true from fun e => nomatch (beq_iff_eq.mp e))]
  show (if PySem.W.kitMeta "ValueError" = true then PySem.W.subIn K (.ref D) (.type "ValueError") else none) = some true
  rw [if_pos (by decide +kernel)]
  exact h
def spLaw (K : PySem.W.Frag) (Pt Pf : Addr) : Sp := fun vs H Q _ => ∃ (a : Addr) (ns : List Int), vs = [.ref a] ∧ SqL K H a (ns.map V.int) ∧ ns.length ≤ 63 ∧ Tab H Pt ∧ Tab H Pf ∧ ∀ H', Ex H H' → Q (.bl true) H'
section
variable {P : Program} {w : World} {K : PySem.W.Frag} {mg : Str → Option Value} {base : Heap} {aK : Addr}
theorem ok_law {f fC fN fW fD fF Pf Pt CB CL : Addr} {fd fdC fdN fdW fdD fdF : FuncData} (F : Fun K "law" "law" sLaw f fd) (FC : Fun K "_law_cell" "_law_cell" sCell fC fdC) (FN : Fun K "_law_node" "_law_node" sNode fN fdN) (GN : FnOk P w K mg base CX0 2 fN fdN ["script"] (spNode K)) (FW : Fun K "_law_word" "_law_word" sWd fW fdW) (FD : Fun K "_law_due" "_law_due" sDue fD fdD) (GD : FnOk P w K mg base CX0 2 fD fdD ["words"] (spDue K)) (FF : Fun K "from_block" "from_block" sFrom fF fdF) (GF : FnOk P w K mg base (L2.CX P w) 2 fF fdF ["block"] (spFrom K Pt Pf CB)) (T : Txt mg K aK)
    (bC : Binds K fdC ["script", "k"] []) (bN : Binds K fdN ["script"] []) (bW : Binds K fdW ["cell"] []) (bD : Binds K fdD ["words"] []) (bF : Binds K fdF ["block"] []) (gC : mg "_law_cell" = some (.ref fC)) (gN : mg "_law_node" = some (.ref fN)) (gW : mg "_law_word" = some (.ref fW)) (gD : mg "_law_due" = some (.ref fD)) (gF : mg "from_block" = some (.ref fF))
    (XB : Xc K mg "BadImage" CB) (XL : Xc K mg "LaminaError" CL) (XC : ExcC K CB) (sBB : PySem.W.subIn K (.ref CB) (.ref CB) = some true) (sBL : PySem.W.subIn K (.ref CB) (.ref CL) = some true) (sBV : PySem.W.subIn K (.ref CB) (.type "ValueError") = some true) : FnOk P w K mg base CX0 3 f fd ["script"] (spLaw K Pt Pf) := by
  have GC : FnOk P w K mg base CX0 2 fC fdC ["script", "k"] (spCel K) := (ok_cell FC T).mono (by decide)
  have GW : FnOk P w K mg base CX0 2 fW fdW ["cell"] spWd := (ok_wd FW T).mono (by decide)
  refine F.ok scLaw (fun vs H Q E h => ?_) (fun cdv A outer s H vs Q E hr h => ?_)
  · obtain ⟨a, ns, rfl, _⟩ := h
    rfl
  · obtain ⟨a, ns, rfl, hS, hlen, hTt, hTf, q⟩ := h
    refine ⟨_, (pss_cons (ps_asg (pe_call GN hr (by rfl) gN FN.kp bN .nil pass0 (pa_cons (pv 0) pa_nil)) (pg_tup (by rfl) (pgs_cons (pg_name (i := 1) scLaw.nd rfl (Or.inl rfl)) (pgs_cons (pg_name (i := 2) scLaw.nd rfl (Or.inl rfl)) pgs_nil))))
      (pss_cons (ps_for PassesOwn.never rfl (pi_range1 (by rfl) T.range (pa_cons (pe_op op_mod (pe_call GC hr (by rfl) gC FC.kp bC .nil pass0 (pa_cons (pv 0) (pa_cons pe_int pa_nil))) pe_int) pa_nil)) (pg_name (i := 3) scLaw.nd rfl (Or.inl rfl)) (pss_cons (ps_set (i := 4) scLaw.nd rfl (Or.inl rfl) (pe_call GC hr (by rfl) gC FC.kp bC .nil pass0 (pa_cons (pv 0) (pa_cons (pe_op op_add pe_int (pv 3)) pa_nil))))
      (pss_one (ps_asg (pe_call GW hr (by rfl) gW FW.kp bW .nil pass0 (pa_cons (pe_op op_fdiv (pv 4) pe_int) pa_nil)) (pg_sub (pv 1) (pe_op op_mod (pv 4) pe_int) set_list)))))
      (pss_cons (ps_set (i := 5) scLaw.nd rfl (Or.inl rfl) (pe_call GD hr (by rfl) gD FD.kp bD .nil pass0 (pa_cons (pv 1) pa_nil)))
      (pss_cons (ps_try_as (i := 7) rfl rfl scLaw.nd rfl rfl ⟨rfl, by decide, .inl XB.g⟩ takes0 (fun W pn xe tk _ => (pss_one (ps_set (i := 6) scLaw.nd rfl (Or.inl rfl) (pe_callS GF hr (by rfl) gF FF.kp bF (fun σ => passAt tk σ) (pa_cons (pe_callTy (r := rListS K) call_list_of (by rfl) T.list (by decide +kernel) (pa_cons (pv 1) pa_nil)) pa_nil))))) (fun a oe cls d pn hz hf => (pss_one (ps_ret (pe_and (pe_cmpR op_isN (pv 5) pe_non (nomark _)) (pe_and (pe_callB (call_isX XC hz hf) (by rfl) T.isinstance (by decide +kernel) (pa_cons (pv 7) (pa_cons (pe_glob (v := .ref CL) rfl XL.g rfl) pa_nil))) (pe_one (pe_callB (call_isX XC hz hf) (by rfl) T.isinstance (by decide +kernel) (pa_cons (pv 7) (pa_cons (pe_bltn (v := .ty "ValueError") (u := .type "ValueError") (by rfl) T.ValueError (by decide +kernel) rfl) pa_nil))))))))))
      (pss_one (ps_ret (pe_and (pe_cmpR op_notN (pv 5) pe_non (nomark _)) (pe_and (pe_callB call_isi (by rfl) T.isinstance (by decide +kernel) (pa_cons (pv 6) (pa_cons (pe_bltn (v := .ty "tuple") (u := .type "tuple") (by rfl) T.tuple (by decide +kernel) rfl) pa_nil))) (pe_one (pe_cmpR (op_eqD hr.units) (pv 6) (pv 5) (nomark _))))))))))), ?_⟩
    have cc : ∀ {H1 : Hp} {z : Int} {σ : L2.St} {tk : TE} (j : Nat), Ex H H1 → z = (j : Int) → σ[0]? = some (some (.ref a)) → Ev tk σ H1 (.int z) → Ev (tCall (spCel K) [] E0 (tCons (tVar 0) (tCons tk tNil))) σ H1 (.int (cellv ns j)) :=
      fun j e ez h0 hk => ev_call (ea_cons (ev_var h0) (ea_cons hk ea_nil)) (sv_cell (ex_l e hS) ez)
    have ww : ∀ {H1 : Hp} {c : Int} {σ : L2.St} {tk : TE}, Ev tk σ H1 (.int c) → Ev (tCall spWd [] E0 (tCons tk tNil)) σ H1 (.int (wdV c)) := fun hk => ev_call (vs := [.int _]) (ea_cons hk ea_nil) (fun H1 e1 Q' q' E' => ⟨_, rfl, q'⟩)
    refine ev_var rfl H (Ex.refl H) _ fun H1 e1 => ⟨a, ns, rfl, ex_l e1 hS, fun t l z ws H2 ht hl e2 h1 h2 hwl hnn => ?_⟩
    refine ⟨t, _, rfl, st_of h1, rfl, _, _, rfl, _, _, rfl, rfl, ?_⟩
    have e02 := e1.trans e2
    have hl0 : H l = none := fresh_back e1 hl
    have m0 := Int.emod_nonneg (cellv ns 8) (show (4 : Int) ≠ 0 by decide)
    have m1 := Int.emod_lt_of_pos (cellv ns 8) (show (0 : Int) < 4 by decide)
    refine q_forR1 (n := cellv ns 8 % 4) (ea_cons (ev_op (cc 8 e02 rfl rfl ev_c) ev_c (rv_I (by show (0 : Int) < 4; decide))) ea_nil) ⟨m0, by omega⟩
      (fun i σ' H' => ∃ (y3 y4 : Option V) (ws : List Int), σ' = [some (.ref a), some (.ref l), some (.int z), y3, y4, none, none, none] ∧ Ex H H' ∧ H' l = some (.lst (ws.map V.int)) ∧ ws.length = 32 ∧ ∀ x ∈ ws, 0 ≤ x)
      (fun H3 e3 => ⟨none, none, ws, rfl, e02.trans e3, e3 _ _ h2, hwl, hnn⟩) ?_ ?_
    · rintro i σ' H' hi ⟨y3, y4, ws, rfl, e0, hw, hwl, hnn⟩
      refine q_asg (cc (9 + i) e0 (by show (9 : Int) + (i : Int) = ((9 + i : Nat) : Int); omega) rfl (ev_op ev_c (ev_var rfl) rv_I0)) fun H5 e5 => ?_
      generalize cellv ns (9 + i) = c
      have c0 := Int.emod_nonneg c (show (32 : Int) ≠ 0 by decide)
      have c1 := Int.emod_lt_of_pos c (show (0 : Int) < 32 by decide)
      obtain ⟨j, hj⟩ := Int.eq_ofNat_of_zero_le c0
      refine s_setL (j := j) (e5 _ _ hw) (ww (ev_op (ev_var rfl) ev_c (rv_I ⟨by decide, by decide⟩))) (ev_var rfl) (ev_is (ev_op (ev_var rfl) ev_c (rv_I (by show (0 : Int) < 32; decide))) (congrArg V.int hj)) (by rw [List.length_map]; omega) fun H6 e6 => ⟨_, _, ws.set j (wdV (c / 32)), rfl, ((e0.trans e5).trans e6).mut hl0, ?_, by rw [List.length_set]; exact hwl, fun x hx => ?_⟩
      · rw [upd_same, List.map_set]
      · rcases List.mem_or_eq_of_mem_set hx with h | h
        · exact hnn x h
        · rw [h]
          exact wdV_nn _
    · rintro σ' H' ⟨y3, y4, ws, rfl, e0, hw, hwl, hnn⟩
      obtain ⟨k, m, p, b, tl, rfl, htl⟩ : ∃ (k : Int) (m : Nat) (p b : Int) (tl : List Int), ws = k :: (m : Int) :: p :: b :: tl ∧ tl.length = 28 := by
        match ws, hwl, hnn with
        | k :: m' :: p :: b :: tl, h, hn =>
          obtain ⟨m, hm⟩ := Int.eq_ofNat_of_zero_le (hn m' (by simp))
          refine ⟨k, m, p, b, tl, by rw [hm], ?_⟩
          simp only [List.length_cons] at h
          omega
        | [], h, _ => simp at h
        | [_], h, _ => simp at h
        | [_, _], h, _ => simp at h
        | [_, _, _], h, _ => simp at h
      cases hok : okB k m p b (k :: (m : Int) :: p :: b :: tl) with
      | true =>
        refine q_call (vs := [.ref l]) (ea_cons (ev_var rfl) ea_nil) fun H5 e5 => ⟨l, k, p, b, m, tl, rfl, sq_of (e5 _ _ hw), htl, fun _ t2 l2 xs2 H6 ht2 e6 h6 h7 hR => ?_, fun h => by rw [hok] at h; cases h⟩
        have e06 := (e0.trans e5).trans e6
        refine ⟨.ref l, rfl, l, _, rfl, .inl (sq_of (e6 _ _ (e5 _ _ hw))), fun pl hpl => ⟨pl, k, p, b, m, tl, rfl, sq_of upd_same, htl, hTt.mono (e06.trans (Ex.new hpl)), hTf.mono (e06.trans (Ex.new hpl)), fun _ t3 l3 xs3 H8 ht3 e8 h8 h9 hR3 => ?_, fun h => by rw [hok] at h; cases h⟩⟩
        have e68 := (Ex.new hpl).trans e8
        have shT : Sh 4 (.tuple [.int k, .list ((rowsOf k m (k :: (m : Int) :: p :: b :: tl)).map rd)]) := sh_tup fun d hd => by
          rcases List.mem_cons.mp hd with e | hd
          · rw [e]
            exact sh_int _ 3
          · rw [List.mem_singleton.mp hd]
            exact sh_rds _
        exact s_ret (ev_is (w := .bl true) (ev_andV (ev_op (ev_var rfl) ev_c rv_notN) (fun _ => ev_andV (ev_isi (ev_var rfl) ev_c (fun H9 e9 => .base (.tup (e9 _ _ h8))) (kit_ty rfl)) (fun _ => ev_op (ev_var rfl) (ev_var rfl) (rv_eqD (.tup (st_of h8) (.cons (.int k) (.cons (.lst (sq_of h9) hR3.dp) .nil))) (.tup (st_of (e68 _ _ h6)) (.cons (.int k) (.cons (.lst (sq_of (e68 _ _ h7)) (hR.mono e68).dp) .nil))) shT (by decide))))) rfl) fun H9 e9 => q H9 ((e06.trans e68).trans e9)
      | false =>
        refine q_call (vs := [.ref l]) (ea_cons (ev_var rfl) ea_nil) fun H5 e5 => ⟨l, k, p, b, m, tl, rfl, sq_of (e5 _ _ hw), htl, (fun h => by rw [hok] at h; cases h), fun _ H6 e6 => ?_⟩
        have e06 := (e0.trans e5).trans e6
        refine ⟨.ref l, rfl, l, _, rfl, .inl (sq_of (e6 _ _ (e5 _ _ hw))), fun pl hpl => ⟨pl, k, p, b, m, tl, rfl, sq_of upd_same, htl, hTt.mono (e06.trans (Ex.new hpl)), hTf.mono (e06.trans (Ex.new hpl)), (fun h => by rw [hok] at h; cases h), fun _ H8 e8 => ⟨true, XB.exm sBB, fun _ a ha => ?_, fun q => nomatch q⟩⟩⟩
        have e68 := (Ex.new hpl).trans e8
        exact s_ret (ev_is (w := .bl true) (ev_andV (ev_op (ev_var rfl) ev_c rv_isN) (fun _ => ev_andV (ev_isX (ev_var rfl) ev_c (XL.kit sBL (fun _ => rfl))) (fun _ => ev_isXT (ev_var rfl) ev_c (kit_ve sBV)))) rfl) fun H9 e9 => q H9 ((e06.trans e68).trans e9)
end
end K10

set_option Elab.async false
set_option linter.all false
set_option maxRecDepth 100000
set_option maxHeartbeats 4000000
namespace K10
open PySem PySem.Spec PyProof.Rows L2 Evl LK LT LG LS LQ LX LN StX
theorem all_mk {l : PySem.W.OpenLaw} {w : World} {K : PySem.W.Frag} {h : Heap} {mg : Str → Option Value} {fa f1 f2 f3 f4 f5 f6 f7 f8 f9 f10 f11 f12 f13 : Addr} (X : K.In h) (G : h.Ns mainGlobals mg) (hfa : mg "law" = some (.ref fa))
    {od1 an1 od2 an2 od3 an3 od4 an4 od5 an5 od6 an6 od7 an7 od8 an8 od9 an9 od10 an10 od11 an11 od12 an12 od13 an13 : Option Addr} {sl1 sl2 sl3 sl4 sl5 sl6 sl7 sl8 sl9 sl10 sl11 sl12 sl13 : Array (Option Value)} {oc1 kV1 dc1 pm1 ct1 cd1 oc2 kV2 dc2 pm2 ct2 cd2 oc3 kV3 dc3 pm3 ct3 cd3 oc4 kV4 dc4 pm4 ct4 oc5 kV5 dc5 pm5 ct5 cd5 oc6 kV6 dc6 pm6 ct6 oc7 kV7 dc7 pm7 ct7 cd7 oc8 kV8 dc8 pm8 ct8 cd8 oc9 kV9 dc9 pm9 ct9 cd9 oc10 kV10 dc10 pm10 ct10 cd10 oc11 kV11 dc11 pm11 ct11 cd11 oc12 kV12 dc12 pm12 ct12 cd12 oc13 kV13 dc13 pm13 ct13 cd13 : Value}
    {c1_ P1_ c2_ P2_ : Addr} {e1_ e2_ : Value} {dd1_ dd2_ : Option Addr} {vs1_ vs2_ : Array Value} {sl1_ sl2_ : Array (Option Value)}
    {tk1 tk2 tk3 tk4 tk5 tk6 tk7 tk8 tk9 tk10 : Tok}
    (a1 : PySem.W.nsIn K mainGlobals "most_items" = some (some (.ref f1))) (l1 : K.lookup f1 = some ⟨oc1, od1, .func (PySem.W.fnOf "most_items" "most_items" (defArgs sMost) (defBody sMost) (defScope sMost) .none kV1 dc1 pm1 an1 cd1 ct1), sl1⟩) (c1 : PySem.W.codeIn K cd1 "most_items" = true) (k1 : PySem.W.keepIn K (.ref f1) = true)
    (a2 : PySem.W.nsIn K mainGlobals "item_words" = some (some (.ref f2))) (l2 : K.lookup f2 = some ⟨oc2, od2, .func (PySem.W.fnOf "item_words" "item_words" (defArgs sIw) (defBody sIw) (defScope sIw) .none kV2 dc2 pm2 an2 cd2 ct2), sl2⟩) (c2 : PySem.W.codeIn K cd2 "item_words" = true) (k2 : PySem.W.keepIn K (.ref f2) = true)
    (a3 : PySem.W.nsIn K mainGlobals "is_pointer" = some (some (.ref f3))) (l3 : K.lookup f3 = some ⟨oc3, od3, .func (PySem.W.fnOf "is_pointer" "is_pointer" (defArgs sPtr) (defBody sPtr) (defScope sPtr) .none kV3 dc3 pm3 an3 cd3 ct3), sl3⟩) (c3 : PySem.W.codeIn K cd3 "is_pointer" = true) (k3 : PySem.W.keepIn K (.ref f3) = true)
    (a4 : PySem.W.nsIn K mainGlobals "are_ascending" = some (some (.ref f4))) (l4 : K.lookup f4 = some ⟨oc4, od4, .func (PySem.W.fnOf "are_ascending" "are_ascending" (defArgs sAsc) (defBody sAsc) (defScope sAsc) .none kV4 dc4 pm4 an4 (.ref c1_) ct4), sl4⟩) (c4 : PySem.W.codeIn K (.ref c1_) "are_ascending" = true) (k4 : PySem.W.keepIn K (.ref f4) = true)
    (a5 : PySem.W.nsIn K mainGlobals "read_item" = some (some (.ref f5))) (l5 : K.lookup f5 = some ⟨oc5, od5, .func (PySem.W.fnOf "read_item" "read_item" (defArgs sRead) (defBody sRead) (defScope sRead) .none kV5 dc5 pm5 an5 cd5 ct5), sl5⟩) (c5 : PySem.W.codeIn K cd5 "read_item" = true) (k5 : PySem.W.keepIn K (.ref f5) = true)
    (a6 : PySem.W.nsIn K mainGlobals "from_block" = some (some (.ref f6))) (l6 : K.lookup f6 = some ⟨oc6, od6, .func (PySem.W.fnOf "from_block" "from_block" (defArgs sFrom) (defBody sFrom) (defScope sFrom) .none kV6 dc6 pm6 an6 (.ref c2_) ct6), sl6⟩) (c6 : PySem.W.codeIn K (.ref c2_) "from_block" = true) (k6 : PySem.W.keepIn K (.ref f6) = true)
    (a7 : PySem.W.nsIn K mainGlobals "own_pointer" = some (some (.ref f7))) (l7 : K.lookup f7 = some ⟨oc7, od7, .func (PySem.W.fnOf "own_pointer" "own_pointer" (defArgs sOwn) (defBody sOwn) (defScope sOwn) .none kV7 dc7 pm7 an7 cd7 ct7), sl7⟩) (c7 : PySem.W.codeIn K cd7 "own_pointer" = true) (k7 : PySem.W.keepIn K (.ref f7) = true)
    (a8 : PySem.W.nsIn K mainGlobals "_law_cell" = some (some (.ref f8))) (l8 : K.lookup f8 = some ⟨oc8, od8, .func (PySem.W.fnOf "_law_cell" "_law_cell" (defArgs sCell) (defBody sCell) (defScope sCell) .none kV8 dc8 pm8 an8 cd8 ct8), sl8⟩) (c8 : PySem.W.codeIn K cd8 "_law_cell" = true) (k8 : PySem.W.keepIn K (.ref f8) = true)
    (a9 : PySem.W.nsIn K mainGlobals "_law_word" = some (some (.ref f9))) (l9 : K.lookup f9 = some ⟨oc9, od9, .func (PySem.W.fnOf "_law_word" "_law_word" (defArgs sWd) (defBody sWd) (defScope sWd) .none kV9 dc9 pm9 an9 cd9 ct9), sl9⟩) (c9 : PySem.W.codeIn K cd9 "_law_word" = true) (k9 : PySem.W.keepIn K (.ref f9) = true)
    (a10 : PySem.W.nsIn K mainGlobals "_law_node" = some (some (.ref f10))) (l10 : K.lookup f10 = some ⟨oc10, od10, .func (PySem.W.fnOf "_law_node" "_law_node" (defArgs sNode) (defBody sNode) (defScope sNode) .none kV10 dc10 pm10 an10 cd10 ct10), sl10⟩) (c10 : PySem.W.codeIn K cd10 "_law_node" = true) (k10 : PySem.W.keepIn K (.ref f10) = true)
    (a11 : PySem.W.nsIn K mainGlobals "_law_pointer" = some (some (.ref f11))) (l11 : K.lookup f11 = some ⟨oc11, od11, .func (PySem.W.fnOf "_law_pointer" "_law_pointer" (defArgs sLp) (defBody sLp) (defScope sLp) .none kV11 dc11 pm11 an11 cd11 ct11), sl11⟩) (c11 : PySem.W.codeIn K cd11 "_law_pointer" = true) (k11 : PySem.W.keepIn K (.ref f11) = true)
    (a12 : PySem.W.nsIn K mainGlobals "_law_due" = some (some (.ref f12))) (l12 : K.lookup f12 = some ⟨oc12, od12, .func (PySem.W.fnOf "_law_due" "_law_due" (defArgs sDue) (defBody sDue) (defScope sDue) .none kV12 dc12 pm12 an12 cd12 ct12), sl12⟩) (c12 : PySem.W.codeIn K cd12 "_law_due" = true) (k12 : PySem.W.keepIn K (.ref f12) = true)
    (a13 : PySem.W.nsIn K mainGlobals "law" = some (some (.ref f13))) (l13 : K.lookup f13 = some ⟨oc13, od13, .func (PySem.W.fnOf "law" "law" (defArgs sLaw) (defBody sLaw) (defScope sLaw) .none kV13 dc13 pm13 an13 cd13 ct13), sl13⟩) (c13 : PySem.W.codeIn K cd13 "law" = true) (k13 : PySem.W.keepIn K (.ref f13) = true)
    (g1 : PySem.W.nsIn K mainGlobals "LEAF" = some (some (.int 1 tk1)))
    (g2 : PySem.W.nsIn K mainGlobals "INNER" = some (some (.int 2 tk2)))
    (g3 : PySem.W.nsIn K mainGlobals "LEAF_ITEMS" = some (some (.int 4 tk3)))
    (g4 : PySem.W.nsIn K mainGlobals "INNER_ITEMS" = some (some (.int 5 tk4)))
    (g5 : PySem.W.nsIn K mainGlobals "LEAF_ITEM_WORDS" = some (some (.int 7 tk5)))
    (g6 : PySem.W.nsIn K mainGlobals "INNER_ITEM_WORDS" = some (some (.int 5 tk6)))
    (g7 : PySem.W.nsIn K mainGlobals "KEY_WORDS" = some (some (.int 3 tk7)))
    (g8 : PySem.W.nsIn K mainGlobals "FIRST_ITEM" = some (some (.int 4 tk8)))
    (g9 : PySem.W.nsIn K mainGlobals "FIRST_BLOCK" = some (some (.int 5 tk9)))
    (g10 : PySem.W.nsIn K mainGlobals "MAX_BLOCKS" = some (some (.int 256 tk10)))
    (z1 : PySem.W.nsIn K mainGlobals "len" = some none)
    (z2 : PySem.W.nsIn K mainGlobals "range" = some none)
    (z3 : PySem.W.nsIn K mainGlobals "all" = some none)
    (z4 : PySem.W.nsIn K mainGlobals "any" = some none)
    (z5 : PySem.W.nsIn K mainGlobals "tuple" = some none)
    (z6 : PySem.W.nsIn K mainGlobals "list" = some none)
    (z7 : PySem.W.nsIn K mainGlobals "isinstance" = some none)
    (z8 : PySem.W.nsIn K mainGlobals "ValueError" = some none)
    (t1 : K.lookup c1_ = some ⟨e1_, dd1_, .fields vs1_, sl1_⟩) (v1 : vs1_[11]? = some (.ref P1_)) (u1 : K.lookup P1_ = none)
    (t2 : K.lookup c2_ = some ⟨e2_, dd2_, .fields vs2_, sl2_⟩) (v2 : vs2_[11]? = some (.ref P2_)) (u2 : K.lookup P2_ = none)
    
    {CB CL : Addr}
    (gB : PySem.W.nsIn K mainGlobals "BadImage" = some (some (.ref CB)))
    (xB : PySem.W.excIn K CB LX.veTail "ValueError.__new__" = true)
    (kB : PySem.W.keepIn K (.ref CB) = true)
    (bB : PySem.W.subIn K (.ref CB) (.type "BaseException") = some true)
    (tB : PySem.W.typeIn K (.ref CB) = some (.type "type"))
    (dB : PySem.W.hasDictIn K CB = true)
    (hgB : PySem.W.findIn K (.ref CB) "__getattribute__" = some (some (.builtin "BaseException.__getattribute__")))
    (hkB : PySem.W.findIn K (.ref CB) "__getattr__" = some none)
    (haB : PySem.W.findIn K (.ref CB) "__class__" = some (some (.builtin "object.__class__")))
    (hmB : PySem.W.mroIn K CB (.type "object") = some true)
    (gL : PySem.W.nsIn K mainGlobals "LaminaError" = some (some (.ref CL)))
    (xL : PySem.W.excIn K CL LX.veTail "ValueError.__new__" = true)
    (kL : PySem.W.keepIn K (.ref CL) = true)
    (bL : PySem.W.subIn K (.ref CL) (.type "BaseException") = some true)
    (tL : PySem.W.typeIn K (.ref CL) = some (.type "type"))
    (dL : PySem.W.hasDictIn K CL = true)
    (hn : PySem.W.specialIn K (.builtin "object.__class__") "__get__" = some (some (.builtin "getset_descriptor.__get__")))
    (ht : PySem.W.takesIn K (.builtin "object.__class__") = some true)
    (sBB : PySem.W.subIn K (.ref CB) (.ref CB) = some true)
    (sBL : PySem.W.subIn K (.ref CB) (.ref CL) = some true)
    (sBV : PySem.W.subIn K (.ref CB) (.type "ValueError") = some true)
    : ∃ (fd : FuncData) (cs : List (Str × Addr × Addr)) (sp : Sp), (∀ p ∈ cs, p.1 ∈ (["are_ascending", "from_block"] : List Str) ∧ PySem.W.tabIn K p.1 = some p.2 ∧ K.lookup p.2.2 = none) ∧ (∀ (s : Shared) (v : Value), BindsTo s fd ⟨[v], []⟩ [("script", v)]) ∧ (∀ (H : Hp) (a : Addr) (ns : List Int), ns.length ≤ 63 → (∀ p ∈ cs, LT.Tab H p.2.2) → SqL K H a (ns.map V.int) → ∀ Q : VK, (∀ H', Ex H H' → Q (.bl true) H') → sp [.ref a] H Q fun _ _ _ => False) ∧ ∀ base : Heap, K.In base → base.Ns mainGlobals mg → (∀ p ∈ cs, LamX.TabB base mg p.2.1 p.2.2) → FnOk l.prog w K mg base CX0 3 fa fd ["script"] sp := by
  have e := hfa.symm.trans (PySem.W.mg_of X G a13)
  cases e
  have F1 := fun_mk (st := sMost) l1 c1 k1
  have b1 := F1.binds (ps := ["kind"]) fun _ _ _ _ _ _ us hl => match us, hl with | [_], _ => rfl
  have m1 := PySem.W.mg_of X G a1
  have F2 := fun_mk (st := sIw) l2 c2 k2
  have b2 := F2.binds (ps := ["kind"]) fun _ _ _ _ _ _ us hl => match us, hl with | [_], _ => rfl
  have m2 := PySem.W.mg_of X G a2
  have F3 := fun_mk (st := sPtr) l3 c3 k3
  have b3 := F3.binds (ps := ["pointer"]) fun _ _ _ _ _ _ us hl => match us, hl with | [_], _ => rfl
  have m3 := PySem.W.mg_of X G a3
  have t1' : PySem.W.tabIn K "are_ascending" = some (c1_, P1_) := LS.tab_mk a4 l4 t1 v1
  have F4 : FunC K "are_ascending" "are_ascending" sAsc f4 _ c1_ := LS.funC_mk a4 l4 c4 k4 t1'
  have b4 := F4.fun.binds (ps := ["items"]) fun _ _ _ _ _ _ us hl => match us, hl with | [_], _ => rfl
  have m4 := PySem.W.mg_of X G a4
  have F5 := fun_mk (st := sRead) l5 c5 k5
  have b5 := F5.binds (ps := ["words"]) fun _ _ _ _ _ _ us hl => match us, hl with | [_], _ => rfl
  have m5 := PySem.W.mg_of X G a5
  have t2' : PySem.W.tabIn K "from_block" = some (c2_, P2_) := LS.tab_mk a6 l6 t2 v2
  have F6 : FunC K "from_block" "from_block" sFrom f6 _ c2_ := LS.funC_mk a6 l6 c6 k6 t2'
  have b6 := F6.fun.binds (ps := ["block"]) fun _ _ _ _ _ _ us hl => match us, hl with | [_], _ => rfl
  have m6 := PySem.W.mg_of X G a6
  have F7 := fun_mk (st := sOwn) l7 c7 k7
  have b7 := F7.binds (ps := ["block"]) fun _ _ _ _ _ _ us hl => match us, hl with | [_], _ => rfl
  have m7 := PySem.W.mg_of X G a7
  have F8 := fun_mk (st := sCell) l8 c8 k8
  have b8 := F8.binds (ps := ["script", "k"]) fun _ _ _ _ _ _ us hl => match us, hl with | [_, _], _ => rfl
  have m8 := PySem.W.mg_of X G a8
  have F9 := fun_mk (st := sWd) l9 c9 k9
  have b9 := F9.binds (ps := ["cell"]) fun _ _ _ _ _ _ us hl => match us, hl with | [_], _ => rfl
  have m9 := PySem.W.mg_of X G a9
  have F10 := fun_mk (st := sNode) l10 c10 k10
  have b10 := F10.binds (ps := ["script"]) fun _ _ _ _ _ _ us hl => match us, hl with | [_], _ => rfl
  have m10 := PySem.W.mg_of X G a10
  have F11 := fun_mk (st := sLp) l11 c11 k11
  have b11 := F11.binds (ps := ["words"]) fun _ _ _ _ _ _ us hl => match us, hl with | [_], _ => rfl
  have m11 := PySem.W.mg_of X G a11
  have F12 := fun_mk (st := sDue) l12 c12 k12
  have b12 := F12.binds (ps := ["words"]) fun _ _ _ _ _ _ us hl => match us, hl with | [_], _ => rfl
  have m12 := PySem.W.mg_of X G a12
  have F13 := fun_mk (st := sLaw) l13 c13 k13
  have m13 := PySem.W.mg_of X G a13
  have T : Txt mg K P1_ := ⟨PySem.W.mg_none_of X G z1, PySem.W.mg_none_of X G z2, PySem.W.mg_none_of X G z3, PySem.W.mg_none_of X G z4, PySem.W.mg_none_of X G z5, PySem.W.mg_none_of X G z6, PySem.W.mg_none_of X G z7, PySem.W.mg_none_of X G z8, ⟨_, PySem.W.mg_of X G g1⟩, ⟨_, PySem.W.mg_of X G g2⟩, ⟨_, PySem.W.mg_of X G g3⟩, ⟨_, PySem.W.mg_of X G g4⟩, ⟨_, PySem.W.mg_of X G g5⟩, ⟨_, PySem.W.mg_of X G g6⟩, ⟨_, PySem.W.mg_of X G g7⟩, ⟨_, PySem.W.mg_of X G g8⟩, ⟨_, PySem.W.mg_of X G g9⟩, ⟨_, PySem.W.mg_of X G g10⟩⟩
  have XB : LX.Xc K mg "BadImage" CB := ⟨PySem.W.mg_of X G gB, xB, kB, bB, tB, dB⟩
  have XCB : ExcC K CB := ⟨hgB, hkB, bB, dB, haB, hn, ht, hmB⟩
  have XL : LX.Xc K mg "LaminaError" CL := ⟨PySem.W.mg_of X G gL, xL, kL, bL, tL, dL⟩
  refine ⟨PySem.W.fnOf "law" "law" (defArgs sLaw) (defBody sLaw) (defScope sLaw) .none kV13 dc13 pm13 an13 cd13 ct13, [("are_ascending", c1_, P1_), ("from_block", c2_, P2_)], spLaw K P1_ P2_, fun p hp => ?_, fun s v => .of_eq rfl, fun H a ns hl hT hS Q q => ⟨a, ns, rfl, hS, hl, hT ("are_ascending", c1_, P1_) (by simp), hT ("from_block", c2_, P2_) (by simp), q⟩, fun base _ _ hTB => ?_⟩
  · simp only [List.mem_cons, List.not_mem_nil, or_false] at hp
    rcases hp with rfl | rfl
    · exact ⟨by simp, t1', u1⟩
    · exact ⟨by simp, t2', u2⟩
  · have B1 : LamX.TabB base mg c1_ P1_ := hTB ("are_ascending", c1_, P1_) (by simp)
    have B2 : LamX.TabB base mg c2_ P2_ := hTB ("from_block", c2_, P2_) (by simp)
    have GA := ok_asc (P := l.prog) (w := w) (base := base) F4 B1 T
    have GF := ok_from F6 B2 F1 b1 m1 F4.fun GA b4 m4 F2 b2 m2 F3 b3 m3 F5 b5 m5 F7 b7 m7 T XB
    have GN := ok_node (P := l.prog) (w := w) (base := base) F10 F8 b8 m8 T
    have GD := ok_due (P := l.prog) (w := w) (base := base) F12 F11 b11 m11 T
    exact ok_law F13 F8 F10 GN F9 F12 GD F6.fun GF T b8 b10 b9 b12 b6 m8 m10 m9 m12 m6 XB XL XCB sBB sBL sBV
end K10
open PySem PySem.W PyProof.Rows
set_option maxHeartbeats 0 in
theorem PySem.Challenge.cw_laminae_k10_blocks_that_are_no_nodes_holds : PySem.Challenge.rw_laminae_k10_blocks_that_are_no_nodes.Holds := by
  w_on; o_law; k_head; (case hw => w_witness2)
  k_fill
  refine LT.walk_tabs (l := PySem.Challenge.rw_laminae_k10_blocks_that_are_no_nodes) (n := 63) (k := 3) (x := "script") ["are_ascending", "from_block"] rfl (by decide) rfl ⟨rfl, by decide, by decide⟩ (by decide +kernel) (fun w h Y => PySem.W.kIn_of Y) ?F
  case F =>
    intro w mg fa h KX G hmg
    refine' K10.all_mk KX G hmg ?a1 ?l1 ?c1 ?k1 ?a2 ?l2 ?c2 ?k2 ?a3 ?l3 ?c3 ?k3 ?a4 ?l4 ?c4 ?k4 ?a5 ?l5 ?c5 ?k5 ?a6 ?l6 ?c6 ?k6 ?a7 ?l7 ?c7 ?k7 ?a8 ?l8 ?c8 ?k8 ?a9 ?l9 ?c9 ?k9 ?a10 ?l10 ?c10 ?k10 ?a11 ?l11 ?c11 ?k11 ?a12 ?l12 ?c12 ?k12 ?a13 ?l13 ?c13 ?k13 ?g1 ?g2 ?g3 ?g4 ?g5 ?g6 ?g7 ?g8 ?g9 ?g10 ?z1 ?z2 ?z3 ?z4 ?z5 ?z6 ?z7 ?z8 ?t1 ?v1 ?u1 ?t2 ?v2 ?u2 ?gB ?xB ?kB ?bB ?tB ?dB ?hgB ?hkB ?haB ?hmB ?gL ?xL ?kL ?bL ?tL ?dL ?hn ?ht ?sBB ?sBL ?sBV
    (case a1 => k_is); (case l1 => k_is); (case c1 => k_is); (case k1 => k_is); (case a2 => k_is); (case l2 => k_is); (case c2 => k_is); (case k2 => k_is); (case a3 => k_is); (case l3 => k_is); (case c3 => k_is); (case k3 => k_is); (case a4 => k_is); (case l4 => k_is); (case c4 => k_is); (case k4 => k_is); (case a5 => k_is); (case l5 => k_is); (case c5 => k_is); (case k5 => k_is); (case a6 => k_is); (case l6 => k_is); (case c6 => k_is); (case k6 => k_is); (case a7 => k_is); (case l7 => k_is); (case c7 => k_is); (case k7 => k_is); (case a8 => k_is); (case l8 => k_is); (case c8 => k_is); (case k8 => k_is); (case a9 => k_is); (case l9 => k_is); (case c9 => k_is); (case k9 => k_is); (case a10 => k_is); (case l10 => k_is); (case c10 => k_is); (case k10 => k_is); (case a11 => k_is); (case l11 => k_is); (case c11 => k_is); (case k11 => k_is); (case a12 => k_is); (case l12 => k_is); (case c12 => k_is); (case k12 => k_is); (case a13 => k_is); (case l13 => k_is); (case c13 => k_is); (case k13 => k_is); (case g1 => k_is); (case g2 => k_is); (case g3 => k_is); (case g4 => k_is); (case g5 => k_is); (case g6 => k_is); (case g7 => k_is); (case g8 => k_is); (case g9 => k_is); (case g10 => k_is); (case z1 => k_is); (case z2 => k_is); (case z3 => k_is); (case z4 => k_is); (case z5 => k_is); (case z6 => k_is); (case z7 => k_is); (case z8 => k_is); (case t1 => k_is); (case v1 => rfl); (case u1 => rfl); (case t2 => k_is); (case v2 => rfl); (case u2 => rfl); (case gB => k_is); (case xB => k_exc); (case kB => k_is); (case bB => k_is); (case tB => k_is); (case dB => k_is); (case hgB => k_is); (case hkB => k_is); (case haB => k_is); (case hmB => k_is); (case gL => k_is); (case xL => k_exc); (case kL => k_is); (case bL => k_is); (case tL => k_is); (case dL => k_is); (case hn => k_is); (case ht => k_is); (case sBB => k_is); (case sBL => k_is); (case sBV => k_is)

