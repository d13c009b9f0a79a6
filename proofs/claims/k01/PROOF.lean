import PyProof.Rows.All
import Wide.All
import OpenK.AllK
import Wide.FinOn
import HandS.ForMost
import HandS.Evl
import HandS.TupLe
import HandS.IsInst
import HandS.AnyAll
import HandS.EndOwn
import HandS.StrMore
import HandS.Conv
import HandS.Sort
import HandS.Star
import HandS.WordsExc
import HandS.ExcIs
import HandS.Wide
import HandS.ExcOwn
import HandS.TryOnly
import PySem.Challenge.RW_laminae_k01_name_words
import KE.KxText
set_option Elab.async false
set_option linter.all false
set_option maxRecDepth 100000
set_option maxHeartbeats 4000000
namespace LT
open PySem PySem.Spec PyProof.Rows L2 Evl
/-! ### the table of a code object: whatever it holds -/
def TabPhi (P : Addr) (h : Heap) : Prop := ∃ ps : Array Value, h.get? P = some { cls := .none, data := .fields ps } ∧ TriplesOk ps.toList
def Tab (H : Hp) (P : Addr) : Prop := H P = some (.ext (TabPhi P))
theorem tab_stab (P : Addr) : ∀ h1 h2 : Heap, TabPhi P h1 → (∀ o, h1.get? P = some o → h2.get? P = some o) → TabPhi P h2 := fun _ _ ⟨ps, e, t⟩ k => ⟨ps, k _ e, t⟩
theorem tab_ok {p : Program} {w : World} {H : Hp} {h : Heap} {P : Addr} (t : TabPhi P h) : ObjOk p w H h P (.ext (TabPhi P)) := ⟨t, ⟨_, t.choose_spec.1⟩, tab_stab P⟩
theorem Tab.of_ok {p : Program} {w : World} {H : Hp} {h : Heap} {P : Addr} (t : Tab H P) (ok : HOk p w H h) : TabPhi P h := (ok P _ t).1
theorem Tab.mono {H H' : Hp} {P : Addr} (e : Ex H H') (t : Tab H P) : Tab H' P := e _ _ t
open Classical in
def extH (Ps : List Addr) (H : Hp) : Hp := fun b => if b ∈ Ps then some (.ext (TabPhi b)) else H b
theorem extH_in {Ps : List Addr} {H : Hp} {b : Addr} (h : b ∈ Ps) : extH Ps H b = some (.ext (TabPhi b)) := if_pos h
theorem extH_out {Ps : List Addr} {H : Hp} {b : Addr} (h : b ∉ Ps) : extH Ps H b = H b := if_neg h
/-- a promise over heaps whose tables are opaque, for a caller whose tables are all empty -/
def spExt (Ps : List Addr) (sp : Sp) : Sp := fun vs H Q E => (∀ p ∈ Ps, H p = some (.tbl #[])) ∧ sp vs (extH Ps H) (fun v H' => (∀ p ∈ Ps, Tab H' p) ∧ ∀ H2, Q v H2) E
section
variable {P : Program} {w : World} {K : PySem.W.Frag} {mg : Str → Option Value} {base : Heap}
theorem ok_ext {Ps : List Addr} {k : Nat} {f : Addr} {fd : FuncData} {ps : List Str} {sp : Sp} (F : FnOk P w K mg base CX0 k f fd ps sp) : FnOk P w K mg base CX0 k f fd ps (spExt Ps sp) := by
  refine ⟨fun vs H Q E h => F.len _ _ _ _ h.2, fun A outer s H args us vs Q E hr e0 hb hv ⟨hT, hs⟩ => ?_⟩
  have none_ : ∀ {b : Addr}, H b = none → extH Ps H b = none := fun {b} n => by
    rw [extH_out fun hb => by rw [hT b hb] at n; cases n]
    exact n
  have same : ∀ {b : Addr} {u : HO}, H b = some u → (∀ q, u ≠ .tbl q) → extH Ps H b = some u := fun {b u} e n => by
    rw [extH_out fun hb => by rw [hT b hb] at e; exact n _ (Option.some.inj e).symm]
    exact e
  have ok1 : HOk P w (extH Ps H) s.heap := fun b u e => by
    by_cases hb : b ∈ Ps
    · rw [extH_in hb] at e
      cases e
      exact tab_ok ⟨#[], e0.hok b _ (hT b hb), by simp [TriplesOk]⟩
    · rw [extH_out hb] at e
      exact (e0.hok b u e).stay (fun _ _ _ q => q) (fun c q => same q (fun z y => by cases y)) fun c xs q => same q (fun z y => by cases y)
  have e1 : Env0 P w K mg base A outer s (extH Ps H) := ⟨e0.frames, e0.mod, fun b o e => ⟨(e0.bs b o e).1, none_ (e0.bs b o e).2⟩, e0.bsz, e0.funs, fun b hb => none_ (e0.frf b hb), ok1, e0.bare⟩
  refine codeAny_mono (F.run A outer s (extH Ps H) args us vs _ E hr e1 hb hv hs) fun r s' h => ?_
  cases r with
  | error e => exact h.elim
  | ok fl =>
    cases fl with
    | next => exact h
    | brk => exact h
    | cont => exact h
    | ret u =>
      obtain ⟨v, H', os, bare, un, ok', rv, hTab, q⟩ := h
      have more : ∀ p ∈ Ps, TabPhi p s'.heap := fun p hp => (hTab p hp).of_ok ok'
      let H2 : Hp := fun b => if hb : b ∈ Ps then some (.tbl (more b hb).choose) else H' b
      have hin : ∀ {b : Addr} (hb : b ∈ Ps), H2 b = some (.tbl (more b hb).choose) := fun {b} hb => dif_pos hb
      have hout : ∀ {b : Addr}, b ∉ Ps → H2 b = H' b := fun {b} hb => dif_neg hb
      have keepH : ∀ {b : Addr} {u : HO}, H' b = some u → (∀ φ, u ≠ .ext φ) → H2 b = some u := fun {b u} e n => by
        rw [hout fun hb => by rw [hTab b hb] at e; exact n _ (Option.some.inj e).symm]
        exact e
      refine ⟨v, H2, os, bare, ⟨fun b o e n => un.keep b o e (none_ n), fun b o e n => un.slot b o e (none_ n), fun b o e n hx => ?_, un.there, fun b xs e => ?_, fun b o x e => ?_, fun b q e => ?_⟩, fun b y e => ?_, rv, q H2⟩
      · have n' := none_ n
        rw [hout fun hb => by rw [hT b hb] at n; cases n]
        exact un.free b o e n' hx
      · exact keepH (un.tups b xs (same e (fun z y => by cases y))) (fun z y => by cases y)
      · exact keepH (un.frzs b o x (same e (fun z y => by cases y))) (fun z y => by cases y)
      · by_cases hb : b ∈ Ps
        · rw [hT b hb] at e
          cases e
          exact ⟨(more b hb).choose, by rw [hin hb, Array.empty_append]⟩
        · obtain ⟨m, z⟩ := un.tbls b q (by rw [extH_out hb]; exact e)
          exact ⟨m, by rw [hout hb]; exact z⟩
      · by_cases hb : b ∈ Ps
        · rw [hin hb] at e
          cases e
          exact (more b hb).choose_spec.1
        · rw [hout hb] at e
          exact (ok' b y e).stay (fun _ _ _ q => q) (fun c q => keepH q (fun z y => by cases y)) fun c xs q => keepH q (fun z y => by cases y)
end
/-- the law's walk where top-level defs (names) hold generator expressions: their tables are empty at the start -/
theorem walk_tabs {l : PySem.W.OpenLaw} {n k : Nat} {q : Program} {loose : List Str} {XP : (Str → Option Value) → Heap → Prop} {YP : World → Heap → Prop} {d : DefRec} {K : Params → PySem.W.Frag} {x : Str} (names : List Str)
    (hn : l.most = some n) (hn2 : n ≤ sizeLine) (hdf : d.params.defaults = []) (hr : Room k callerA) (hrec : ∀ y ∈ names, ((recsOf q).find? fun e => e.name == y).isSome = true) (hY : ∀ (w : World) (h : Heap), YP w h → (K w.params).In h)
    (F : ∀ (w : World) (mg : Str → Option Value) (fa : Addr) (h : Heap), (K w.params).In h → h.Ns mainGlobals mg → mg d.name = some (.ref fa) →
      ∃ (fd : FuncData) (cs : List (Str × Addr × Addr)) (sp : Sp), (∀ p ∈ cs, p.1 ∈ names ∧ PySem.W.tabIn (K w.params) p.1 = some p.2 ∧ (K w.params).lookup p.2.2 = none) ∧ (∀ (s : Shared) (u : Value), BindsTo s fd ⟨[u], []⟩ [(x, u)]) ∧
        (∀ (H : Hp) (a : Addr) (ns : List Int), ns.length ≤ n → (∀ p ∈ cs, Tab H p.2.2) → SqL (K w.params) H a (ns.map V.int) → ∀ Q : VK, (∀ H', Ex H H' → Q (.bl true) H') → sp [.ref a] H Q fun _ _ _ => False) ∧
        ∀ base : Heap, (K w.params).In base → base.Ns mainGlobals mg → (∀ p ∈ cs, LamX.TabB base mg p.2.1 p.2.2) → FnOk l.prog w (K w.params) mg base CX0 k fa fd [x] sp) :
    PySem.W.WalkO q loose XP YP l.row.toRowW d [] (fun f vs => PySem.call f vs) := by
  refine Att.attach_callB hn hdf fun w s₀ s₁ mg mb fa o pm cd doc a vs ns G Y ho hd hcd hmg hobj hints hlen hbits hg => ?_
  have KX := hY w _ Y
  obtain ⟨fd, cs, sp, hcs, hb, hsp, hF⟩ := F w mg fa _ KX G.T.g hmg
  have two : ∀ p ∈ cs, PySem.W.CodeHd s₁.heap p.2.1 p.2.2 ∧ s₁.heap.get? p.2.2 = some { cls := .none, data := .fields #[] } := fun p hp => by
    obtain ⟨h1, h2, _⟩ := hcs p hp
    obtain ⟨e, he⟩ := Option.isSome_iff_exists.mp (hrec _ h1)
    exact PySem.W.tab_of G.T KX he h2
  have mem : ∀ y ∈ cs.map (fun p => (p.2.1, p.2.2)), ∃ p ∈ cs, p.2 = y := fun y hy => by
    obtain ⟨p, hp, e⟩ := List.mem_map.mp hy
    exact ⟨p, hp, by rw [← e]⟩
  have lim : ∀ b ∈ cs.map (fun p => p.2.2), ∃ p ∈ cs, p.2.2 = b := fun b hb => by
    obtain ⟨p, hp, e⟩ := List.mem_map.mp hb
    exact ⟨p, hp, e⟩
  refine LamX.law_callTs (cs := cs.map fun p => (p.2.1, p.2.2)) (CX := CX0) (sp := spExt (cs.map fun p => p.2.2) sp) KX G.T.g G.T.b G.T.builtins G.T.nolimit hg (fun y hy => ?_) (fun y hy => ?_) (fun y hy => ?_) G.T.bmain hobj hints (Nat.le_trans hlen hn2) hr
    (fun base h1 h2 h3 => ok_ext (hF base h1 h2 fun p hp => h3 (p.2.1, p.2.2) (List.mem_map.mpr ⟨p, hp, rfl⟩))) hb (fun H hH hS => ?_) fun H e s' z => z
  · obtain ⟨p, hp, rfl⟩ := mem y hy
    exact (two p hp).2
  · obtain ⟨p, hp, rfl⟩ := mem y hy
    exact (hcs p hp).2.2
  · obtain ⟨p, hp, rfl⟩ := mem y hy
    exact (two p hp).1
  · refine ⟨fun b hb => ?_, ?_⟩
    · obtain ⟨p, hp, rfl⟩ := lim b hb
      exact hH (p.2.1, p.2.2) (List.mem_map.mpr ⟨p, hp, rfl⟩)
    · have hnt : ∀ p ∈ cs, extH (cs.map fun p => p.2.2) H p.2.2 = some (.ext (TabPhi p.2.2)) := fun p hp => extH_in (List.mem_map.mpr ⟨p, hp, rfl⟩)
      refine hsp _ a ns hlen hnt ?_ _ fun H' e => ⟨fun b hb => ?_, fun _ => rfl⟩
      · rcases hS with (h | ⟨o, h⟩) | h
        · refine .inl (.inl ?_)
          rw [extH_out fun hb => ?_]
          · exact h
          · obtain ⟨p, hp, rfl⟩ := lim a hb
            rw [hH (p.2.1, p.2.2) (List.mem_map.mpr ⟨p, hp, rfl⟩)] at h
            cases h
        · refine .inl (.inr ⟨o, ?_⟩)
          rw [extH_out fun hb => ?_]
          · exact h
          · obtain ⟨p, hp, rfl⟩ := lim a hb
            rw [hH (p.2.1, p.2.2) (List.mem_map.mpr ⟨p, hp, rfl⟩)] at h
            cases h
        · exact .inr h
      · obtain ⟨p, hp, rfl⟩ := lim b hb
        exact e _ _ (hnt p hp)
end LT

set_option Elab.async false
set_option linter.all false
set_option maxRecDepth 100000
set_option maxHeartbeats 4000000
namespace LG
open PySem PySem.Spec PyProof.Rows L2 Evl LT
/-! ### generator expressions whose elements leave everything as it stands -/
theorem kp_tok (s : Shared) (k : Nat) : Keeps s { s with toks := k } := ⟨s.heap, k, rfl, fun _ _ e => e⟩
theorem kp_refl (s : Shared) : Keeps s s := kp_tok s s.toks
theorem kp_trans {s s1 s2 : Shared} (a : Keeps s s1) (b : Keeps s1 s2) : Keeps s s2 := by
  obtain ⟨h1, t1, rfl, k1⟩ := a
  obtain ⟨h2, t2, rfl, k2⟩ := b
  exact ⟨h2, t2, rfl, fun c o e => k2 c o (k1 c o e)⟩
theorem kp_at {s s1 : Shared} (a : Keeps s s1) : ∀ b o, s.heap.get? b = some o → s1.heap.get? b = some o := by
  obtain ⟨h1, t1, rfl, k1⟩ := a
  exact k1
def but (P : Addr) (H : Hp) : Hp := fun b => if b = P then none else H b
theorem but_ne {P b : Addr} {H : Hp} (h : b ≠ P) : but P H b = H b := if_neg h
/-- in the frame of a generator expression, at one turn: its name x holds u -/
structure Fc (X : Cx) (σ : L2.St) (H : Hp) (P : Addr) (scope : Scope) (x : Str) (u : Value) (cenv : Env) (A' : Around) (s₂ : Shared) (m₂ : Str → Option Value) : Prop where
  hd : A'.handled = none
  dp : A'.depth ≤ X.A.depth + 1
  un : A'.units ≤ X.A.units + 8
  sc : cenv.scope = scope
  gl : cenv.globals = mainGlobals
  bi : cenv.builtins = builtinsNs
  ns : s₂.heap.Ns cenv.locals m₂
  mx : m₂ x = some u
  base : ∀ b o, X.base.get? b = some o → s₂.heap.get? b = some o
  md : L2.Mod X.K X.mg X.base
  hok : HOk X.prog X.w (but P H) s₂.heap
  cap : ∀ (i : Nat) (y : Str) (v : V), X.N[i]? = some y → σ[i]? = some (some v) → (X.env.kindOf y = some .cell ∨ X.env.kindOf y = some .free) → scope.names.lookup y = some .free → ∃ r c, RelV v r ∧ cenv.cells.lookup y = some c ∧ s₂.heap.IsCell c (some r)
section
variable {X : Cx} {σ : L2.St} {H : Hp} {P : Addr} {scope : Scope} {x : Str} {u : Value} {cenv : Env} {A' : Around} {s₂ s₃ : Shared} {m₂ : Str → Option Value}
theorem Fc.keeps (F : Fc X σ H P scope x u cenv A' s₂ m₂) (k : Keeps s₂ s₃) : Fc X σ H P scope x u cenv A' s₃ m₂ :=
  have k' := kp_at k
  ⟨F.hd, F.dp, F.un, F.sc, F.gl, F.bi, (let ⟨o, es, ep, e, r⟩ := F.ns; ⟨o, es, ep, k' _ _ e, r⟩), F.mx, fun b o e => k' b o (F.base b o e), F.md, F.hok.kept k', fun i y v h1 h2 h3 h4 => by
    obtain ⟨r, c, a1, a2, o, a3, a4⟩ := F.cap i y v h1 h2 h3 h4
    exact ⟨r, c, a1, a2, o, k' _ _ a3, a4⟩⟩
theorem Fc.kin (F : Fc X σ H P scope x u cenv A' s₂ m₂) : X.K.In s₂.heap := F.md.kin.keeps F.base
theorem Fc.list (F : Fc X σ H P scope x u cenv A' s₂ m₂) (hT : Tab H P) {a : Addr} {xs : List V} (h : SqL X.K H a xs) : ∃ its : List Value, Vals xs its ∧ PlainL s₂.heap a its.toArray ∧ xs.length ≤ sizeLine := by
  have rd : ∀ {o : HO}, H a = some o → (∀ φ, o ≠ .ext φ) → but P H a = some o := fun {o} e n => by
    rw [but_ne fun z => by rw [z, hT] at e; exact n _ (Option.some.inj e).symm]
    exact e
  rcases h with (h | ⟨o, h⟩) | ⟨o, its, n, hk, hc, hd, hs, hz, r⟩
  · obtain ⟨z, its, n, r, e⟩ := F.hok a _ (rd h (fun φ z => by cases z))
    exact ⟨its, r, ⟨_, n, e, rfl, rfl, rfl⟩, z⟩
  · obtain ⟨_, z, its, n, r, e⟩ := F.hok a _ (rd h (fun φ z => by cases z))
    exact ⟨its, r, ⟨_, n, e, rfl, rfl, rfl⟩, z⟩
  · refine ⟨its.toList, r, ⟨o, n, F.kin a o hk, hc, hd, by simpa using hs⟩, ?_⟩
    have e := r.length
    simp only [Array.length_toList] at e
    omega
theorem Fc.tuple (F : Fc X σ H P scope x u cenv A' s₂ m₂) (hT : Tab H P) {a : Addr} {xs : List V} (h : SqT X.K H a xs) : ∃ its : List Value, Vals xs its ∧ IsTup s₂.heap a its.toArray ∧ xs.length ≤ sizeLine := by
  have rd : ∀ {o : HO}, H a = some o → (∀ φ, o ≠ .ext φ) → but P H a = some o := fun {o} e n => by
    rw [but_ne fun z => by rw [z, hT] at e; exact n _ (Option.some.inj e).symm]
    exact e
  rcases h with (h | ⟨o, h⟩) | ⟨o, its, n, hk, hc, hs, hz, r⟩
  · obtain ⟨z, its, r, p⟩ := F.hok a _ (rd h (fun φ z => by cases z))
    exact ⟨its, r, p, z⟩
  · obtain ⟨_, z, its, r, p⟩ := F.hok a _ (rd h (fun φ z => by cases z))
    exact ⟨its, r, p, z⟩
  · refine ⟨its.toList, r, ⟨o, F.kin a o hk, hc, n, by simpa using hs⟩, ?_⟩
    have e := r.length
    simp only [Array.length_toList] at e
    omega
end
/-- the expression has the value z there -/
def QV (X : Cx) (σ : L2.St) (H : Hp) (P : Addr) (scope : Scope) (x : Str) (u : Value) (e : Expr) (z : V) : Prop :=
  ∀ (cenv : Env) (A' : Around) (E' : Value → Shared → Prop) (s₂ : Shared) (m₂ : Str → Option Value), Fc X σ H P scope x u cenv A' s₂ m₂ → wpAny (model X.prog X.w) A' (eval e cenv) (fun y s₃ => RelV z y ∧ Keeps s₂ s₃) E' s₂
section
variable {X : Cx} {σ : L2.St} {H : Hp} {P : Addr} {scope : Scope} {x : Str} {u : Value} {a b : Expr} {za zb z : V} {pos : Pos}
theorem qv_x (hk : scope.kind = .function) (hl : scope.names.lookup x = some .local) (r : RelV z u) (hd : (x == ("__debug__" : Str)) = false := by decide) : QV X σ H P scope x u (.Name x pos) z := fun cenv A' E' s m F =>
  wpAny_Name (wpAny_loadName_local (by rw [F.sc]; exact hk) (show cenv.scope.names.lookup x = some .local by rw [F.sc]; exact hl) F.ns F.mx ⟨r, kp_refl _⟩) hd
theorem qv_cap {i : Nat} {y : Str} (hk : scope.kind = .function) (hl : scope.names.lookup y = some .free) (hN : X.N[i]? = some y) (hs : σ[i]? = some (some z)) (hv : X.env.kindOf y = some .cell ∨ X.env.kindOf y = some .free := by first | exact Or.inl rfl | exact Or.inr rfl) (hd : (y == ("__debug__" : Str)) = false := by decide) (hcd : (y == ("__classdict__" : Str)) = false := by decide) :
    QV X σ H P scope x u (.Name y pos) z := fun cenv A' E' s m F => by
  obtain ⟨r, c, h1, h2, h3⟩ := F.cap i y z hN hs hv hl
  exact wpAny_Name (wpAny_loadName_free (by rw [F.sc]; exact hk) (show cenv.scope.names.lookup y = some .free by rw [F.sc]; exact hl) h2 h3 ⟨h1, kp_refl _⟩ hcd) hd
theorem qv_glob {y : Str} {r : Value} (hk : scope.kind = .function) (hl : scope.names.lookup y = some .globalImplicit) (hm : X.mg y = some r) (h : RelV z r) (hd : (y == ("__debug__" : Str)) = false := by decide) :
    QV X σ H P scope x u (.Name y pos) z := fun cenv A' E' s m F =>
  Calls.Name_function_global (by rw [F.sc]; exact hk) (show cenv.scope.names.lookup y = some .globalImplicit by rw [F.sc]; exact hl) (Calls.loadGlobal_global (by rw [F.gl]; exact F.md.glob.keeps F.base) hm ⟨h, kp_refl _⟩) hd
theorem qv_int {i : Int} {j : Nat} : QV X σ H P scope x u (.Constant (.int i) j pos) (.int i) := fun cenv A' E' s m F => wpAny_Constant_int ⟨⟨_, rfl⟩, kp_tok _ _⟩
theorem qv_str {i : Str} {j : Nat} : QV X σ H P scope x u (.Constant (.str i) j pos) (.str i) := fun cenv A' E' s m F => Calls.Constant_str ⟨⟨_, rfl⟩, kp_tok _ _⟩
/-- an operation on two values -/
def QR (X : Cx) (σ : L2.St) (H : Hp) (P : Addr) (scope : Scope) (x : Str) (u : Value) (f : Value → Value → Sem Value) (za zb z : V) : Prop :=
  ∀ (cenv : Env) (A' : Around) (E' : Value → Shared → Prop) (s₂ : Shared) (m₂ : Str → Option Value) (v w : Value), Fc X σ H P scope x u cenv A' s₂ m₂ → RelV za v → RelV zb w → wpAny (model X.prog X.w) A' (f v w) (fun y s₃ => RelV z y ∧ Keeps s₂ s₃) E' s₂
theorem qv_two {f : Value → Value → Sem Value} (ha : QV X σ H P scope x u a za) (hb : QV X σ H P scope x u b zb) (hr : QR X σ H P scope x u f za zb z) (cenv : Env) (A' : Around) (E' : Value → Shared → Prop) (s : Shared) (m : Str → Option Value) (F : Fc X σ H P scope x u cenv A' s m) :
    wpAny (model X.prog X.w) A' (eval a cenv) (fun v s₁ => wpAny (model X.prog X.w) A' (eval b cenv) (fun w s₂ => wpAny (model X.prog X.w) A' (f v w) (fun y s₃ => RelV z y ∧ Keeps s s₃) E' s₂) E' s₁) E' s :=
  wpAny_mono (ha cenv A' E' s m F) (fun v s1 r1 => wpAny_mono (hb cenv A' E' s1 m (F.keeps r1.2)) (fun w s2 r2 => wpAny_mono (hr cenv A' E' s2 m v w ((F.keeps r1.2).keeps r2.2) r1.1 r2.1)
    (fun y s3 r3 => ⟨r3.1, kp_trans (kp_trans r1.2 r2.2) r3.2⟩) fun _ _ e => e) fun _ _ e => e) fun _ _ e => e
theorem qv_cmp {op : CmpOp} (hr : QR X σ H P scope x u (compareOp op) za zb z) (ha : QV X σ H P scope x u a za) (hb : QV X σ H P scope x u b zb) (hm : behindInMarks op b = false) : QV X σ H P scope x u (.Compare a [op] [b] pos) z := fun cenv A' E' s m F =>
  wpAny_Compare1 (qv_two ha hb hr cenv A' E' s m F) hm
theorem qv_op {op : Operator} (hr : QR X σ H P scope x u (binaryOp op) za zb z) (ha : QV X σ H P scope x u a za) (hb : QV X σ H P scope x u b zb) : QV X σ H P scope x u (.BinOp a op b pos) z := fun cenv A' E' s m F =>
  wpAny_BinOp (qv_two ha hb hr cenv A' E' s m F)
theorem qv_ix (hr : ∀ value slice, subscripted slice false = subscripted slice false → QR X σ H P scope x u (fun v w => subscriptTail value slice v w) za zb z) (ha : QV X σ H P scope x u a za) (hb : QV X σ H P scope x u b zb) : QV X σ H P scope x u (.Subscript a b pos) z := fun cenv A' E' s m F =>
  Subscript_ (qv_two ha hb (hr a b rfl) cenv A' E' s m F)
theorem qr_add {i j : Int} : QR X σ H P scope x u (binaryOp .Add) (.int i) (.int j) (.int (i + j)) := fun cenv A' E' s m v w F r1 r2 => by
  obtain ⟨t, rfl⟩ := r1
  obtain ⟨t', rfl⟩ := r2
  exact add_int ⟨⟨_, rfl⟩, kp_tok _ _⟩
theorem qr_ne_int {i j : Int} : QR X σ H P scope x u (compareOp .NotEq) (.int i) (.int j) (.bl (i != j)) := fun cenv A' E' s m v w F r1 r2 => by
  obtain ⟨t, rfl⟩ := r1
  obtain ⟨t', rfl⟩ := r2
  exact ne_int ⟨rfl, kp_refl _⟩
theorem qr_le_int {i j : Int} : QR X σ H P scope x u (compareOp .LtE) (.int i) (.int j) (.bl (decide (i ≤ j))) := fun cenv A' E' s m v w F r1 r2 => by
  obtain ⟨t, rfl⟩ := r1
  obtain ⟨t', rfl⟩ := r2
  exact le_int ⟨rfl, kp_refl _⟩
theorem qr_ne_str {i j : Str} : QR X σ H P scope x u (compareOp .NotEq) (.str i) (.str j) (.bl (i.cps.toList != j.cps.toList)) := fun cenv A' E' s m v w F r1 r2 => by
  obtain ⟨t, rfl⟩ := r1
  obtain ⟨t', rfl⟩ := r2
  exact PySem.P.ne_str ⟨rfl, kp_refl _⟩
theorem qr_in_sign {c : Nat} {j : Str} : QR X σ H P scope x u (compareOp .In) (.str ⟨#[c]⟩) (.str j) (.bl (decide (c ∈ j.cps.toList))) := fun cenv A' E' s m v w F r1 r2 => by
  obtain ⟨t, rfl⟩ := r1
  obtain ⟨t', rfl⟩ := r2
  exact PyProof.Rows.in_str ⟨(PySem.StrLaws.found_one j c).symm ▸ rfl, kp_refl _⟩
end

/-! ### what is walked -/
def SrcV (K : PySem.W.Frag) (H : Hp) (v : V) (n : Nat) (xs : Nat → V) : Prop :=
  (∃ (a : Addr) (l : List V), v = .ref a ∧ SqL K H a l ∧ n = l.length ∧ ∀ i, xs i = l.getD i .non) ∨
  (∃ z : Str, v = .str z ∧ n = z.cps.size ∧ ∀ i c, z.cps[i]? = some c → xs i = .str ⟨#[c]⟩) ∨
  (∃ (a : Addr) (lo hi : Int), v = .ref a ∧ H a = some (.rng lo hi) ∧ n = (hi - lo).toNat ∧ -(2 ^ 62) ≤ lo ∧ lo < 2 ^ 62 ∧ -(2 ^ 62) ≤ hi ∧ hi < 2 ^ 62 ∧ ∀ i : Nat, xs i = .int (lo + i))
section
variable {X : Cx} {pins : List (Addr × Obj)} {σ : L2.St} {H : Hp} {s : Shared}
theorem src_iter {v : V} {xv : Value} {n : Nat} {xs : Nat → V} {P : Addr} {Q : Value → Shared → Prop} {E : Value → Shared → Prop} (S : SrcV X.K H v n xs) (I : Inv X pins σ H s) (r : RelV v xv) (hT : Tab H P)
    (h : ∀ (o : Obj) (fp : List Addr) (Pf : Nat → Value → Prop) (St : Nat → Heap → Prop), (∀ i u, Pf i u → i < n → RelV (xs i) u) → (∀ A' : Around, A'.handled = none → Walks X.prog X.w A' s.heap.objs.size fp [s.heap.objs.size] n Pf St) →
      St 0 (s.heap.push o) → (∀ b ∈ fp, b ≤ s.heap.objs.size ∧ b ≠ P) → Q (.ref s.heap.objs.size) { s with heap := s.heap.push o }) : wpAny (model X.prog X.w) X.A (pyIter xv) Q E s := by
  have Plt : P < s.heap.objs.size := Heap.lt_size (hT.of_ok I.hok).choose_spec.1
  have szP : s.heap.objs.size ≠ P := fun z => Nat.lt_irrefl _ (z ▸ Plt : s.heap.objs.size < s.heap.objs.size)
  rcases S with ⟨a, l, rfl, hl, rfl, hx⟩ | ⟨z, rfl, rfl, hx⟩ | ⟨a, lo, hi, rfl, ha, rfl, b1, b2, b3, b4, hx⟩
  · cases r
    obtain ⟨its, rv, pl, _⟩ := I.list hl
    have hal : a < s.heap.objs.size := let ⟨_, e, _⟩ := pl.isList; Heap.lt_size e
    have naP : a ≠ P := fun e => by
      obtain ⟨ps, e1, _⟩ := hT.of_ok I.hok
      obtain ⟨o, n, e2, e3, _, e4⟩ := pl
      rw [e, e1] at e2
      cases e2
      cases e3
    refine wpAny_pyIter_list pl.isList ?_
    have hne : a ≠ s.heap.objs.size := Nat.ne_of_lt hal
    have en : its.toArray.size = l.length := by rw [List.size_toArray]; exact rv.length.symm
    refine h _ [s.heap.objs.size, a] (fun i v => its.toArray[i]? = some v) (fun i h => h.IsListIter s.heap.objs.size a i ∧ h.IsList a its.toArray) (fun i u hu hi => ?_) (fun A' hA => by rw [← en]; exact Walks.list hA _ a hne its.toArray) ⟨⟨_, Heap.get?_push_size _ rfl, rfl, rfl⟩, pl.isList.at fun o e => Heap.get?_push_of_some _ e⟩ fun b hb => ?_
    · obtain ⟨w, ew, rw'⟩ := rv.get (List.getElem?_eq_getElem hi)
      have e2 : its.toArray[i]? = some w := by simpa using ew
      rw [e2] at hu
      cases hu
      rw [hx, List.getD_eq_getElem?_getD, List.getElem?_eq_getElem hi]
      exact rw'
    · rcases List.mem_cons.mp hb with e | hb
      · rw [e]
        exact ⟨Nat.le_refl _, szP⟩
      · rw [List.mem_singleton.mp hb]
        exact ⟨Nat.le_of_lt hal, naP⟩
  · obtain ⟨t, rfl⟩ := r
    refine wpAny_pyIter_str fun o St W hst => ?_
    refine h o [s.heap.objs.size] (SignAt z) St (fun i u hu hi => ?_) W hst fun b hb => ?_
    · obtain ⟨c, t', hc, rfl⟩ := hu
      rw [hx i c hc]
      exact ⟨_, rfl⟩
    · rw [List.mem_singleton.mp hb]
      exact ⟨Nat.le_refl _, szP⟩
  · cases r
    obtain ⟨t, t1, t2, e⟩ := I.hok a _ ha
    refine wpAny_pyIter_range (a := lo) (b := hi) (c := 1) e (small_one b1 b2 b3 b4) ?_
    have en : ((Builtin.Range.rangeSize lo hi 1 : Int)) = (((hi - lo).toNat : Nat) : Int) := by
      unfold Builtin.Range.rangeSize
      simp
      omega
    refine h _ [s.heap.objs.size] (fun i v => ∃ t, v = .int (lo + i * 1) t) _ (fun i u hu hi => ?_) (fun A' hA => Walks.range hA _ lo 1 _) ?_ fun b hb => ?_
    · obtain ⟨t, rfl⟩ := hu
      rw [hx]
      exact ⟨t, by rw [Int.mul_one]⟩
    · rw [en]
      show IsRangeIter _ _ (lo + ((0 : Nat) : Int) * 1) ((((hi - lo).toNat : Nat) : Int) - ((0 : Nat) : Int)) 1
      rw [show lo + ((0 : Nat) : Int) * 1 = lo by simp, show (((hi - lo).toNat : Nat) : Int) - ((0 : Nat) : Int) = (((hi - lo).toNat : Nat) : Int) by simp]
      exact Heap.get?_push_size _ rfl
    · rw [List.mem_singleton.mp hb]
      exact ⟨Nat.le_refl _, szP⟩
end
theorem lookup_mem' {α : Type} : ∀ {l : List (Str × α)} {n : Str} {c : α}, l.lookup n = some c → (n, c) ∈ l
  | [], _, _, h => by cases h
  | (k, v) :: r, n, c, h => by
    rw [List.lookup_cons] at h
    cases hb : n == k with
    | true =>
      rw [hb] at h
      cases h
      rw [beq_iff_eq.mp hb]
      exact List.mem_cons_self
    | false =>
      rw [hb] at h
      exact List.mem_cons_of_mem _ (lookup_mem' h)
theorem walks_lt {prog : Program} {w : World} {A : Around} {I : Addr} {fp wr : List Addr} {n : Nat} {Pf : Nat → Value → Prop} {St : Nat → Heap → Prop} (W : Walks prog w A I fp wr n Pf St) : Walks prog w A I fp wr n (fun i u => i < n ∧ Pf i u) St where
  sub := W.sub
  frame := W.frame
  item := fun i s Q E hi st hQ => W.item i s Q E hi st fun v h' tk hp => hQ v h' tk ⟨hi, hp⟩
  done := W.done
  self := W.self
theorem clo_lookup {cells : List (Str × Addr)} {names : List (Str × NameKind)} {y : Str} {c : Addr} (hy : (y, NameKind.free) ∈ names) (hc : cells.lookup y = some c) : (cloFrom cells names []).lookup y = some c := by
  obtain ⟨c', h⟩ := mem_lookup (cloFrom_has (cells := cells) (acc := []) hy)
  rcases cloFrom_mem (lookup_mem' h) with z | ⟨_, z⟩
  · cases z
  · rw [h, z, hc]
    rfl
section
variable {X : Cx} {pins : List (Addr × Obj)} {σ : L2.St} {H : Hp} {s : Shared}
/-- the table has grown: nothing that is tracked changes -/
theorem inv_grown {P : Addr} {s' : Shared} (I : Inv X pins σ H s) (hT : Tab H P) (k : ∀ b o, b ≠ P → s.heap.get? b = some o → s'.heap.get? b = some o) (hP : TabPhi P s'.heap) (ho : s'.os = s.os) (hg : AllBare s'.gens) : Inv X pins σ H s' := by
  have nN : ∀ b, H b = none → b ≠ P := fun b e z => by
    rw [z, hT] at e
    cases e
  have J := I.step (h' := s'.heap) (H' := H) (g' := s'.gens) (t' := s'.toks) (d' := s'.drawn) (ch := []) (fun b hb => absurd hb (by simp)) (fun b o _ _ _ e n => k b o (nN b n) e) (fun b o _ _ _ e n => ⟨o.slots, k b o (nN b n) e⟩) (fun b o _ _ n => n)
    (fun b o _ e => by
      by_cases hb : b = P
      · rw [hb]
        exact ⟨_, hP.choose_spec.1⟩
      · exact ⟨o, k b o hb e⟩)
    (fun b xs e => e) (fun b o u e => e) (fun b ps e => ⟨#[], by rw [e]; simp⟩) (fun m ⟨ob, es, ep, e, r⟩ => ⟨ob, es, ep, k _ ob (nN _ I.free) e, r⟩)
    (fun b u e => by
      by_cases hb : b = P
      · subst hb
        rw [hT] at e
        cases e
        exact tab_ok hP
      · refine (I.hok b u e).stay (fun d v hd q => k d v ?_ q) (fun d q => q) fun d xs q => q
        rcases hd with z | z
        · rw [z]
          exact hb
        · intro e2
          rw [e2, hT] at z
          cases z) hg
  have e : ({ s with heap := s'.heap, gens := s'.gens, drawn := s'.drawn, toks := s'.toks } : Shared) = s' := by
    cases s'
    cases ho
    rfl
  rw [e] at J
  exact J
/-- the generator g, ready to be walked -/
def RdyG (X : Cx) (pins : List (Addr × Obj)) (σ : L2.St) (H : Hp) (n : Nat) (f : Nat → Bool) (g : Addr) (s5 : Shared) : Prop :=
  ∃ (fp wr : List Addr) (G : Array GenState → Array GenState → Prop) (F : Nat → Value → Prop) (St : Nat → Shared → Prop), WalksS X.prog X.w X.A.in1 g fp wr G n F St ∧ St 0 s5 ∧ TruthOf X.prog X.w X.A.in1 F f ∧ ∀ s', Moved wr G s5 s' → Inv X pins σ H s'
theorem gen_make {c P : Addr} {elt iter : Expr} {x : Str} {px gpos : Pos} {scope : Scope} {te : TE} {k : Nat} {Q' : Value → Shared → Prop} {R : Nat → (Nat → Bool) → Hp → Prop}
    (hr : Room k X.A) (TB : LamX.TabB X.base X.mg c P) (hcode : X.env.code = .ref c) (S : GxR.GenS X.env scope x) (hi : PE X iter te) (hs : ∀ v, genFold iter X.env v = pure v) (I : Inv X pins σ H s)
    (h : te σ H fun v H1 => Tab H1 P ∧ ∃ (n : Nat) (xs : Nat → V) (f : Nat → Bool), SrcV X.K H1 v n xs ∧ (∀ i u, i < n → RelV (xs i) u → QV X σ H1 P scope x u elt (.bl (f i))) ∧ R n f H1)
    (hQ : ∀ n f H1 g s5, R n f H1 → RdyG X pins σ H1 n f g s5 → Q' (.ref g) s5) :
    wpAny (model X.prog X.w) X.A (eval (.GeneratorExp elt [⟨.Name x px, iter, [], 0⟩] scope gpos) X.env) Q' X.xe s := by
  refine wpAny_GeneratorExp_walksQD hr.hd S.co (closure_ok S.free) S.cell S.dot S.loc S.kind hr.depth ?_ hs
  refine thn (hi.run pins s σ H _ I h) fun xv s1 ⟨v, H1, I1, r1, hT, n, xs, f, hsrc, hel, hR⟩ => ?_
  refine src_iter hsrc I1 r1 hT fun o fp Pf St hPf hW hst hfp => ?_
  obtain ⟨ps, hPs, ht⟩ := hT.of_ok I1.hok
  have hPlt : P < s1.heap.objs.size := Heap.lt_size hPs
  have hP2 : (s1.heap.push o).get? P = some { cls := .none, data := .fields ps } := Heap.get?_push_of_some _ hPs
  have cd : PySem.W.CodeHd (s1.heap.push o) c P := TB.code.keeps fun b u e => Heap.get?_push_of_some _ (I1.bk b u e)
  have lim2 : (s1.heap.push o).NoLimit := I1.nolimit.push o
  have hcP : cStatics ≠ P := fun e => by
    obtain ⟨_, ⟨o', es, ep, ho, hd, _⟩, _⟩ := I1.nolimit
    rw [e, hPs] at ho
    cases ho
    cases hd
  have hcl : cStatics < s1.heap.objs.size := let ⟨_, hns, _⟩ := I1.nolimit; hns.lt
  have sz2 : (s1.heap.push o).objs.size = s1.heap.objs.size + 1 := Heap.size_push ..
  have nTb : ∀ b, H1 b = none → b ≠ P := fun b e z => by
    rw [z, hT] at e
    cases e
  -- what is left once the code object is known
  have go : ∀ (code : Value) (h3 : Heap) (tk : Nat) (ps' : Array Value), Heap.ExtBut P (s1.heap.push o) h3 → (s1.heap.push o).objs.size ≤ h3.objs.size → h3.get? P = some { cls := .none, data := .fields ps' } → TriplesOk ps'.toList →
      wpAny (model X.prog X.w) X.A (builtinsFor X.env.globals X.env.builtins) (fun bi s₄ => ∃ I fp wr n₀ Pg St₀ pz F, Value.ref s1.heap.objs.size = .ref I ∧ (∀ A' : Around, A'.handled = none → Walks X.prog X.w A' I fp wr n₀ Pg St₀) ∧ St₀ 0 s₄.heap ∧ (∀ b ∈ fp, b < s₄.heap.objs.size) ∧ s₄.heap.NoLimit ∧ cStatics ∉ wr ∧
          (∀ href : Heap, (∀ b o, s₄.heap.get? b = some o → href.get? b = some o) → QuietGenD X.prog X.w (genEnv scope (cloFrom X.env.cells scope.names []) s₄.heap.objs.size code bi X.env) x [] elt (List.range s₄.heap.objs.size) wr Pg pz F href (X.A.depth + 1) (X.A.units + 8)) ∧
          (∀ a h₅ tk gs, gs.bare = true → s₄.heap.objs.size < a → h₅.objs.size = a + 1 → (∀ b o, s₄.heap.get? b = some o → h₅.get? b = some o) →
            WalksS X.prog X.w X.A.in4 a (a :: s₄.heap.objs.size :: List.range s₄.heap.objs.size) (s₄.heap.objs.size :: wr) (GenOnlyQ s₄.gens.size) (passing pz n₀ 0).length (fun j y => ∃ i, (passing pz n₀ 0)[j]? = some i ∧ F i y) (GenAt X.prog X.w X.A.in4 a s₄.gens.size s₄.heap.objs.size (List.range s₄.heap.objs.size) wr pz n₀ F) →
            GenAt X.prog X.w X.A.in4 a s₄.gens.size s₄.heap.objs.size (List.range s₄.heap.objs.size) wr pz n₀ F 0 { s₄ with gens := s₄.gens.push gs, toks := tk, heap := h₅ } →
            Q' (.ref a) { s₄ with gens := s₄.gens.push gs, toks := tk, heap := h₅ })) X.xe { s1 with heap := h3, toks := tk } := by
    intro code h3 tk ps' hx hsz hP3 ht3
    obtain ⟨bm, ob, e1, e2, e3, e4, e5, e6, e7, e8⟩ := TB.bm
    have keep3 : ∀ b u, b ≠ P → s1.heap.get? b = some u → h3.get? b = some u := fun b u hb e => hx b u hb (Heap.get?_push_of_some _ e)
    refine wpAny_builtinsFor (m := X.mg) (by rw [I1.ok.glob]; exact ((I1.mod.glob.keeps I1.bk).push o).extBut hx TB.gP) e1 e2 (keep3 _ _ e4 (I1.bk _ _ e5)) e6 e7 e8 ?_
    have hsz3 : s1.heap.objs.size < h3.objs.size := by omega
    refine ⟨s1.heap.objs.size, fp, [s1.heap.objs.size], n, fun i u => i < n ∧ Pf i u, St, fun _ => true, fun i y => y = .bool (f i), rfl, fun A' hA => walks_lt (hW A' hA), ?_, fun b hb => Nat.lt_of_le_of_lt (hfp b hb).1 hsz3, lim2.extBut hx hcP, ?_, ?_, ?_⟩
    · exact (hW X.A hr.hd).frame _ _ _ hst fun b hb u e => hx b u (hfp b hb).2 e
    · intro z
      rw [List.mem_singleton.mp z] at hcl
      exact Nat.lt_irrefl _ hcl
    · intro href hhref
      refine ⟨fun A' E' i v s₂ m₂ hA hD hU hPv hn hm hk => ?_, fun A' E' i v s₂ m₂ hA hD hU hPv hp hn hm hk => ?_⟩
      · simp only [List.forIn_nil]
        exact wpAny_pure ⟨rfl, kp_refl _⟩
      · have kept : ∀ b u, b ≠ P → s1.heap.get? b = some u → s₂.heap.get? b = some u := fun b u hb e => by
          have hlt := Heap.lt_size e
          refine hk b (List.mem_range.mpr ?_) (fun z => ?_) u (hhref b u (keep3 b u hb e))
          · show b < h3.objs.size
            exact Nat.lt_trans hlt hsz3
          · rw [List.mem_singleton.mp z] at hlt
            exact Nat.lt_irrefl _ hlt
        refine wpAny_mono (hel i v hPv.1 (hPf i v hPv.2 hPv.1) _ A' E' s₂ m₂ ⟨hA, hD, hU, rfl, I1.ok.glob, rfl, hn, hm, fun b u e => kept b u (nTb b (I1.bs b u e).2) (I1.bk b u e), I1.mod, fun b u e => ?_, fun j y w hN hσ hv hfr => ?_⟩) (fun y s3 r => ⟨r.1, r.2⟩) fun _ _ e => e
        · have hb : b ≠ P := fun z => by
            rw [z] at e
            unfold but at e
            rw [if_pos rfl] at e
            cases e
          rw [but_ne hb] at e
          refine (I1.hok b u e).stay (fun d w hd q => kept d w ?_ q) (fun d q => ?_) fun d ys q => ?_
          · rcases hd with z | z
            · rw [z]
              exact hb
            · intro e2
              rw [e2, hT] at z
              cases z
          · rw [but_ne fun e2 => by rw [e2, hT] at q; cases q]
            exact q
          · rw [but_ne fun e2 => by rw [e2, hT] at q; cases q]
            exact q
        · obtain ⟨m, hn1, hl⟩ := I1.loc
          obtain ⟨r, rv, l⟩ := hl j y w hN hσ (hv.elim (fun z => Or.inr (Or.inl z)) (fun z => Or.inr (Or.inr z)))
          rcases l with ⟨z, _⟩ | ⟨_, cc, hc, oc, he, hd⟩
          · rcases hv with z2 | z2
            · rw [z] at z2; cases z2
            · rw [z] at z2; cases z2
          · exact ⟨r, cc, rv, clo_lookup (lookup_mem' hfr) hc, oc, kept cc oc (nTb cc (I1.freeC y cc hc)) he, hd⟩
    · intro g h5 tk5 gs hgb hag hsz5 hk5 W5 hat
      simp only [GxR.passing_true, List.length_range] at W5
      refine hQ n f H1 g _ hR ⟨_, _, _, _, _, W5.in4_1, hat, fun j y sj Qj Ej hy hQj => ?_, fun s' hm => ?_⟩
      · obtain ⟨i, hij, rfl⟩ := hy
        obtain ⟨hj, ej⟩ := List.getElem?_eq_some_iff.mp hij
        rw [List.getElem_range] at ej
        subst ej
        exact wpAny_truthy_bool hQj
      · have nwr : ∀ b u, s1.heap.get? b = some u → b ∉ h3.objs.size :: [s1.heap.objs.size] := fun b u e hb => by
          have hl := Heap.lt_size e
          rcases List.mem_cons.mp hb with z | z
          · rw [z] at hl
            exact Nat.lt_irrefl _ (Nat.lt_trans hl hsz3)
          · rw [List.mem_singleton.mp z] at hl
            exact Nat.lt_irrefl _ hl
        exact inv_grown I1 hT (fun b u hb e => hm.heap b u (nwr b u e) (hk5 b u (keep3 b u hb e))) ⟨ps', hm.heap P _ (nwr P _ hPs) (hk5 P _ hP3), ht3⟩ hm.os (AllBare.movedS (I1.bare.push hgb) hm)
  refine ⟨lim2, ?_⟩
  cases hf : codeAmong gpos ps.toList with
  | some cv => exact wpAny_genexprCode_hit hcode (cd.code hP2 ht) hf (go cv (s1.heap.push o) s1.toks ps (Heap.ExtBut.refl _ _) (Nat.le_refl _) hP2 ht)
  | none =>
    refine wpAny_genexprCodeX hcode (cd.code hP2 ht) (cd.tab hP2) hf fun c' h' tk hx hge hlt hco' _ htab' _ => ?_
    obtain ⟨_, _, _, _, _, _, _, _, _, _, _, _, _, _, _, _, _, _, _, htr, _⟩ := hco'
    exact go _ h' tk _ hx (Nat.le_trans hge (Nat.le_of_lt hlt)) htab'.2 htr
/-- all(.. for x in e), any(.. for x in e) -/
def tGen (X : Cx) (P : Addr) (scope : Scope) (x : Str) (elt : Expr) (fin : Nat → (Nat → Bool) → Bool) (te : TE) : TE := fun σ H Q => te σ H fun v H1 => Tab H1 P ∧ ∃ (n : Nat) (xs : Nat → V) (f : Nat → Bool), SrcV X.K H1 v n xs ∧ (∀ i u, i < n → RelV (xs i) u → QV X σ H1 P scope x u elt (.bl (f i))) ∧ Q (.bl (fin n f)) H1
def allF (n : Nat) (f : Nat → Bool) : Bool := (List.range n).all f
def anyF (n : Nat) (f : Nat → Bool) : Bool := (List.range n).any f
theorem pe_all {c P : Addr} {elt iter : Expr} {x : Str} {px p pos gpos : Pos} {scope : Scope} {te : TE} {k : Nat} (hr : Room k X.A) (hg : Gl X "all") (hm : X.mg "all" = none) (hb : bootBuiltins "all" = some (.builtin "all")) (TB : LamX.TabB X.base X.mg c P) (hcode : X.env.code = .ref c) (S : GxR.GenS X.env scope x)
    (hi : PE X iter te) (hs : ∀ v, genFold iter X.env v = pure v)
    (he : starEach [.GeneratorExp elt [⟨.Name x px, iter, [], 0⟩] scope gpos] X.env = (false, eval (.GeneratorExp elt [⟨.Name x px, iter, [], 0⟩] scope gpos) X.env) :: starEach [] X.env := by rfl) :
    PE X (.Call (.Name "all" p) [.GeneratorExp elt [⟨.Name x px, iter, [], 0⟩] scope gpos] [] pos) (tGen X P scope x elt allF te) := by
  refine ⟨fun pins s σ H Q I h => wpAny_Call_Name_kw (ld_blt I hg hm hb (PyProof.Rows.callWith_builtin1 ?_ he (by rfl)))⟩
  rw [he]
  show wpAny _ _ (spliced ((false, eval (.GeneratorExp elt [⟨.Name x px, iter, [], 0⟩] scope gpos) X.env) :: backTo pos (starEach [] X.env))) _ _ s
  refine Calls.spliced_cons (gen_make (R := fun n f H1 => Q (.bl (allF n f)) H1) hr TB hcode S hi hs I h fun n f H1 g s5 hR ⟨fp, wr, G, F, St₁, W, hst, htr, hI⟩ => Calls.spliced_nil ?_)
  exact call_all_walkS (W.self 0 _ _ _ hst ⟨g, fp, wr, G, _, F, St₁, _, rfl, W, hst, htr, fun s' hmv => ⟨.bl _, H1, hI s' hmv, rfl, hR⟩⟩)
theorem pe_any {c P : Addr} {elt iter : Expr} {x : Str} {px p pos gpos : Pos} {scope : Scope} {te : TE} {k : Nat} (hr : Room k X.A) (hg : Gl X "any") (hm : X.mg "any" = none) (TB : LamX.TabB X.base X.mg c P) (hcode : X.env.code = .ref c) (S : GxR.GenS X.env scope x)
    (hi : PE X iter te) (hs : ∀ v, genFold iter X.env v = pure v)
    (he : starEach [.GeneratorExp elt [⟨.Name x px, iter, [], 0⟩] scope gpos] X.env = (false, eval (.GeneratorExp elt [⟨.Name x px, iter, [], 0⟩] scope gpos) X.env) :: starEach [] X.env := by rfl) :
    PE X (.Call (.Name "any" p) [.GeneratorExp elt [⟨.Name x px, iter, [], 0⟩] scope gpos] [] pos) (tGen X P scope x elt anyF te) := by
  refine ⟨fun pins s σ H Q I h => wpAny_Call_Name_kw (ld_blt I hg hm boot_any (PyProof.Rows.callWith_builtin1 ?_ he (by rfl)))⟩
  rw [he]
  show wpAny _ _ (spliced ((false, eval (.GeneratorExp elt [⟨.Name x px, iter, [], 0⟩] scope gpos) X.env) :: backTo pos (starEach [] X.env))) _ _ s
  refine Calls.spliced_cons (gen_make (R := fun n f H1 => Q (.bl (anyF n f)) H1) hr TB hcode S hi hs I h fun n f H1 g s5 hR ⟨fp, wr, G, F, St₁, W, hst, htr, hI⟩ => Calls.spliced_nil ?_)
  exact call_any_walkS (W.self 0 _ _ _ hst ⟨g, fp, wr, G, _, F, St₁, _, rfl, W, hst, htr, fun s' hmv => ⟨.bl _, H1, hI s' hmv, rfl, hR⟩⟩)
end
end LG

set_option Elab.async false
set_option linter.all false
set_option maxRecDepth 100000
set_option maxHeartbeats 4000000
namespace LS
open PySem PySem.Spec PyProof.Rows L2 Evl LT LG
/-! ### texts -/
section
variable {K : PySem.W.Frag} {σ : L2.St} {H : Hp} {ta tb tc te to : TE} {x y z v : V} {D : Ends} {tu tz : TS}
theorem rv_addS {i j : Str} (h : i.length + j.length ≤ sizeLine) : RV (fun x y H Q => ∃ i j, x = .str i ∧ y = .str j ∧ i.length + j.length ≤ sizeLine ∧ Q (.str (i ++ j)) H) (.str i) (.str j) H (.str (i ++ j)) := rv_val fun _ _ Q q => ⟨i, j, rfl, rfl, h, q⟩
theorem ev_lenS {z : Str} {ta : TE} (h : Ev ta σ H (.str z)) (hz : z.length ≤ sizeLine) : Ev (tCB (fun xs H Q => ∃ x, xs = [.str x] ∧ x.length ≤ sizeLine ∧ Q (.int x.length) H) (tCons ta tNil)) σ H (.int (z.length : Int)) := ev_cb (ea_cons h ea_nil) fun H1 _ Q q => ⟨z, rfl, hz, q H1 (Ex.refl H1)⟩
theorem ev_isi {x : V} {n : String} {t : Value} {b : Bool} (h : Ev ta σ H x) (hn : Ev tb σ H (.ty n)) (ht : ∀ H1, Ex H H1 → TyX K H1 x t) (hk : PySem.W.kitOne K t (.type n) = some b) : Ev (tCB (rIsi K) (tCons ta (tCons tb tNil))) σ H (.bl b) :=
  ev_cb (ea_cons h (ea_cons hn ea_nil)) fun H1 e Q q => ⟨x, .ty n, t, .type n, b, rfl, .ty n, ht H1 e, hk, q H1 (Ex.refl H1)⟩
/-- a < b < c over ints -/
theorem et_chain {f g : Int → Int → Bool} {i j k : Int} (ha : Ev ta σ H (.int i)) (hb : Ev tb σ H (.int j)) (hc : Ev tc σ H (.int k)) : EvT (tTest (tChain (rI0 fun i j => .bl (f i j)) (rI0 fun i j => .bl (g i j)) ta tb tc)) σ H (f i j && g j k) := fun H1 e Q q =>
  ha H1 e _ fun H2 e2 => hb H2 (e.trans e2) _ fun H3 e3 => ⟨i, j, rfl, rfl, f i j, rfl, by
    cases hf : f i j with
    | true =>
      rw [if_pos rfl]
      refine hc H3 ((e.trans e2).trans e3) _ fun H4 e4 => ⟨j, k, rfl, rfl, g j k, rfl, ?_⟩
      have := q H4 ((e2.trans e3).trans e4)
      rw [hf] at this
      exact this
    | false =>
      rw [if_neg Bool.false_ne_true]
      have := q H3 (e2.trans e3)
      rw [hf] at this
      exact ⟨false, rfl, this⟩⟩
theorem s_forS {zs : Str} {j : Nat} (h : Ev te σ H (.str zs)) (Pv : Nat → L2.St → Hp → Prop) (h0 : ∀ H1, Ex H H1 → Pv 0 σ H1)
    (hs : ∀ i c σ' H', zs.cps.toList[i]? = some c → Pv i σ' H' → tu { D with nx := Pv (i + 1), ct := Pv (i + 1), bk := D.nx } (σ'.set j (some (.str ⟨#[c]⟩))) H') (hd : ∀ σ' H', Pv zs.cps.toList.length σ' H' → D.nx σ' H') : tFor (iStr te) (gName j) tu D σ H :=
  h H (Ex.refl H) _ fun H1 e => ⟨zs, rfl, fun i m σ' H' => m + i = zs.cps.size ∧ Pv i σ' H', ⟨zs.cps.size, by omega, h0 H1 e⟩, fun i m σ' H' ⟨hm, p⟩ => by
    by_cases hi : i < zs.cps.size
    · refine .inr ⟨hi, Pv (i + 1), fun σ2 H2 p2 => ⟨m - 1, by omega, by omega, p2⟩, fun v H2 hy => ?_⟩
      obtain ⟨rfl, c, hc, rfl⟩ := hy
      exact hs i c σ' H2 (by rw [Array.getElem?_toList]; exact hc) p
    · have ei : i = zs.cps.toList.length := by
        rw [Array.length_toList]
        omega
      rw [ei] at p
      exact .inl ⟨Nat.le_of_not_lt hi, hd σ' H' p⟩⟩
theorem q_forS {zs : Str} {j : Nat} (h : Ev te σ H (.str zs)) (Pv : Nat → L2.St → Hp → Prop) (h0 : ∀ H1, Ex H H1 → Pv 0 σ H1)
    (hs : ∀ i c σ' H', zs.cps.toList[i]? = some c → Pv i σ' H' → tu { D with nx := Pv (i + 1), ct := Pv (i + 1), bk := tz D } (σ'.set j (some (.str ⟨#[c]⟩))) H') (hd : ∀ σ' H', Pv zs.cps.toList.length σ' H' → tz D σ' H') : tSeq (tFor (iStr te) (gName j) tu) tz D σ H :=
  s_forS (D := { D with nx := tz D }) h Pv h0 hs hd
theorem q_call {i : Nat} {sp : Sp} {dvs vs : List V} {E : XK} {tr : TA} (h : EvA tr σ H vs) (k : ∀ H1, Ex H H1 → sp (vs ++ dvs) H1 (fun v H2 => tz D (σ.set i (some v)) H2) E) : tSeq (tAsg (tCall sp dvs E tr) (gName i)) tz D σ H := h H (Ex.refl H) _ fun H1 e => k H1 e
/-- a call whose first argument is a new tuple -/
theorem ev_callU1 {sp : Sp} {dvs vs xs : List V} {E : XK} {tr : TA} (h : EvU ta σ H xs) (hr : EvA tr σ H vs) (hs : ∀ p H1, H1 p = some (.tup xs) → Ex H H1 → SpV sp ((.ref p :: vs) ++ dvs) H1 z) : Ev (tCall sp dvs E (tCons ta tr)) σ H z := fun H1 e Q q =>
  h H1 e _ fun p H2 hp e2 h2 => hr H2 (e.trans e2) _ fun H3 e3 => hs p H3 (e3 _ _ h2) ((e.trans e2).trans e3) H3 (Ex.refl _) Q (fun H4 e4 => q H4 ((e2.trans e3).trans e4)) E
theorem ev_index {W : WX} {a b : Str} {k : Nat} {tr : TA} (h : Ev to σ H (.str a)) (hb : EvA tr σ H [.str b]) (hk : Txt.index0 a b = some k) : Ev (tBMS K "str" (rIndexX W) to tr) σ H (.int (k : Int)) := fun H1 e Q q =>
  h H1 e _ fun H2 e2 => ⟨rfl, hb H2 (e.trans e2) _ fun H3 e3 => ⟨a, b, rfl, rfl, fun k' hk' => by
    rw [hk] at hk'
    cases hk'
    exact q H3 (e2.trans e3), fun hn => by
    rw [hk] at hn
    cases hn⟩⟩
theorem ev_find {a b : Str} (h : Ev to σ H (.str a)) (hb : Ev te σ H (.str b)) : Ev (tM1 (fun x xs H Q => ∃ a b, x = .str a ∧ xs = [.str b] ∧ Q (.int (Txt.find a b)) H) to te) σ H (.int (Txt.find a b)) := fun H1 e Q q =>
  h H1 e _ fun H2 e2 => ⟨⟨a, rfl⟩, hb H2 (e.trans e2) _ fun H3 e3 => ⟨a, b, rfl, rfl, q H3 (e2.trans e3)⟩⟩
theorem ev_slS {tl th : TO} {z : Str} {lo hi : Option Int} (h : Ev te σ H (.str z)) (h1 : EvO tl σ H lo) (h2 : EvO th σ H hi) (hz : z.length ≤ sizeLine) : Ev (tSl rSlS te tl th) σ H (.str (cutS z lo hi)) := fun H1 e Q q =>
  h H1 e _ fun H2 e2 => h1 H2 (e.trans e2) _ fun H3 e3 => h2 H3 ((e.trans e2).trans e3) _ fun H4 e4 => ⟨z, rfl, hz, q H4 ((e2.trans e3).trans e4)⟩
/-- text * int -/
def rMulS : R2 := fun x y H Q => ∃ a n, x = .str a ∧ y = .int n ∧ a.length ≤ 1000 ∧ 0 ≤ n ∧ n ≤ 1000 ∧ Q (.str (Txt.mul a n)) H
theorem rv_mulS {a : Str} {n : Int} (h1 : a.length ≤ 1000) (h2 : 0 ≤ n) (h3 : n ≤ 1000) : RV rMulS (.str a) (.int n) H (.str (Txt.mul a n)) := rv_val fun _ _ Q q => ⟨a, n, rfl, rfl, h1, h2, h3, q⟩
end
theorem mulOk {a : Str} {n : Int} (h1 : a.length ≤ 1000) (h2 : 0 ≤ n) (h3 : n ≤ 1000) : MulOk a n := by
  refine ⟨by simp; omega, fun h h' hh => ?_, fun h h' => ?_⟩
  · have p : (0 : Int) < n := by omega
    have m : (a.length : Int) * n ≤ 1000 * 1000 := Int.mul_le_mul (by omega) h3 h2 (by decide)
    have := (Int.le_ediv_iff_mul_le p).mpr (show (a.length : Int) * n ≤ 2 ^ 63 - 1 by omega)
    omega
  · have m : a.length * n.toNat ≤ 1000 * 1000 := Nat.mul_le_mul h1 (by omega)
    have z : sizeLine = 16777216 := rfl
    show decide (a.length * n.toNat > sizeLine) = false
    exact decide_eq_false (by omega)
theorem op_mul_str {X : Cx} : OpR X (binaryOp .Mult) rMulS := by
  intro pins s σ H x y v u Q I rx ry h
  obtain ⟨a, n, rfl, rfl, h1, h2, h3, q⟩ := h
  obtain ⟨t, rfl⟩ := rx
  obtain ⟨t', rfl⟩ := ry
  exact SB.mul (mulOk h1 h2 h3) fun t'' k => ⟨.str (Txt.mul a n), H, I.tok _, ⟨_, rfl⟩, q⟩
section
variable {X : Cx} {σ : L2.St} {H : Hp} {P : Addr} {scope : Scope} {x : Str} {elt : Expr} {te : TE} {fin : Nat → (Nat → Bool) → Bool}
theorem ev_gen {v : V} {n : Nat} {xs : Nat → V} {f : Nat → Bool} (h : Ev te σ H v) (hT : Tab H P) (hs : ∀ H1, Ex H H1 → SrcV X.K H1 v n xs) (he : ∀ H1, Ex H H1 → ∀ i u, i < n → RelV (xs i) u → QV X σ H1 P scope x u elt (.bl (f i))) :
    Ev (tGen X P scope x elt fin te) σ H (.bl (fin n f)) := fun H1 e Q q => h H1 e _ fun H2 e2 => ⟨hT.mono (e.trans e2), n, xs, f, hs H2 (e.trans e2), he H2 (e.trans e2), q H2 e2⟩
end
theorem allF_list {α : Type} (l : List α) (d : α) (p : α → Bool) : allF l.length (fun i => p (l.getD i d)) = l.all p := by
  unfold allF
  rw [Bool.eq_iff_iff, List.all_eq_true, List.all_eq_true]
  constructor
  · intro h y hy
    obtain ⟨i, hi, rfl⟩ := List.getElem_of_mem hy
    have q := h i (List.mem_range.mpr hi)
    rw [List.getD_eq_getElem?_getD, List.getElem?_eq_getElem hi] at q
    exact q
  · intro h i hi
    have hi' := List.mem_range.mp hi
    rw [List.getD_eq_getElem?_getD, List.getElem?_eq_getElem hi']
    exact h _ (List.getElem_mem hi')
theorem anyF_list {α : Type} (l : List α) (d : α) (p : α → Bool) : anyF l.length (fun i => p (l.getD i d)) = l.any p := by
  unfold anyF
  rw [Bool.eq_iff_iff, List.any_eq_true, List.any_eq_true]
  constructor
  · rintro ⟨i, hi, h⟩
    have hi' := List.mem_range.mp hi
    rw [List.getD_eq_getElem?_getD, List.getElem?_eq_getElem hi'] at h
    exact ⟨_, List.getElem_mem hi', h⟩
  · rintro ⟨y, hy, h⟩
    obtain ⟨i, hi, rfl⟩ := List.getElem_of_mem hy
    refine ⟨i, List.mem_range.mpr hi, ?_⟩
    rw [List.getD_eq_getElem?_getD, List.getElem?_eq_getElem hi]
    exact h
theorem src_str {K : PySem.W.Frag} {H : Hp} (z : Str) : SrcV K H (.str z) z.cps.toList.length (fun i => .str ⟨#[z.cps.toList.getD i 0]⟩) := .inr (.inl ⟨z, rfl, Array.length_toList, fun i c hc => by
  have e : z.cps.toList[i]? = some c := by rw [Array.getElem?_toList]; exact hc
  show V.str ⟨#[z.cps.toList.getD i 0]⟩ = V.str ⟨#[c]⟩
  rw [List.getD_eq_getElem?_getD, e]
  rfl⟩)
/-! ### a def whose code object is known -/
structure FunC (K : PySem.W.Frag) (x qual : Str) (st : Stmt) (f : Addr) (fd : FuncData) (c : Addr) : Prop where
  ex : ∃ (oc : Value) (od : Option Addr) (kV doc pm : Value) (an : Option Addr) (ct : Value) (osl : Array (Option Value)), fd = PySem.W.fnOf x qual (defArgs st) (defBody st) (defScope st) .none kV doc pm an (.ref c) ct ∧ K.lookup f = some ⟨oc, od, .func fd, osl⟩ ∧ PySem.W.codeIn K (.ref c) qual = true
  kp : PySem.W.keepIn K (.ref f) = true
section
variable {P : Program} {w : World} {K : PySem.W.Frag} {mg : Str → Option Value} {base : Heap}
theorem FunC.ok {x qual : Str} {st : Stmt} {f c : Addr} {fd : FuncData} {N ps : List Str} {k : Nat} {sp : Sp} (F : FunC K x qual st f fd c) (S : FnScope N ps (defScope st)) (len : ∀ vs H Q E, sp vs H Q E → vs.length = ps.length)
    (hbody : ∀ (A : Around) (outer : List Env) (s : Shared) (H : Hp) (vs : List V) (Q : VK) (E : XK), Room k (A.deeper (envOfC qual (defScope st) s.heap.objs.size f (.ref c))) → sp vs H Q E →
      ∃ t, PSs (cxOf CX0 P w K mg base N qual (defScope st) f (.ref c) A outer s H E).nox (defBody st) t ∧ t { nx := fun _ H' => Q .non H', rt := Q } (start N vs) H) : FnOk P w K mg base CX0 (k + 1) f fd ps sp := by
  obtain ⟨oc, od, kV, doc, pm, an, ct, osl, rfl, lk, hcd⟩ := F.ex
  exact fn_of lk hcd S len fun A outer s H vs Q E hr hsp => let ⟨t, h, q⟩ := hbody A outer s H vs Q E hr hsp; ⟨t, h.nox, q⟩
theorem FunC.fun {x qual : Str} {st : Stmt} {f c : Addr} {fd : FuncData} (F : FunC K x qual st f fd c) : Fun K x qual st f fd := let ⟨oc, od, kV, doc, pm, an, ct, osl, e, lk, hcd⟩ := F.ex; ⟨⟨oc, od, kV, doc, pm, an, .ref c, ct, osl, e, lk, hcd⟩, F.kp⟩
theorem tab_mk {x : Str} {f c T : Addr} {oc e : Value} {od dd : Option Addr} {osl sl : Array (Option Value)} {fd : FuncData} {vs : Array Value} (a : PySem.W.nsIn K mainGlobals x = some (some (.ref f))) (l : K.lookup f = some ⟨oc, od, .func fd, osl⟩)
    (h : K.lookup c = some ⟨e, dd, .fields vs, sl⟩) (hv : vs[11]? = some (.ref T)) (hc : fd.code = .ref c := by rfl) : PySem.W.tabIn K x = some (c, T) := by
  unfold PySem.W.tabIn
  rw [a]
  dsimp only
  rw [l]
  dsimp only
  rw [hc]
  dsimp only
  rw [h]
  dsimp only
  rw [hv]
theorem funC_mk {x qual : Str} {st : Stmt} {f c T : Addr} {oc : Value} {od an : Option Addr} {osl : Array (Option Value)} {kV doc pm cdv ct : Value} (a : PySem.W.nsIn K mainGlobals x = some (some (.ref f))) (l : K.lookup f = some ⟨oc, od, .func (PySem.W.fnOf x qual (defArgs st) (defBody st) (defScope st) .none kV doc pm an cdv ct), osl⟩)
    (cd : PySem.W.codeIn K cdv qual = true) (k : PySem.W.keepIn K (.ref f) = true) (ht : PySem.W.tabIn K x = some (c, T)) : FunC K x qual st f (PySem.W.fnOf x qual (defArgs st) (defBody st) (defScope st) .none kV doc pm an cdv ct) c := by
  have e : cdv = .ref c := by
    unfold PySem.W.tabIn at ht
    rw [a] at ht
    dsimp only at ht
    rw [l] at ht
    dsimp only [PySem.W.fnOf] at ht
    cases cdv with
    | ref c' =>
      dsimp only at ht
      split at ht
      · split at ht
        · cases ht
          rfl
        · cases ht
      · cases ht
    | _ => cases ht
  subst e
  exact ⟨⟨oc, od, kV, doc, pm, an, ct, osl, rfl, l, cd⟩, k⟩
end
end LS

set_option Elab.async false
set_option linter.all false
set_option maxRecDepth 100000
set_option maxHeartbeats 4000000
namespace LQ
open PySem PySem.Spec PyProof.Rows L2 Evl LT LG LS
/-! ### calls within the elements of a generator expression -/
section
variable {X : Cx} {σ : L2.St} {H : Hp} {P : Addr} {scope : Scope} {x : Str} {u : Value} {a b : Expr} {za zb z : V} {pos p : Pos}
theorem fc_blt {y : Str} {r : Value} {cenv : Env} {A' : Around} {E' : Value → Shared → Prop} {s : Shared} {m : Str → Option Value} {Q : Value → Shared → Prop} (F : Fc X σ H P scope x u cenv A' s m) (hk : scope.kind = .function) (hl : scope.names.lookup y = some .globalImplicit) (hm : X.mg y = none) (hv : bootBuiltins y = some r) (h : Q r s)
    (hn : y ≠ "__name__" := by decide) (hd : (y == ("__debug__" : Str)) = false := by decide) : wpAny (model X.prog X.w) A' (eval (.Name y p) cenv) Q E' s := by
  obtain ⟨mb, h1, h2⟩ := F.md.blt
  exact Calls.Name_function_global (by rw [F.sc]; exact hk) (show cenv.scope.names.lookup y = some .globalImplicit by rw [F.sc]; exact hl) (Calls.loadGlobal_builtin (by rw [F.gl]; exact F.md.glob.keeps F.base) hm (by rw [F.bi]; exact h1.keeps F.base) ((h2 y hn).trans hv) h) hd
theorem qv_blt {y : Str} {r : Value} (hk : scope.kind = .function) (hl : scope.names.lookup y = some .globalImplicit) (hm : X.mg y = none) (hv : bootBuiltins y = some r) (hz : RelV z r) (hn : y ≠ "__name__" := by decide) (hd : (y == ("__debug__" : Str)) = false := by decide) :
    QV X σ H P scope x u (.Name y p) z := fun cenv A' E' s m F => fc_blt F hk hl hm hv ⟨hz, kp_refl _⟩ hn hd
/-- a built-in function of two arguments -/
theorem qv_blt2 {y : Str} {id : String} (hk : scope.kind = .function) (hl : scope.names.lookup y = some .globalImplicit) (hm : X.mg y = none) (hv : bootBuiltins y = some (.builtin id)) (ha : QV X σ H P scope x u a za) (hb : QV X σ H P scope x u b zb) (hr : QR X σ H P scope x u (fun v w => call (.builtin id) [v, w]) za zb z)
    (he : ∀ env, starEach [a, b] env = (false, eval a env) :: starEach [b] env := by intro _; rfl) (h2 : ∀ env, starEach [b] env = [(false, eval b env)] := by intro _; rfl) (hn : y ≠ "__name__" := by decide) (hd : (y == ("__debug__" : Str)) = false := by decide) :
    QV X σ H P scope x u (.Call (.Name y p) [a, b] [] pos) z := fun cenv A' E' s m F => by
  refine wpAny_Call_Name_kw (fc_blt F hk hl hm hv ?_ hn hd)
  refine PyProof.Rows.callWith_builtin1 ?_ (he cenv) (by rw [h2 cenv]; rfl)
  rw [he cenv, h2 cenv]
  show wpAny _ _ (spliced [(false, eval a cenv), (false, eval b cenv)]) _ _ s
  refine Calls.spliced_cons (wpAny_mono (ha cenv A' E' s m F) (fun v s1 r1 => ?_) fun _ _ e => e)
  refine Calls.spliced_cons (wpAny_mono (hb cenv A' E' s1 m (F.keeps r1.2)) (fun w s2 r2 => ?_) fun _ _ e => e)
  exact Calls.spliced_nil (wpAny_mono (hr cenv A' E' s2 m v w ((F.keeps r1.2).keeps r2.2) r1.1 r2.1) (fun y s3 r3 => ⟨r3.1, kp_trans (kp_trans r1.2 r2.2) r3.2⟩) fun _ _ e => e)
/-- what isinstance asks of a value -/
theorem kit_fc {cenv : Env} {A' : Around} {s : Shared} {m : Str → Option Value} {v : Value} {t : Value} (F : Fc X σ H P scope x u cenv A' s m) (hT : Tab H P) (r : RelV z v) (ty : TyOf X.K H z t) (no : ∀ a C dx fs, H a = some (.ins C dx fs) → z ≠ .ref a) :
    ∃ Pz : Heap → Prop, PySem.W.KitX X.K v t Pz ∧ Pz s.heap ∧ v ≠ .builtin "__main__.__loader__#opaque" := by
  have rd : ∀ {a : Addr} {o : HO}, H a = some o → (∀ φ, o ≠ .ext φ) → but P H a = some o := fun {a o} e n => by
    rw [but_ne fun z => by rw [z, hT] at e; exact n _ (Option.some.inj e).symm]
    exact e
  cases ty with
  | non => cases (show v = Value.none from r); exact ⟨_, PySem.W.kitx_none, True.intro, fun z => nomatch z⟩
  | bl y => cases (show v = Value.bool y from r); exact ⟨_, PySem.W.kitx_bool, True.intro, fun z => nomatch z⟩
  | int i => obtain ⟨t, q⟩ := (show ∃ t, v = Value.int i t from r); cases q; exact ⟨_, PySem.W.kitx_int, True.intro, fun z => nomatch z⟩
  | str y => obtain ⟨t, q⟩ := (show ∃ t, v = Value.str y t from r); cases q; exact ⟨_, PySem.W.kitx_str, True.intro, fun z => nomatch z⟩
  | flt y => obtain ⟨t, q⟩ := (show ∃ t, v = Value.float y t from r); cases q; exact ⟨_, PySem.W.kitx_float, True.intro, fun z => nomatch z⟩
  | @lst a xs ea =>
    cases (show v = Value.ref a from r)
    obtain ⟨_, _, n, _, h1⟩ := (show ObjOk X.prog X.w (but P H) s.heap a (.lst xs) from F.hok a _ (rd ea (fun φ z => by cases z)))
    exact ⟨_, PySem.W.kitx_list, ⟨_, h1, rfl⟩, fun z => nomatch z⟩
  | @frz a ob xs ea =>
    cases (show v = Value.ref a from r)
    obtain ⟨_, _, _, n, _, h1⟩ := (show ObjOk X.prog X.w (but P H) s.heap a (.frz ob (.lst xs)) from F.hok a _ (rd ea (fun φ z => by cases z)))
    exact ⟨_, PySem.W.kitx_list, ⟨_, h1, rfl⟩, fun z => nomatch z⟩
  | @tup a xs ea =>
    cases (show v = Value.ref a from r)
    obtain ⟨_, _, _, o, h1, h2, _⟩ := (show ObjOk X.prog X.w (but P H) s.heap a (.tup xs) from F.hok a _ (rd ea (fun φ z => by cases z)))
    exact ⟨_, PySem.W.kitx_tuple, ⟨o, h1, h2⟩, fun z => nomatch z⟩
  | @dK a kvs ea =>
    cases (show v = Value.ref a from r)
    obtain ⟨_, _, vs, _, o, es, ep, h1, h2, _⟩ := F.hok a _ (rd ea (fun φ z => by cases z))
    exact ⟨_, PySem.W.kitx_dict, ⟨o, h1, h2.1⟩, fun z => nomatch z⟩
  | @dT a kvs ea =>
    cases (show v = Value.ref a from r)
    obtain ⟨_, _, xs, _, o, es, ep, h1, h2, _⟩ := F.hok a _ (rd ea (fun φ z => by cases z))
    exact ⟨_, PySem.W.kitx_dict, ⟨o, h1, h2.1⟩, fun z => nomatch z⟩
  | @ins a C dx fs ea cl ha hn htk hm => exact absurd rfl (no a C dx fs ea)
theorem qr_isi {T : String} {t : Value} {b : Bool} (hT : Tab H P) (ty : TyOf X.K H z t) (no : ∀ a C dx fs, H a = some (.ins C dx fs) → z ≠ .ref a) (hk : PySem.W.kitOne X.K t (.type T) = some b) : QR X σ H P scope x u (fun v w => call (.builtin "isinstance") [v, w]) z (.ty T) (.bl b) := fun cenv A' E' s m v w F r1 r2 => by
  cases (show w = Value.type T from r2)
  obtain ⟨Pz, Z, p, hx⟩ := kit_fc F hT r1 ty no
  exact PySem.W.kia_one Z F.kin p hk hx fun tk => ⟨rfl, kp_tok _ _⟩
theorem qv_is {z' : V} (h : QV X σ H P scope x u a z) (e : z = z') : QV X σ H P scope x u a z' := e ▸ h
theorem qv_not {c : Bool} (ha : QV X σ H P scope x u a (.bl c)) : QV X σ H P scope x u (.UnaryOp .Not a pos) (.bl (!c)) := fun cenv A' E' s m F => by
  refine UnaryOp_ (wpAny_mono (ha cenv A' E' s m F) (fun v s1 r1 => ?_) fun _ _ e => e)
  obtain ⟨rfl, k⟩ := r1
  exact not_of (wpAny_truthy_bool ⟨rfl, k⟩)
theorem qv_one {op : BoolOp} (ha : QV X σ H P scope x u a z) : QV X σ H P scope x u (.BoolOp op [a] pos) z := fun cenv A' E' s m F => BoolOp_one (ha cenv A' E' s m F)
theorem qv_and {rest : List Expr} {c d : Bool} (ha : QV X σ H P scope x u a (.bl c)) (hb : c = true → QV X σ H P scope x u (.BoolOp .And (b :: rest) pos) (.bl d)) : QV X σ H P scope x u (.BoolOp .And (a :: b :: rest) pos) (.bl (c && d)) := fun cenv A' E' s m F => by
  refine BoolOp_and (wpAny_mono (ha cenv A' E' s m F) (fun v s1 r1 => ?_) fun _ _ e => e)
  obtain ⟨rfl, k⟩ := r1
  refine wpAny_truthy_bool ?_
  cases c with
  | true => exact wpAny_mono (hb rfl cenv A' E' s1 m (F.keeps k)) (fun y s3 r3 => ⟨r3.1, kp_trans k r3.2⟩) fun _ _ e => e
  | false => exact ⟨rfl, k⟩
theorem qr_ge_int {i j : Int} : QR X σ H P scope x u (compareOp .GtE) (.int i) (.int j) (.bl (decide (j ≤ i))) := fun cenv A' E' s m v w F r1 r2 => by
  obtain ⟨t, rfl⟩ := r1
  obtain ⟨t', rfl⟩ := r2
  exact ge_int ⟨rfl, kp_refl _⟩
/-- an own def of one argument whose body is one return -/
theorem qv_call1 {nm pn qual : Str} {st : Stmt} {f : Addr} {fd : FuncData} {N : List Str} {e : Expr} {rp : Pos} {k : Nat} (hr : Room k X.A) (hk : scope.kind = .function) (hl : scope.names.lookup nm = some .globalImplicit) (hm : X.mg nm = some (.ref f)) (F : Fun X.K nm qual st f fd) (hbody : defBody st = [.Return (some e) rp]) (S : FnScope N [pn] (defScope st)) (hloc : (defScope st).names.lookup pn = some .local)
    (hb : Binds X.K fd [pn] []) (ha : QV X σ H P scope x u a za) (he : ∀ (A0 : Around) (v : Value), RelV za v → QV { X with A := A0 } σ H P (defScope st) pn v e z) (hs : ∀ env, starEach [a] env = (false, eval a env) :: starEach [] env := by intro _; rfl) (hd : (nm == ("__debug__" : Str)) = false := by decide) :
    QV X σ H P scope x u (.Call (.Name nm p) [a] [] pos) z := fun cenv A' E' s m Fc0 => by
  refine wpAny_Call_Name_kw (Calls.Name_function_global (by rw [Fc0.sc]; exact hk) (show cenv.scope.names.lookup nm = some .globalImplicit by rw [Fc0.sc]; exact hl) (Calls.loadGlobal_global (by rw [Fc0.gl]; exact Fc0.md.glob.keeps Fc0.base) hm ?_) hd)
  refine PySem.W.callWith_K (h₀ := X.base) Fc0.md.kin F.kp ?_ (hs cenv) (by rfl)
  rw [hs cenv]
  show wpAny _ _ (spliced ((false, eval a cenv) :: [])) _ _ s
  refine Calls.spliced_cons (wpAny_mono (ha cenv A' E' s m Fc0) (fun v s1 r1 => Calls.spliced_nil ?_) fun _ _ e => e)
  have F1 := Fc0.keeps r1.2
  refine ⟨F1.kin, ?_⟩
  obtain ⟨oc, od, kV, doc, pm, an, cdv, ct, osl, rfl, lk, hcd⟩ := F.ex
  refine wpAny_call (Att.call_fn (binds := [(pn, v)]) F1.kin (F1.md.nolimit.keeps F1.base) lk hcd (by have := hr.dp; have := Fc0.dp; omega) (hb s1 [v] F1.kin rfl) ?_ (fun s2 IC => ?_) S.co S.gen S.kind)
  · simp only [List.all_cons, List.all_nil, Bool.and_true, Bool.or_eq_true, beq_iff_eq]
    exact .inl hloc
  · obtain ⟨h2, tk2, rfl⟩ := IC.toInCall.same
    have kk : ∀ b o, s1.heap.get? b = some o → h2.get? b = some o := IC.toInCall.keep
    rw [hbody]
    have Fn : Fc { X with A := A' } σ H P (defScope st) pn v (envOfC qual (defScope st) s1.heap.objs.size f cdv) (A'.deeper (envOfC qual (defScope st) s1.heap.objs.size f cdv)) { s1 with heap := h2, toks := tk2 } _ :=
      ⟨Fc0.hd, Nat.le_refl _, by show A'.units + 3 ≤ A'.units + 8; omega, rfl, rfl, rfl, IC.toInCall.ns, by
        show bindL _ [(pn, v)] _ pn = some v
        unfold bindL
        have hkd : (envOfC qual (defScope st) s1.heap.objs.size f cdv).kindOf pn = some .local := hloc
        rw [hkd]
        simp [bindL], fun b o e => kk b o (F1.base b o e), F1.md, F1.hok.kept kk, fun i y w h1 h2 h3 h4 => absurd rfl (S.nofree (y, .free) (lookup_mem' h4))⟩
    refine wpAny_execs_cons (wpAny_Return_some (wpAny_mono (he A' v r1.1 _ _ _ _ _ Fn) (fun y s3 r3 => ⟨r3.1, kp_trans (kp_trans r1.2 ⟨h2, tk2, rfl, kk⟩) r3.2⟩) fun _ _ e => e))
end
end LQ

set_option Elab.async false
set_option linter.all false
set_option maxRecDepth 100000
set_option maxHeartbeats 4000000
namespace LX
open PySem PySem.Spec PyProof.Rows L2 Evl LT LG LS
/-! ### own exceptions without arguments -/
abbrev veTail : List Value := [.type "ValueError", .type "Exception", .type "BaseException", .type "object"]
/-- an exception class of the text: its name, what the written part says of it -/
structure Xc (K : PySem.W.Frag) (mg : Str → Option Value) (nm : Str) (C : Addr) : Prop where
  g : mg nm = some (.ref C)
  x : PySem.W.excIn K C veTail "ValueError.__new__" = true
  k : PySem.W.keepIn K (.ref C) = true
  b : PySem.W.subIn K (.ref C) (.type "BaseException") = some true
  t : PySem.W.typeIn K (.ref C) = some (.type "type")
  d : PySem.W.hasDictIn K C = true
section
variable {X : Cx} {C D : Addr} {nm : Str}
theorem pmk_own0 {p pos : Pos} (T : Xc X.K X.mg nm C) (hg : Gl X nm) (hdb : (nm == ("__debug__" : Str)) = false := by decide) : PMk X (.Call (.Name nm p) [] [] pos) (fun _ H Q => Q (.ref C) none H) := by
  intro pins s σ H Q I h
  refine wpAny_Call_Name_kw (ld_glob I hg T.g ?_ hdb)
  refine PySem.W.callWith_K0 I.kIn T.k ?_
  show wpAny _ _ (call (.ref C) []) _ _ _
  obtain ⟨_, _, _, _, _, _, _, _, _, _, _, _, _, _, _, _, _, hC, hN, hni, TT⟩ := exc_obj I.kIn T.x
  refine wpAny_call_exc_subT PySem.F.excBase_ValueError TT hC hN hni (fun h' e hm => ?_) (Nat.zero_le _)
  exact mk_of I hm (raises_own T.b T.t) h (I.hok.gone hm.new)
theorem ps_raise0 {W : WX} {p pos pos2 : Pos} (hc : X.calm = true) (T : Xc X.K X.mg nm C) (tk : Takes X W) (hg : Gl X nm) (hdb : (nm == ("__debug__" : Str)) = false := by decide) : PS X (.Raise (some (.Call (.Name nm p) [] [] pos)) none pos2) (fun _ σ H => W (.ref C) none σ H) := ps_raise hc tk (pmk_own0 T hg hdb)
/-- isinstance(e, c), e what the suite holds -/
def rIsX (K : PySem.W.Frag) (D a : Addr) (cls : Value) (d : Option Addr) : List V → Hp → VK → Prop := fun xs H Q => cls = .ref D ∧ d = none ∧ rIsE K D a xs H Q
theorem call_isX {a : Addr} {oe : Obj} {cls : Value} {d : Option Addr} {pn : List (Addr × Obj)} (C : ExcC X.K D) (hz : Zc cls d oe) (hf : ∃ vs, oe.data = .fields vs) : CallR (X.suite a ((a, oe) :: pn)) (.builtin "isinstance") (rIsX X.K D a cls d) := by
  intro pins s σ H xs us Q I r h
  obtain ⟨rfl, rfl, h⟩ := h
  exact call_isE C hz hf pins s σ H xs us Q I r h
end
section
variable {K : PySem.W.Frag} {mg : Str → Option Value} {C D : Addr} {nm : Str} {b : Bool}
theorem Xc.exm (T : Xc K mg nm C) {cls : Value} (h : PySem.W.subIn K cls (.ref C) = some b) : PySem.W.exmOne K cls (.ref C) = some b := PySem.W.exm_ref T.b T.d T.t h
theorem Xc.kit (T : Xc K mg nm C) {cls : Value} (h : PySem.W.subIn K cls (.ref C) = some b) (hn : cls = .ref C → b = true) : PySem.W.kitOne K cls (.ref C) = some b := by
  have e := T.exm h
  unfold PySem.W.exmOne at e
  rw [T.b] at e
  unfold PySem.W.kitOne
  by_cases q : cls = .ref C
  · rw [hn q, q]
    simp
  · rw [if_neg (by simpa using q)]
    simpa using e
end
/-- a try whose suite returns: what the body's calls that return do, what the suite does -/
theorem ev_isX {K : PySem.W.Frag} {D a C : Addr} {σ : L2.St} {H : Hp} {ta tb : TE} {b : Bool} (h : Ev ta σ H (.ref a)) (hn : Ev tb σ H (.ref C)) (hk : PySem.W.kitOne K (.ref D) (.ref C) = some b) : Ev (tCB (rIsX K D a (.ref D) none) (tCons ta (tCons tb tNil))) σ H (.bl b) :=
  ev_cb (ea_cons h (ea_cons hn ea_nil)) fun H1 e Q q => ⟨rfl, rfl, .ref C, .ref C, b, rfl, fun u hu => hu, hk, q H1 (Ex.refl H1)⟩
theorem pass_own {X : Cx} {E : XK} (tk : Takes X (fun cls d _ H => E cls d H)) : Passes (L2.CX X.prog X.w) X E := passes_call tk fun _ _ _ _ h => h
end LX

set_option Elab.async false
set_option linter.all false
set_option maxRecDepth 100000
set_option maxHeartbeats 4000000
namespace LK
open PySem PySem.Spec PyProof.Rows L2 Evl

/-! ### data that == serves -/
def Sh (n : Nat) (d : PyData) : Prop := d.canLay0 = true ∧ d.depth ≤ n
theorem sh_int (i : Int) (n : Nat := 0) : Sh n (.int i) := ⟨by simp [PyData.canLay0], by simp [PyData.depth]⟩
theorem sh_bool (b : Bool) (n : Nat := 0) : Sh n (.bool b) := ⟨by simp [PyData.canLay0], by simp [PyData.depth]⟩
theorem sh_none (n : Nat := 0) : Sh n .none := ⟨by simp [PyData.canLay0], by simp [PyData.depth]⟩
theorem sh_all {n : Nat} : ∀ {ds : List PyData}, (∀ d ∈ ds, Sh n d) → PyData.canLayAll0 ds = true ∧ PyData.depthAll ds ≤ n
  | [], _ => ⟨by simp [PyData.canLayAll0], by simp [PyData.depthAll]⟩
  | d :: ds, h => by
    obtain ⟨h1, h2⟩ := h d List.mem_cons_self
    obtain ⟨h3, h4⟩ := sh_all fun e he => h e (List.mem_cons_of_mem _ he)
    refine ⟨?_, ?_⟩
    · rw [PyData.canLayAll0, h1, h3]
      rfl
    · rw [PyData.depthAll]
      omega
theorem sh_tup {n : Nat} {ds : List PyData} (h : ∀ d ∈ ds, Sh n d) : Sh (n + 1) (.tuple ds) := by
  obtain ⟨h1, h2⟩ := sh_all h
  refine ⟨?_, ?_⟩
  · rw [PyData.canLay0]
    exact h1
  · rw [PyData.depth]
    omega
theorem sh_lst {n : Nat} {ds : List PyData} (h : ∀ d ∈ ds, Sh n d) : Sh (n + 1) (.list ds) := by
  obtain ⟨h1, h2⟩ := sh_all h
  refine ⟨?_, ?_⟩
  · rw [PyData.canLay0]
    exact h1
  · rw [PyData.depth]
    omega
theorem Sh.up {n m : Nat} {d : PyData} (h : Sh n d) (e : n ≤ m) : Sh m d := ⟨h.1, Nat.le_trans h.2 e⟩
theorem Sh.shaped {n : Nat} {d : PyData} (h : Sh n d) (e : n ≤ 64) : SeqAt.shaped d = true := by
  unfold SeqAt.shaped
  rw [h.1, decide_eq_true (Nat.le_trans h.2 e)]
  rfl
theorem Sh.refl {n : Nat} {d : PyData} (h : Sh n d) : PyData.eqv d d = true := SeqAt.eqv_refl d h.1
theorem sh_ints (ns : List Int) : ∀ d ∈ ns.map PyData.int, Sh 0 d := fun d hd => by
  obtain ⟨i, _, rfl⟩ := List.mem_map.mp hd
  exact sh_int i
section
variable {K : PySem.W.Frag} {H H' : Hp}
theorem dp_ints : ∀ ns : List Int, DpAll K H (ns.map V.int) (ns.map PyData.int)
  | [] => .nil
  | n :: r => .cons (.int n) (dp_ints r)
mutual
theorem dp_mono (e : Ex H H') : ∀ {v : V} (d : PyData), Dp K H v d → Dp K H' v d
  | _, .none, h => by cases h; exact .non
  | _, .bool b, h => by cases h; exact .bl b
  | _, .int i, h => by cases h; exact .int i
  | _, .str x, h => by cases h; exact .str x
  | _, .list ds, h => by
    cases h with
    | lst h1 h2 => exact .lst (ex_l e h1) (dpa_mono e ds h2)
  | _, .tuple ds, h => by
    cases h with
    | tup h1 h2 => exact .tup (ex_t e h1) (dpa_mono e ds h2)
  | _, .dict _, h => by cases h
theorem dpa_mono (e : Ex H H') : ∀ {vs : List V} (ds : List PyData), DpAll K H vs ds → DpAll K H' vs ds
  | _, [], h => by cases h; exact .nil
  | _, d :: ds, h => by
    cases h with
    | cons h1 h2 => exact .cons (dp_mono e d h1) (dpa_mono e ds h2)
end
/-- two values of the same data: == True, != False -/
theorem rv_eqD {x y : V} {d : PyData} {n : Nat} (hx : Dp K H x d) (hy : Dp K H y d) (s : Sh n d) (hn : n ≤ 64) : RV (rEqD K) x y H (.bl true) := rv_val fun H1 e Q q =>
  ⟨d, d, dp_mono e d hx, dp_mono e d hy, s.shaped hn, s.shaped hn, by rw [s.refl]; exact q⟩
theorem rv_neD {x y : V} {d : PyData} {n : Nat} (hx : Dp K H x d) (hy : Dp K H y d) (s : Sh n d) (hn : n ≤ 64) : RV (rNeD K) x y H (.bl false) := rv_val fun H1 e Q q =>
  ⟨d, d, dp_mono e d hx, dp_mono e d hy, s.shaped hn, s.shaped hn, by rw [s.refl]; exact q⟩
/-- of any two data -/
theorem rv_neDD {x y : V} {d f : PyData} {n : Nat} (hx : Dp K H x d) (hy : Dp K H y f) (s : Sh n d) (s' : Sh n f) (hn : n ≤ 64) : RV (rNeD K) x y H (.bl (!PyData.eqv d f)) := rv_val fun H1 e Q q =>
  ⟨d, f, dp_mono e d hx, dp_mono e f hy, s.shaped hn, s'.shaped hn, q⟩
theorem rv_eqDD {x y : V} {d f : PyData} {n : Nat} (hx : Dp K H x d) (hy : Dp K H y f) (s : Sh n d) (s' : Sh n f) (hn : n ≤ 64) : RV (rEqD K) x y H (.bl (PyData.eqv d f)) := rv_val fun H1 e Q q =>
  ⟨d, f, dp_mono e d hx, dp_mono e f hy, s.shaped hn, s'.shaped hn, q⟩
theorem rv_ltT {a b : Addr} {ns ms : List Int} (ha : SqT K H a (ns.map V.int)) (hb : SqT K H b (ms.map V.int)) : RV (rLtT K) (.ref a) (.ref b) H (.bl (HT.lexLt ns ms)) := rv_val fun H1 e Q q =>
  ⟨a, b, ns, ms, rfl, rfl, ex_t e ha, ex_t e hb, q⟩
def leV (ns ms : List Int) : Bool := Ob.lexAt (fun j => decide (ns.getD j 0 = ms.getD j 0)) (fun j => decide (ns.getD j 0 ≤ ms.getD j 0)) (decide (ns.length ≤ ms.length)) 0 (min ns.length ms.length)
theorem rv_leT {a b : Addr} {ns ms : List Int} (ha : SqT K H a (ns.map V.int)) (hb : SqT K H b (ms.map V.int)) : RV (rLeT K) (.ref a) (.ref b) H (.bl (leV ns ms)) := rv_val fun H1 e Q q =>
  ⟨a, b, ns, ms, rfl, rfl, ex_t e ha, ex_t e hb, q⟩

/-! ### reading a cell of the script -/
def cellv (ns : List Int) (k : Nat) : Int := ns.getD k 0
theorem cellv_in {ns : List Int} {k : Nat} (hk : k < ns.length) : (ns.map V.int)[k]? = some (.int (cellv ns k)) := by
  rw [List.getElem?_map, List.getElem?_eq_getElem hk]
  unfold cellv
  rw [List.getD_eq_getElem?_getD, List.getElem?_eq_getElem hk]
  rfl
theorem cellv_out {ns : List Int} {k : Nat} (hk : ns.length ≤ k) : cellv ns k = 0 := by
  unfold cellv
  rw [List.getD_eq_getElem?_getD, List.getElem?_eq_none hk]
  rfl
def spCel (K : PySem.W.Frag) : Sp := fun vs H Q _ => ∃ (a : Addr) (ns : List Int) (k : Nat), vs = [.ref a, .int (k : Int)] ∧ SqL K H a (ns.map V.int) ∧ RetV (.int (cellv ns k)) H Q
theorem sv_cell {a : Addr} {ns : List Int} {k : Nat} {z : Int} (h : SqL K H a (ns.map V.int)) (e : z = (k : Int)) : SpV (spCel K) [.ref a, .int z] H (.int (cellv ns k)) := fun H1 e1 Q q E =>
  ⟨a, ns, k, by rw [e], ex_l e1 h, fun H2 e2 => q H2 e2⟩
end
end LK

namespace K01
open PySem PySem.Spec PyProof.Rows L2 Evl LK LT LG LS LQ LX
/-! ### names: digits of base 40 -/
def alpha : Str := "abcdefghijklmnopqrstuvwxyz0123456789._-"
def AL : List Nat := alpha.cps.toList
def ix (c : Nat) : Nat := AL.idxOf c
theorem al_len : alpha.length = 39 := by decide +kernel
theorem al_find : ∀ c ∈ AL, Txt.find alpha ⟨#[c]⟩ = (ix c : Int) := by decide +kernel
theorem al_index : ∀ c ∈ AL, Txt.index0 alpha ⟨#[c]⟩ = some (ix c) := by decide +kernel
theorem ix_lt : ∀ c ∈ AL, ix c < 39 := by decide +kernel
theorem ix_inj : ∀ c ∈ AL, ∀ d ∈ AL, ix c = ix d → c = d := by decide +kernel
/-- the digits of l, n places -/
def vl : Nat → List Nat → Int
  | _, [] => 0
  | 0, _ :: _ => 0
  | n + 1, c :: r => ((ix c : Int) + 1) * 40 ^ n + vl n r
def hw (a : Int) (l : List Nat) : Int := l.foldl (fun w c => w * 40 + (ix c : Int) + 1) a
theorem hw_vl : ∀ (l : List Nat) (n : Nat) (a : Int), l.length ≤ n → hw a l * 40 ^ (n - l.length) = a * 40 ^ n + vl n l
  | [], n, a, _ => by
    show a * 40 ^ (n - 0) = a * 40 ^ n + vl n []
    have : vl n [] = 0 := by cases n <;> rfl
    rw [this, Nat.sub_zero, Int.add_zero]
  | c :: r, 0, a, h => by simp at h
  | c :: r, n + 1, a, h => by
    have ih := hw_vl r n (a * 40 + (ix c : Int) + 1) (by simpa using h)
    show hw (a * 40 + (ix c : Int) + 1) r * 40 ^ (n + 1 - (r.length + 1)) = a * 40 ^ (n + 1) + (((ix c : Int) + 1) * 40 ^ n + vl n r)
    rw [Nat.add_sub_add_right, ih, Int.pow_succ]
    generalize (40 : Int) ^ n = p
    rw [Int.add_assoc, Int.add_mul, Int.mul_assoc, Int.mul_comm 40 p, Int.add_assoc]
theorem p40 (n : Nat) : (0 : Int) < 40 ^ n := Int.pow_pos (by decide)
theorem vl_bounds : ∀ (l : List Nat) (n : Nat), l.length ≤ n → (∀ c ∈ l, c ∈ AL) → 0 ≤ vl n l ∧ vl n l < 40 ^ n
  | [], n, _, _ => by
    have : vl n [] = 0 := by cases n <;> rfl
    rw [this]
    exact ⟨Int.le_refl _, p40 n⟩
  | c :: r, 0, h, _ => by simp at h
  | c :: r, n + 1, h, hA => by
    obtain ⟨h1, h2⟩ := vl_bounds r n (by simpa using h) fun d hd => hA d (List.mem_cons_of_mem _ hd)
    have hc := ix_lt c (hA c List.mem_cons_self)
    show 0 ≤ ((ix c : Int) + 1) * 40 ^ n + vl n r ∧ ((ix c : Int) + 1) * 40 ^ n + vl n r < 40 ^ (n + 1)
    have hp := p40 n
    rw [Int.pow_succ]
    generalize (40 : Int) ^ n = p at *
    have m1 : ((ix c : Int) + 1) * p ≤ 39 * p := Int.mul_le_mul_of_nonneg_right (by omega) (by omega)
    have m2 : 0 ≤ ((ix c : Int) + 1) * p := Int.mul_nonneg (by omega) (by omega)
    omega
/-- by the first place where they differ -/
def ordL : List Nat → List Nat → Int
  | [], s => -(s.length : Int)
  | c :: r, [] => ((c :: r).length : Int)
  | c :: r, d :: s => if (ix c : Int) = (ix d : Int) then ordL r s else (ix c : Int) - (ix d : Int)
theorem ord_vl : ∀ (l m : List Nat) (n : Nat), l.length ≤ n → m.length ≤ n → (∀ c ∈ l, c ∈ AL) → (∀ c ∈ m, c ∈ AL) → (ordL l m = 0 ↔ vl n l = vl n m) ∧ (ordL l m < 0 ↔ vl n l < vl n m)
  | [], [], n, _, _, _, _ => by simp [ordL]
  | [], d :: s, 0, _, h, _, _ => by simp at h
  | c :: r, [], 0, h, _, _, _ => by simp at h
  | [], d :: s, n + 1, _, h, _, hm => by
    obtain ⟨h1, h2⟩ := vl_bounds s n (by simpa using h) fun x hx => hm x (List.mem_cons_of_mem _ hx)
    have hp := p40 n
    show (-((d :: s).length : Int) = 0 ↔ (0 : Int) = ((ix d : Int) + 1) * 40 ^ n + vl n s) ∧ (-((d :: s).length : Int) < 0 ↔ (0 : Int) < ((ix d : Int) + 1) * 40 ^ n + vl n s)
    generalize (40 : Int) ^ n = p at *
    have m2 : 1 * p ≤ ((ix d : Int) + 1) * p := Int.mul_le_mul_of_nonneg_right (by omega) (by omega)
    simp only [List.length_cons]
    omega
  | c :: r, [], n + 1, h, _, hl, _ => by
    obtain ⟨h1, h2⟩ := vl_bounds r n (by simpa using h) fun x hx => hl x (List.mem_cons_of_mem _ hx)
    have hp := p40 n
    show (((c :: r).length : Int) = 0 ↔ ((ix c : Int) + 1) * 40 ^ n + vl n r = (0 : Int)) ∧ (((c :: r).length : Int) < 0 ↔ ((ix c : Int) + 1) * 40 ^ n + vl n r < (0 : Int))
    generalize (40 : Int) ^ n = p at *
    have m2 : 1 * p ≤ ((ix c : Int) + 1) * p := Int.mul_le_mul_of_nonneg_right (by omega) (by omega)
    simp only [List.length_cons]
    omega
  | c :: r, d :: s, 0, h, _, _, _ => by simp at h
  | c :: r, d :: s, n + 1, h, h', hl, hm => by
    obtain ⟨h1, h2⟩ := vl_bounds r n (by simpa using h) fun x hx => hl x (List.mem_cons_of_mem _ hx)
    obtain ⟨h3, h4⟩ := vl_bounds s n (by simpa using h') fun x hx => hm x (List.mem_cons_of_mem _ hx)
    obtain ⟨i1, i2⟩ := ord_vl r s n (by simpa using h) (by simpa using h') (fun x hx => hl x (List.mem_cons_of_mem _ hx)) fun x hx => hm x (List.mem_cons_of_mem _ hx)
    have hp := p40 n
    show ((if (ix c : Int) = (ix d : Int) then ordL r s else (ix c : Int) - (ix d : Int)) = 0 ↔ ((ix c : Int) + 1) * 40 ^ n + vl n r = ((ix d : Int) + 1) * 40 ^ n + vl n s) ∧
      ((if (ix c : Int) = (ix d : Int) then ordL r s else (ix c : Int) - (ix d : Int)) < 0 ↔ ((ix c : Int) + 1) * 40 ^ n + vl n r < ((ix d : Int) + 1) * 40 ^ n + vl n s)
    generalize (40 : Int) ^ n = p at *
    by_cases e : (ix c : Int) = (ix d : Int)
    · rw [if_pos e, e, i1, i2]
      generalize ((ix d : Int) + 1) * p = z
      omega
    · rw [if_neg e]
      rcases Int.lt_or_gt_of_ne e with g | g
      · have m1 : ((ix c : Int) + 1 + 1) * p ≤ ((ix d : Int) + 1) * p := Int.mul_le_mul_of_nonneg_right (by omega) (by omega)
        rw [Int.add_mul ((ix c : Int) + 1), Int.one_mul] at m1
        omega
      · have m1 : ((ix d : Int) + 1 + 1) * p ≤ ((ix c : Int) + 1) * p := Int.mul_le_mul_of_nonneg_right (by omega) (by omega)
        rw [Int.add_mul ((ix d : Int) + 1), Int.one_mul] at m1
        omega
/-- a name -/
def Nm (z : Str) : Prop := 1 ≤ z.cps.toList.length ∧ z.cps.toList.length ≤ 11 ∧ (∀ c ∈ z.cps.toList, c ∈ AL) ∧ ∃ c ∈ z.cps.toList, c ≠ 46
theorem str_len (z : Str) : z.length = z.cps.toList.length := Array.length_toList.symm
/-! ### the digits of a word -/
def dig (l : List Nat) (k : Nat) : Nat := match l[k]? with
  | some c => ix c + 1
  | none => 0
def pw (l : List Nat) : Nat → Int
  | 0 => 0
  | k + 1 => pw l k * 40 + (dig l k : Int)
theorem dig_lt {l : List Nat} (hA : ∀ c ∈ l, c ∈ AL) (k : Nat) : dig l k < 40 := by
  unfold dig
  cases h : l[k]? with
  | none => exact (by decide : 0 < 40)
  | some c =>
    have := ix_lt c (hA c (List.mem_of_getElem? h))
    show ix c + 1 < 40
    omega
theorem pw_vl (l : List Nat) (n : Nat) (hn : l.length ≤ n) : ∀ k, k ≤ n → pw l k * 40 ^ (n - k) + vl (n - k) (l.drop k) = vl n l
  | 0, _ => by
    show 0 * 40 ^ (n - 0) + vl (n - 0) (l.drop 0) = vl n l
    rw [Int.zero_mul, Int.zero_add]
    rfl
  | k + 1, hk => by
    have ih := pw_vl l n hn k (by omega)
    rw [← ih]
    have e : n - k = (n - (k + 1)) + 1 := by omega
    show (pw l k * 40 + (dig l k : Int)) * 40 ^ (n - (k + 1)) + vl (n - (k + 1)) (l.drop (k + 1)) = _
    rw [e, Int.pow_succ]
    generalize (n - (k + 1)) = m at *
    by_cases hl : k < l.length
    · rw [List.drop_eq_getElem_cons hl]
      have hd : dig l k = ix l[k] + 1 := by
        unfold dig
        rw [List.getElem?_eq_getElem hl]
      rw [hd]
      show _ = pw l k * (40 ^ m * 40) + (((ix l[k] : Int) + 1) * 40 ^ m + vl m (l.drop (k + 1)))
      generalize (40 : Int) ^ m = p
      rw [Int.add_mul, Int.mul_assoc, Int.mul_comm 40 p]
      push_cast
      omega
    · have h1 : l.drop k = [] := List.drop_eq_nil_of_le (by omega)
      have h2 : l.drop (k + 1) = [] := List.drop_eq_nil_of_le (by omega)
      have hd : dig l k = 0 := by
        unfold dig
        rw [List.getElem?_eq_none (by omega)]
      have z1 : vl m [] = 0 := by cases m <;> rfl
      have z2 : vl (m + 1) [] = 0 := rfl
      rw [h1, h2, hd, z1, z2]
      generalize (40 : Int) ^ m = p
      rw [show (((0 : Nat) : Int)) = 0 from rfl]
      simp only [Int.add_zero]
      rw [Int.mul_assoc, Int.mul_comm 40 p]
theorem pw_all {l : List Nat} (h : l.length ≤ 11) : pw l 11 = vl 11 l := by
  have e := pw_vl l 11 h 11 (Nat.le_refl _)
  have z : l.drop 11 = [] := List.drop_eq_nil_of_le h
  rw [z] at e
  have z1 : vl (11 - 11) [] = 0 := rfl
  rw [z1, show 11 - 11 = 0 from rfl, Int.pow_zero, Int.mul_one, Int.add_zero] at e
  exact e
/-- the first k digits of a word that a name has -/
theorem word_hi {l : List Nat} (h : l.length ≤ 11) (hA : ∀ c ∈ l, c ∈ AL) (k : Nat) (hk : k ≤ 11) : vl 11 l / 40 ^ (11 - k) = pw l k := by
  have e := pw_vl l 11 h k hk
  obtain ⟨b1, b2⟩ := vl_bounds (l.drop k) (11 - k) (by rw [List.length_drop]; omega) fun c hc => hA c (List.mem_of_mem_drop hc)
  rw [← e]
  have hp := p40 (11 - k)
  generalize (40 : Int) ^ (11 - k) = p at *
  generalize vl (11 - k) (l.drop k) = r at *
  rw [Int.mul_comm, Int.mul_add_ediv_left _ _ (by omega), Int.ediv_eq_zero_of_lt b1 b2, Int.add_zero]
theorem word_dig {l : List Nat} (h : l.length ≤ 11) (hA : ∀ c ∈ l, c ∈ AL) (k : Nat) (hk : k < 11) : vl 11 l / 40 ^ (10 - k) % 40 = (dig l k : Int) := by
  have e := word_hi h hA (k + 1) hk
  rw [show 11 - (k + 1) = 10 - k by omega] at e
  rw [e]
  show (pw l k * 40 + (dig l k : Int)) % 40 = _
  have := dig_lt hA k
  omega
/-- a word below 40 ^ 11 with these digits is the word -/
theorem word_of {l : List Nat} {w : Int} (h : l.length ≤ 11) (h0 : 0 ≤ w) (h1 : w < 40 ^ 11) (hd : ∀ k, k < 11 → w / 40 ^ (10 - k) % 40 = (dig l k : Int)) : w = vl 11 l := by
  have st : ∀ k, k ≤ 11 → w / 40 ^ (11 - k) = pw l k := by
    intro k
    induction k with
    | zero => exact fun _ => Int.ediv_eq_zero_of_lt h0 h1
    | succ k ih =>
      intro hk
      have i := ih (by omega)
      have d := hd k (by omega)
      rw [show 11 - (k + 1) = 10 - k by omega]
      show w / 40 ^ (10 - k) = pw l k * 40 + (dig l k : Int)
      rw [← i, ← d]
      have q : w / 40 ^ (11 - k) = w / 40 ^ (10 - k) / 40 := by
        rw [Int.ediv_ediv_of_nonneg (Int.le_of_lt (p40 _)), show 11 - k = (10 - k) + 1 by omega, Int.pow_succ]
      rw [q]
      omega
  have e := st 11 (Nat.le_refl _)
  rw [show 11 - 11 = 0 from rfl, Int.pow_zero, Int.ediv_one, pw_all h] at e
  exact e
/-- by the digits the name -/
theorem dig_inj : ∀ {l m : List Nat}, (∀ c ∈ l, c ∈ AL) → (∀ c ∈ m, c ∈ AL) → (∀ k, dig l k = dig m k) → l = m
  | [], [], _, _, _ => rfl
  | [], d :: s, _, _, h => by
    have q := h 0
    simp [dig] at q
  | c :: r, [], _, _, h => by
    have q := h 0
    simp [dig] at q
  | c :: r, d :: s, hl, hm, h => by
    have q : ix c + 1 = ix d + 1 := h 0
    rw [ix_inj c (hl c List.mem_cons_self) d (hm d List.mem_cons_self) (by omega), dig_inj (fun x hx => hl x (List.mem_cons_of_mem _ hx)) (fun x hx => hm x (List.mem_cons_of_mem _ hx)) fun k => h (k + 1)]
def W (l : List Nat) : Int := vl 11 l
theorem W_inj {y z : Str} (hy : Nm y) (hz : Nm z) (e : W y.cps.toList = W z.cps.toList) : y.cps.toList = z.cps.toList := by
  refine dig_inj hy.2.2.1 hz.2.2.1 fun k => ?_
  by_cases hk : k < 11
  · have a := word_dig hy.2.1 hy.2.2.1 k hk
    have b := word_dig hz.2.1 hz.2.2.1 k hk
    unfold W at e
    rw [e, b] at a
    omega
  · have a : y.cps.toList[k]? = none := List.getElem?_eq_none (by have := hy.2.1; omega)
    have b : z.cps.toList[k]? = none := List.getElem?_eq_none (by have := hz.2.1; omega)
    unfold dig
    rw [a, b]
/-- what a name may begin with -/
def Hd (z : Str) : Prop := z.cps.toList.length ≤ 11 ∧ ∀ c ∈ z.cps.toList, c ∈ AL
theorem app_list (i j : Str) : (i ++ j).cps.toList = i.cps.toList ++ j.cps.toList := by
  show (i.cps ++ j.cps).toList = _
  simp
theorem one_list (c : Nat) : (⟨#[c]⟩ : Str).cps.toList = [c] := rfl
theorem str_ext {y z : Str} (h : y.cps.toList = z.cps.toList) : y = z := by
  cases y with
  | mk a => cases z with
    | mk b => exact congrArg Str.mk (Array.toList_inj.mp h)
theorem fold_app (k : Nat) (l acc : Array Nat) : ((List.replicate k l).foldl (· ++ ·) acc).toList = acc.toList ++ (List.replicate k l.toList).flatten := by
  induction k generalizing acc with
  | zero => simp
  | succ k ih =>
    rw [List.replicate_succ, List.foldl_cons, ih, List.replicate_succ, List.flatten_cons, Array.toList_append, List.append_assoc]
theorem mul_dots (n : Nat) : (Txt.mul (Str.ofString ".") (n : Int)).cps.toList = List.replicate n 46 := by
  have e : (Str.ofString ".").cps.toList = [46] := by decide +kernel
  have e1 : ((Str.ofString ".").length == 0) = false := by decide +kernel
  unfold Txt.mul
  by_cases h : (n : Int) < 1
  · rw [if_pos h]
    have : n = 0 := by omega
    subst this
    rfl
  · rw [if_neg h]
    by_cases h1 : (n : Int) = 1
    · have : n = 1 := by omega
      subst this
      rw [if_pos (by simp)]
      exact e
    · rw [if_neg (by rw [e1]; simpa using h1)]
      show ((List.replicate (n : Int).toNat (Str.ofString ".").cps).foldl (· ++ ·) #[]).toList = _
      rw [fold_app, e, Int.toNat_natCast]
      show [] ++ (List.replicate n [46]).flatten = _
      rw [List.nil_append]
      induction n with
      | zero => rfl
      | succ k ih => exact flat_ones (k + 1)
where
  flat_ones : ∀ k : Nat, (List.replicate k [46]).flatten = List.replicate k 46
    | 0 => rfl
    | k + 1 => by
      rw [List.replicate_succ, List.flatten_cons, flat_ones k, List.replicate_succ]
      rfl
theorem dots_nm {z : Str} (h : Hd z) (h1 : 1 ≤ z.cps.toList.length) (hne : ¬ z = Txt.mul (Str.ofString ".") (z.length : Int)) : Nm z := by
  refine ⟨h1, h.1, h.2, Classical.byContradiction fun hc => hne (str_ext ?_)⟩
  rw [str_len, mul_dots]
  exact List.eq_replicate_iff.mpr ⟨rfl, fun c hm => Classical.byContradiction fun e => hc ⟨c, hm, e⟩⟩
theorem cut_tail (z : Str) : (cutS z (some 1) none).cps.toList = z.cps.toList.drop 1 := by
  unfold cutS
  rw [show HT.sIx z.length 0 (some 1) = min 1 z.length from HT.sIx_nat z.length 0 1, HT.sIx_none, str_len]
  show (z.cps.toList.drop (min 1 z.cps.toList.length)).take _ = _
  rw [List.take_of_length_le (by rw [List.length_drop]; omega)]
  cases z.cps.toList with
  | nil => rfl
  | cons c r => rw [Nat.min_eq_left (by simp)]
theorem cut_head (z : Str) (k : Nat) : (cutS z none (some (k : Int))).cps.toList = z.cps.toList.take k := by
  unfold cutS
  rw [HT.sIx_nat, HT.sIx_none, str_len]
  show (z.cps.toList.drop 0).take _ = _
  rw [List.drop_zero, Nat.sub_zero, List.take_eq_take_iff]
  omega
theorem a_in : (97 : Nat) ∈ AL := by decide +kernel
theorem a_str : (Str.ofString "a").cps.toList = [97] := by decide +kernel
theorem small {z : Str} (h : z.cps.toList.length ≤ 100) : z.length ≤ sizeLine := by
  rw [str_len]
  exact Nat.le_trans h (by decide)
theorem find_out {c : Nat} (h : c ∉ AL) : Txt.find alpha ⟨#[c]⟩ = -1 := by
  have e := PySem.StrLaws.found_one alpha c
  rw [decide_eq_false (show ¬ c ∈ alpha.cps.toList from h)] at e
  unfold Txt.find
  cases q : Builtin.Str.occurrences alpha ⟨#[c]⟩ 0 alpha.length 1 with
  | nil => rfl
  | cons i r =>
    rw [q] at e
    cases e
def nmB (l : List Nat) : Bool := (decide (1 ≤ l.length) && decide (l.length ≤ 11)) && ((l.all fun c => decide (c ∈ AL)) && l.any fun c => [c] != [46])
theorem nm_iff (z : Str) : Nm z ↔ nmB z.cps.toList = true := by
  unfold Nm nmB
  simp only [Bool.and_eq_true, decide_eq_true_eq, List.all_eq_true, List.any_eq_true]
  constructor
  · rintro ⟨h1, h2, h3, c, hc, hn⟩
    exact ⟨⟨h1, h2⟩, h3, c, hc, by simpa using hn⟩
  · rintro ⟨⟨h1, h2⟩, h3, c, hc, hn⟩
    exact ⟨h1, h2, h3, c, hc, by simpa using hn⟩
/-- all dots -/
theorem dots_iff (z : Str) : z = Txt.mul (Str.ofString ".") (z.length : Int) ↔ ∀ c ∈ z.cps.toList, c = 46 := by
  constructor
  · intro e c hc
    have h : z.cps.toList = List.replicate z.length 46 := by
      have q : z.cps.toList = (Txt.mul (Str.ofString ".") (z.length : Int)).cps.toList := congrArg (fun s : Str => s.cps.toList) e
      rw [mul_dots] at q
      exact q
    rw [h] at hc
    exact (List.mem_replicate.mp hc).2
  · intro h
    refine str_ext ?_
    rw [str_len, mul_dots]
    exact List.eq_replicate_iff.mpr ⟨rfl, h⟩

def top (i : Nat) : Stmt := PySem.Challenge.pw_laminae_k01_name_words.main.body.getD i (.Pass ⟨0, 0, 0, 0⟩)
abbrev sIw : Stmt := top 8
theorem scIw : FnScope ["value"] ["value"] (defScope sIw) := ⟨rfl, rfl, rfl, by decide +kernel, rfl, by decide +kernel, by decide +kernel⟩
abbrev sIs : Stmt := top 9
theorem scIs : FnScope ["name"] ["name"] (defScope sIs) := ⟨rfl, rfl, rfl, by decide +kernel, rfl, by decide +kernel, by decide +kernel⟩
abbrev sWord : Stmt := top 10
theorem scWord : FnScope ["name", "word", "letter", "_"] ["name"] (defScope sWord) := ⟨rfl, rfl, rfl, by decide +kernel, rfl, by decide +kernel, by decide +kernel⟩
abbrev sWn : Stmt := top 11
theorem scWn : FnScope ["word", "name", "rest", "_", "digit"] ["word"] (defScope sWn) := ⟨rfl, rfl, rfl, by decide +kernel, rfl, by decide +kernel, by decide +kernel⟩
abbrev sTape : Stmt := top 13
theorem scTape : FnScope ["script", "tape", "k", "value", "step"] ["script"] (defScope sTape) := ⟨rfl, rfl, rfl, by decide +kernel, rfl, by decide +kernel, by decide +kernel⟩
abbrev sAt : Stmt := top 14
theorem scAt : FnScope ["tape", "k"] ["tape", "k"] (defScope sAt) := ⟨rfl, rfl, rfl, by decide +kernel, rfl, by decide +kernel, by decide +kernel⟩
abbrev sChar : Stmt := top 15
theorem scChar : FnScope ["number", "chars"] ["number"] (defScope sChar) := ⟨rfl, rfl, rfl, by decide +kernel, rfl, by decide +kernel, by decide +kernel⟩
abbrev sLw : Stmt := top 16
theorem scLw : FnScope ["name", "chars", "word", "k", "digit"] ["name"] (defScope sLw) := ⟨rfl, rfl, rfl, by decide +kernel, rfl, by decide +kernel, by decide +kernel⟩
abbrev sLn : Stmt := top 17
theorem scLn : FnScope ["word", "chars", "name", "power", "k", "digit"] ["word"] (defScope sLn) := ⟨rfl, rfl, rfl, by decide +kernel, rfl, by decide +kernel, by decide +kernel⟩
abbrev sTw : Stmt := top 18
theorem scTw : FnScope ["name", "word", "e"] ["name"] (defScope sTw) := ⟨rfl, rfl, rfl, by decide +kernel, rfl, by decide +kernel, by decide +kernel⟩
abbrev sTn : Stmt := top 19
theorem scTn : FnScope ["word", "name", "e"] ["word"] (defScope sTn) := ⟨rfl, rfl, rfl, by decide +kernel, rfl, by decide +kernel, by decide +kernel⟩
abbrev sRw : Stmt := top 20
theorem scRw : FnScope ["name", "due", "told"] ["name"] (defScope sRw) := ⟨rfl, rfl, rfl, by decide +kernel, rfl, by decide +kernel, by decide +kernel⟩
abbrev sRn : Stmt := top 21
theorem scRn : FnScope ["word", "due", "told"] ["word"] (defScope sRn) := ⟨rfl, rfl, rfl, by decide +kernel, rfl, by decide +kernel, by decide +kernel⟩
abbrev sLaw : Stmt := top 22
theorem scLaw : FnScope ["script", "tape", "size", "name", "word", "count", "k", "digit", "due", "one", "back"] ["script"] (defScope sLaw) := ⟨rfl, rfl, rfl, by decide +kernel, rfl, by decide +kernel, by decide +kernel⟩
structure Txt (mg : Str → Option Value) (tA tB tL : Tok) : Prop where
  len : mg "len" = none
  range : mg "range" = none
  abs : mg "abs" = none
  int : mg "int" = none
  max : mg "max" = none
  isinstance : mg "isinstance" = none
  bool : mg "bool" = none
  str : mg "str" = none
  all : mg "all" = none
  any : mg "any" = none
  divmod : mg "divmod" = none
  gALPHABET : mg "ALPHABET" = some (.str alpha tA)
  gBASE : mg "BASE" = some (.int 40 tB)
  gLONGEST_NAME : mg "LONGEST_NAME" = some (.int 11 tL)
/-! ### the tape: some numbers from 0 to 999 -/
def Good (ts : List Int) : Prop := ∀ t ∈ ts, 0 ≤ t ∧ t < 1000
theorem Good.snoc {ts : List Int} {t : Int} (h : Good ts) (h0 : 0 ≤ t) (h1 : t < 1000) : Good (ts ++ [t]) := fun z hz => by
  rcases List.mem_append.mp hz with q | q
  · exact h z q
  · rw [List.mem_singleton.mp q]
    exact ⟨h0, h1⟩
theorem Good.cell {ts : List Int} (h : Good ts) (k : Nat) : 0 ≤ cellv ts k ∧ cellv ts k < 1000 := by
  unfold cellv
  rw [List.getD_eq_getElem?_getD]
  cases e : ts[k]? with
  | none => exact ⟨by decide, by decide⟩
  | some t => exact h t (List.mem_of_getElem? e)
def spTape (K : PySem.W.Frag) : Sp := fun vs H Q _ => ∃ (a : Addr) (ns : List Int), vs = [.ref a] ∧ SqL K H a (ns.map V.int) ∧ ns.length ≤ 63 ∧ ∀ (p : Addr) (H' : Hp) (ts : List Int), H p = none → Ex H H' → H' p = some (.lst (ts.map V.int)) → Good ts → ts.length ≤ 3780 → Q (.ref p) H'
section
variable {P : Program} {w : World} {K : PySem.W.Frag} {mg : Str → Option Value} {base : Heap} {tA tB tL : Tok}
theorem ok_tape {f : Addr} {fd : FuncData} (F : Fun K "_law_tape" "_law_tape" sTape f fd) (T : Txt mg tA tB tL) : FnOk P w K mg base CX0 1 f fd ["script"] (spTape K) := by
  refine F.ok scTape (fun vs H Q E h => ?_) (fun cdv A outer s H vs Q E hr h => ?_)
  · obtain ⟨a, ns, rfl, _⟩ := h
    rfl
  · obtain ⟨a, ns, rfl, hS, hlen, q⟩ := h
    refine ⟨_, (pss_cons (ps_set (i := 1) scTape.nd rfl (Or.inl rfl) (pe_lst pa_nil))
      (pss_cons (ps_for PassesOwn.never rfl (pi_range1 (by rfl) T.range (pa_cons (pe_callB call_len_seq (by rfl) T.len (by decide +kernel) (pa_cons (pv 0) pa_nil)) pa_nil)) (pg_name (i := 2) scTape.nd rfl (Or.inl rfl)) (pss_cons (ps_set (i := 3) scTape.nd rfl (Or.inl rfl) (pe_callB call_abs (by rfl) T.abs (by decide +kernel) (pa_cons (pe_callTy call_int1 (by rfl) T.int (by decide +kernel) (pa_cons (pe_ix ix_list (pv 0) (pv 2) (fun _ _ => rfl)) pa_nil)) pa_nil)))
      (pss_one (ps_if (pt_cmpR op_ge (pv 3) (pe_op op_pow pe_int pe_int) (nomark _)) (pss_one (ps_for PassesOwn.never rfl (pi_range1 (by rfl) T.range (pa_cons pe_int pa_nil)) (pg_name (i := 4) scTape.nd rfl (Or.inl rfl)) (pss_one (ps_if (pt_cmpR op_gt (pv 3) pe_int (nomark _)) (pss_cons (ps_expr (pe_bm PySem.F.plainAttrs_list PySem.F.slot_list_append PySem.F.type_list_append mt_append (pv 1) (pa_cons (pe_op op_mod (pv 3) pe_int) pa_nil)))
      (pss_one (ps_set (i := 3) scTape.nd rfl (Or.inl rfl) (pe_op op_fdiv (pv 3) pe_int)))) pss_nil)))) (pss_one (ps_for PassesOwn.never rfl (pi_range1 (by rfl) T.range (pa_cons pe_int pa_nil)) (pg_name (i := 4) scTape.nd rfl (Or.inl rfl)) (pss_cons (ps_set (i := 3) scTape.nd rfl (Or.inl rfl) (pe_op op_mod (pe_op op_add (pe_op op_add (pe_op op_mul (pv 3) pe_int) (pe_op op_mul pe_int (pe_op op_add (pv 2) pe_int))) (pe_op op_mul pe_int (pv 4))) pe_int))
      (pss_cons (ps_set (i := 3) scTape.nd rfl (Or.inl rfl) (pe_op op_mod (pe_op op_mul (pv 3) pe_int) pe_int))
      (pss_one (ps_expr (pe_bm PySem.F.plainAttrs_list PySem.F.slot_list_append PySem.F.type_list_append mt_append (pv 1) (pa_cons (pe_op op_mod (pe_op op_fdiv (pv 3) pe_int) pe_int) pa_nil))))))))))))
      (pss_one (ps_ret (pv 1))))), ?_⟩
    refine q_asgL (el_lst ea_nil (by decide)) fun ta H1 hta e1 h1 => ?_
    have len : Ev (tCB (rLenS K) (tCons (tVar 0) tNil)) [some (.ref a), some (.ref ta), none, none, none] H1 (.int (ns.length : Int)) := ev_is (ev_len (ev_var rfl) (ex_l e1 hS)) (by rw [List.length_map])
    refine q_forR1 (n := (ns.length : Int)) (ea_cons len ea_nil) ⟨by omega, by omega⟩
      (fun i σ' H' => ∃ ts y2 y3 y4, σ' = [some (.ref a), some (.ref ta), y2, y3, y4] ∧ Ex H H' ∧ H' ta = some (.lst (ts.map V.int)) ∧ Good ts ∧ ts.length ≤ 60 * i)
      (fun H2 e2 => ⟨[], none, none, none, rfl, e1.trans e2, e2 _ _ h1, (fun _ z => by cases z), by simp⟩) ?_ ?_
    · rintro i σ' H' hi ⟨ts, y2, y3, y4, rfl, e0, ht, hg, hl⟩
      have hi' : i < ns.length := by omega
      refine q_asg (ev_cb (ea_cons (ev_cb (ea_cons (ev_op (ev_var rfl) (ev_var rfl) (rv_ixL (ex_l e0 hS) (atI_nat (v := .int ns[i]) (by rw [List.getElem?_map, List.getElem?_eq_getElem hi']; rfl)))) ea_nil) (fun H1 _ Q q => .inl ⟨_, rfl, q _ (Ex.refl _)⟩)) ea_nil) (fun H1 _ Q q => ⟨_, rfl, q _ (Ex.refl _)⟩)) fun H2 e2 => ?_
      generalize (if ns[i] < 0 then -ns[i] else ns[i]) = v
      refine s_if (et_test (ev_op (ev_var rfl) (ev_op ev_c ev_c (rv_I ⟨by decide, by decide, by decide⟩)) rv_I0)) (fun _ H3 e3 => ?_) (fun _ H3 e3 => ?_)
      · refine s_forR1 (n := 60) (ea_cons ev_c ea_nil) ⟨by decide, by decide⟩ (fun j σ2 H4 => ∃ us z y4, σ2 = [some (.ref a), some (.ref ta), some (.int (i : Int)), some (.int z), y4] ∧ Ex H H4 ∧ H4 ta = some (.lst (us.map V.int)) ∧ Good us ∧ us.length ≤ 60 * i + j)
          (fun H4 e4 => ⟨ts, v, y4, rfl, ((e0.trans e2).trans e3).trans e4, ((e2.trans e3).trans e4) _ _ ht, hg, by omega⟩) ?_ ?_
        · rintro j σ2 H4 hj ⟨us, z, y4', rfl, e4, hu, hgu, hlu⟩
          refine s_when (et_test (ev_op (ev_var rfl) ev_c rv_I0)) (fun _ H5 e5 => ?_) (fun _ H5 e5 => ⟨us, z, _, rfl, e4.trans e5, e5 _ _ hu, hgu, by omega⟩)
          refine q_app (v := .int (z % 1000)) (e5 _ _ hu) (ev_var rfl) (ev_op (ev_var rfl) ev_c (rv_I (by show (0 : Int) < 1000; decide))) (by rw [List.length_map]; omega) fun H6 e6 => ?_
          have nta : H ta = none := hta
          refine s_asg (ev_op (ev_var rfl) ev_c (rv_I ⟨by decide, by decide⟩)) fun H7 e7 => ⟨us ++ [z % 1000], _, _, rfl, ((e4.trans e5).trans e6).mut nta |>.trans e7, ?_, hgu.snoc (by omega) (by omega), by rw [List.length_append, List.length_singleton]; omega⟩
          rw [e7 ta _ upd_same, List.map_append]
          rfl
        · rintro σ2 H4 ⟨us, z, y4', rfl, e4, hu, hgu, hlu⟩
          exact ⟨us, _, _, _, rfl, e4, hu, hgu, by show us.length ≤ 60 * (i + 1); have : us.length ≤ 60 * i + (60 : Int).toNat := hlu; omega⟩
      · refine s_forR1 (n := 4) (ea_cons ev_c ea_nil) ⟨by decide, by decide⟩ (fun j σ2 H4 => ∃ us z y4, σ2 = [some (.ref a), some (.ref ta), some (.int (i : Int)), some (.int z), y4] ∧ Ex H H4 ∧ H4 ta = some (.lst (us.map V.int)) ∧ Good us ∧ us.length ≤ 60 * i + j)
          (fun H4 e4 => ⟨ts, v, y4, rfl, ((e0.trans e2).trans e3).trans e4, ((e2.trans e3).trans e4) _ _ ht, hg, by omega⟩) ?_ ?_
        · rintro j σ2 H4 hj ⟨us, z, y4', rfl, e4, hu, hgu, hlu⟩
          refine q_asg (ev_op (ev_op (ev_op (ev_op (ev_var rfl) ev_c (rv_I (.inr ⟨by decide, by decide⟩))) (ev_op ev_c (ev_op (ev_var rfl) ev_c rv_I0) (rv_I (.inl ⟨by decide, by decide⟩))) rv_I0) (ev_op ev_c (ev_var rfl) (rv_I (.inl ⟨by decide, by decide⟩))) rv_I0) ev_c (rv_I (by show (0 : Int) < 2147483647; decide))) fun H5 e5 => ?_
          refine q_asg (ev_op (ev_op (ev_var rfl) ev_c (rv_I (.inr ⟨by decide, by decide⟩))) ev_c (rv_I (by show (0 : Int) < 2147483647; decide))) fun H6 e6 => ?_
          generalize (z * 48271 + 69621 * ((i : Int) + 1) + 7 * (j : Int)) % 2147483647 * 16807 % 2147483647 = z2
          refine s_app (v := .int (z2 / 1000 % 1000)) ((e5.trans e6) _ _ hu) (ev_var rfl) (ev_op (ev_op (ev_var rfl) ev_c (rv_I ⟨by decide, by decide⟩)) ev_c (rv_I (by show (0 : Int) < 1000; decide))) (by rw [List.length_map]; omega) fun H7 e7 => ⟨us ++ [z2 / 1000 % 1000], z2, _, rfl, (((e4.trans e5).trans e6).trans e7).mut hta, ?_, hgu.snoc (by omega) (by omega), by rw [List.length_append, List.length_singleton]; omega⟩
          rw [upd_same, List.map_append]
          rfl
        · rintro σ2 H4 ⟨us, z, y4', rfl, e4, hu, hgu, hlu⟩
          exact ⟨us, _, _, _, rfl, e4, hu, hgu, by show us.length ≤ 60 * (i + 1); have : us.length ≤ 60 * i + (4 : Int).toNat := hlu; omega⟩
    · rintro σ' H' ⟨ts, y2, y3, y4, rfl, e0, ht, hg, hl⟩
      exact s_ret (ev_var rfl) fun H2 e2 => q ta H2 ts hta (e0.trans e2) (e2 _ _ ht) hg (by have : ts.length ≤ 60 * (ns.length : Int).toNat := hl; omega)
theorem ok_at {f : Addr} {fd : FuncData} (F : Fun K "_law_at" "_law_at" sAt f fd) (T : Txt mg tA tB tL) : FnOk P w K mg base CX0 1 f fd ["tape", "k"] (spCel K) := by
  refine F.ok scAt (fun vs H Q E h => ?_) (fun cdv A outer s H vs Q E hr h => ?_)
  · obtain ⟨a, ns, k, rfl, _⟩ := h
    rfl
  · obtain ⟨a, ns, k, rfl, hS, q⟩ := h
    refine ⟨_, (pss_cons (ps_if (pt_cmpR op_lt (pv 1) (pe_callB call_len_seq (by rfl) T.len (by decide +kernel) (pa_cons (pv 0) pa_nil)) (nomark _)) (pss_one (ps_ret (pe_ix ix_list (pv 0) (pv 1) (fun _ _ => rfl)))) pss_nil)
      (pss_one (ps_ret pe_int))), ?_⟩
    refine q_when (et_test (ev_op (ev_var rfl) (ev_len (ev_var rfl) hS) rv_I0)) (fun hb H1 e1 => ?_) (fun hb H1 e1 => ?_)
    · have hk : k < ns.length := by
        have := of_decide_eq_true hb
        rw [List.length_map] at this
        omega
      exact s_ret (ev_op (ev_var rfl) (ev_var rfl) (rv_ixL (ex_l e1 hS) (atI_nat (cellv_in hk)))) fun H2 e2 => q H2 (e1.trans e2)
    · have hk : ns.length ≤ k := by
        have := of_decide_eq_false hb
        rw [List.length_map] at this
        omega
      rw [cellv_out hk] at q
      exact s_ret ev_c fun H2 e2 => q H2 (e1.trans e2)
end

def spIw : Sp := fun vs H Q _ => ∃ i : Int, vs = [.int i] ∧ RetV (.bl (decide (0 ≤ i))) H Q
def spIs (Pt : Addr) : Sp := fun vs H Q _ => ∃ z : Str, vs = [.str z] ∧ z.cps.toList.length ≤ 100 ∧ Tab H Pt ∧ RetV (.bl (nmB z.cps.toList)) H Q
/-- returns the word of a name, raises BadName for any other text -/
def spWord (Pt CB : Addr) : Sp := fun vs H Q E => ∃ z : Str, vs = [.str z] ∧ z.cps.toList.length ≤ 100 ∧ Tab H Pt ∧ (Nm z → RetV (.int (W z.cps.toList)) H Q) ∧ (¬ Nm z → ∀ H', Ex H H' → E (.ref CB) none H')
/-- returns the name that has the word, raises BadName if there is none -/
def spWn (Pt CB : Addr) : Sp := fun vs H Q E => ∃ i : Int, vs = [.int i] ∧ Tab H Pt ∧ (∀ z : Str, Nm z → W z.cps.toList = i → RetV (.str z) H Q) ∧ ((¬ ∃ z : Str, Nm z ∧ W z.cps.toList = i) → ∀ H', Ex H H' → E (.ref CB) none H')
section
variable {P : Program} {w : World} {K : PySem.W.Frag} {mg : Str → Option Value} {base : Heap} {tA tB tL : Tok}
theorem ok_iw {f : Addr} {fd : FuncData} (F : Fun K "is_word" "is_word" sIw f fd) (T : Txt mg tA tB tL) : FnOk P w K mg base CX0 1 f fd ["value"] spIw := by
  refine F.ok scIw (fun vs H Q E h => ?_) (fun cdv A outer s H vs Q E hr h => ?_)
  · obtain ⟨i, rfl, _⟩ := h
    rfl
  · obtain ⟨i, rfl, q⟩ := h
    refine ⟨_, (pss_one (ps_ret (pe_and (pe_callB call_isi (by rfl) T.isinstance (by decide +kernel) (pa_cons (pv 0) (pa_cons (pe_bltn (v := .ty "int") (u := .type "int") (by rfl) T.int (by decide +kernel) rfl) pa_nil))) (pe_and (pe_not (pe_callB call_isi (by rfl) T.isinstance (by decide +kernel) (pa_cons (pv 0) (pa_cons (pe_bltn (v := .ty "bool") (u := .type "bool") (by rfl) T.bool (by decide +kernel) rfl) pa_nil)))) (pe_one (pe_cmpR op_ge (pv 0) pe_int (nomark _))))))), ?_⟩
    exact s_ret (ev_is (ev_andV (ev_isi (ev_var rfl) ev_c (fun _ _ => .base (.int i)) (kit_ty rfl)) (fun _ => ev_andV (ev_notV (ev_isi (ev_var rfl) ev_c (fun _ _ => .base (.int i)) (kit_ty rfl))) (fun _ => ev_op (ev_var rfl) ev_c rv_I0))) rfl) fun H1 e1 => q H1 e1
theorem ok_is {f c Pt : Addr} {fd : FuncData} (F : FunC K "is_name" "is_name" sIs f fd c) (TB : LamX.TabB base mg c Pt) (T : Txt mg tA tB tL) : FnOk P w K mg base CX0 1 f fd ["name"] (spIs Pt) := by
  refine F.ok scIs (fun vs H Q E h => ?_) (fun A outer s H vs Q E hr h => ?_)
  · obtain ⟨z, rfl, _⟩ := h
    rfl
  · obtain ⟨z, rfl, hl, hT, q⟩ := h
    have hz : z.length = z.cps.toList.length := str_len z
    refine ⟨_, (pss_cons (ps_if (PW.pt (pw_or (pt_not (pt_val (pe_callB call_isi (by rfl) T.isinstance (by decide +kernel) (pa_cons (pv 0) (pa_cons (pe_bltn (v := .ty "str") (u := .type "str") (by rfl) T.str (by decide +kernel) rfl) pa_nil))))) (pw_or1 (pt_not (pt_chain op_le op_le pe_int (pe_callB call_len_str (by rfl) T.len (by decide +kernel) (pa_cons (pv 0) pa_nil)) (pe_glob (v := .int 11) rfl T.gLONGEST_NAME ⟨_, rfl⟩)))))) (pss_one (ps_ret pe_bl)) pss_nil)
      (pss_one (ps_ret (pe_and (pe_all hr (by rfl) T.all (by decide +kernel) TB rfl ⟨rfl, rfl, by decide +kernel, rfl, rfl, fun y hy e => absurd e ((by decide +kernel : ∀ y ∈ _, y.2 ≠ NameKind.free) y hy)⟩ (pv 0) (fun _ => rfl)) (pe_one (pe_any hr (by rfl) T.any TB rfl ⟨rfl, rfl, by decide +kernel, rfl, rfl, fun y hy e => absurd e ((by decide +kernel : ∀ y ∈ _, y.2 ≠ NameKind.free) y hy)⟩ (pv 0) (fun _ => rfl))))))), ?_⟩
    refine q_when (b := !(decide (1 ≤ z.cps.toList.length) && decide (z.cps.toList.length ≤ 11))) (et_is (et_or (et_not (et_B (ev_isi (ev_var rfl) ev_c (fun _ _ => .base (.str z)) (kit_ty rfl)))) (fun _ => et_not (et_chain ev_c (ev_lenS (ev_var rfl) (small hl)) ev_c))) (by
      rw [hz]
      show (false || !(decide ((1 : Int) ≤ (z.cps.toList.length : Int)) && decide ((z.cps.toList.length : Int) ≤ 11))) = _
      rw [Bool.false_or, show decide ((1 : Int) ≤ (z.cps.toList.length : Int)) = decide (1 ≤ z.cps.toList.length) from decide_eq_decide.mpr (by omega), show decide ((z.cps.toList.length : Int) ≤ 11) = decide (z.cps.toList.length ≤ 11) from decide_eq_decide.mpr (by omega)])) (fun hb H1 e1 => ?_) (fun hb H1 e1 => ?_)
    · have hf : nmB z.cps.toList = false := by
        unfold nmB
        cases hq : (decide (1 ≤ z.cps.toList.length) && decide (z.cps.toList.length ≤ 11)) with
        | false => rfl
        | true =>
          rw [hq] at hb
          cases hb
      rw [hf] at q
      exact s_ret ev_c fun H2 e2 => q H2 (e1.trans e2)
    · refine s_ret (ev_is (ev_andV (ev_gen (f := fun i => decide (z.cps.toList.getD i 0 ∈ AL)) (ev_var rfl) (hT.mono e1) (fun H2 _ => src_str z) (fun H2 e2 i u hi hu => qv_cmp qr_in_sign (qv_x rfl rfl hu) (qv_glob rfl rfl T.gALPHABET ⟨_, rfl⟩) rfl))
        (fun _ => ev_gen (f := fun i => [z.cps.toList.getD i 0] != [46]) (ev_var rfl) (hT.mono e1) (fun H2 _ => src_str z) (fun H2 e2 i u hi hu => qv_cmp qr_ne_str (qv_x rfl rfl hu) qv_str (nomark _)))) ?_) fun H2 e2 => q H2 (e1.trans e2)
      rw [allF_list z.cps.toList 0 (fun c => decide (c ∈ AL)), anyF_list z.cps.toList 0 (fun c => [c] != [46])]
      unfold nmB
      cases hq : (decide (1 ≤ z.cps.toList.length) && decide (z.cps.toList.length ≤ 11)) with
      | true => rw [Bool.true_and]
      | false =>
        rw [hq] at hb
        cases hb
theorem ok_word {f fI Pt CB : Addr} {fd fdI : FuncData} (F : Fun K "name_word" "name_word" sWord f fd) (FI : Fun K "is_name" "is_name" sIs fI fdI) (GI : FnOk P w K mg base CX0 1 fI fdI ["name"] (spIs Pt)) (bI : Binds K fdI ["name"] []) (gI : mg "is_name" = some (.ref fI)) (T : Txt mg tA tB tL) (XB : Xc K mg "BadName" CB) : FnOk P w K mg base (L2.CX P w) 2 f fd ["name"] (spWord Pt CB) := by
  refine F.okX scWord (fun vs H Q E h => ?_) (fun cdv A outer s H vs Q E hr h => ?_)
  · obtain ⟨z, rfl, _⟩ := h
    rfl
  · obtain ⟨z, rfl, hl, hT, q, qE⟩ := h
    refine ⟨_, (pss_cons (ps_if (pt_not (pt_val (pe_call GI hr (by rfl) gI FI.kp bI .nil pass0 (pa_cons (pv 0) pa_nil)))) (pss_one (ps_raise0 rfl XB (takes_of rfl rfl rfl rfl) (by rfl))) pss_nil)
      (pss_cons (ps_set (i := 1) scWord.nd rfl (Or.inl rfl) pe_int)
      (pss_cons (ps_for (passes_of rfl) rfl (pi_str (pv 0)) (pg_name (i := 2) scWord.nd rfl (Or.inl rfl)) (pss_one (ps_set (i := 1) scWord.nd rfl (Or.inl rfl) (pe_op op_add (pe_op op_add (pe_op op_mul (pv 1) (pe_glob (v := .int 40) rfl T.gBASE ⟨_, rfl⟩)) (pe_bmS PySem.F.plainAttrs_str PySem.F.slot_str_index PySem.F.type_str_index (mt_indexX rfl takes0) (pe_glob (v := .str alpha) rfl T.gALPHABET ⟨_, rfl⟩) (pa_cons (pv 2) pa_nil))) pe_int))))
      (pss_cons (ps_for (passes_of rfl) rfl (pi_range1 (by rfl) T.range (pa_cons (pe_op op_sub (pe_glob (v := .int 11) rfl T.gLONGEST_NAME ⟨_, rfl⟩) (pe_callB call_len_str (by rfl) T.len (by decide +kernel) (pa_cons (pv 0) pa_nil))) pa_nil)) (pg_name (i := 3) scWord.nd rfl (Or.inl rfl)) (pss_one (ps_set (i := 1) scWord.nd rfl (Or.inl rfl) (pe_op op_mul (pv 1) (pe_glob (v := .int 40) rfl T.gBASE ⟨_, rfl⟩)))))
      (pss_one (ps_ret (pv 1))))))), ?_⟩
    refine q_when (et_not (et_B (ev_call (vs := [.str z]) (z := .bl (nmB z.cps.toList)) (ea_cons (ev_var rfl) ea_nil) (fun H1 e1 Q' q' E' => ⟨z, rfl, hl, hT.mono e1, q'⟩)))) (fun hb H1 e1 => ?_) (fun hb H1 e1 => ?_)
    · exact qE (fun hN => by rw [(nm_iff z).mp hN] at hb; cases hb) H1 e1
    · have hN : Nm z := (nm_iff z).mpr (by simpa using hb)
      replace q := q hN
      obtain ⟨n1, n2, n3, n4⟩ := id hN
      have hz : z.length = z.cps.toList.length := str_len z
      refine q_asg ev_c fun H2 e2 => ?_
      refine q_forS (ev_var rfl) (fun i σ' H' => ∃ y2, σ' = [some (.str z), some (.int (hw 0 (z.cps.toList.take i))), y2, none] ∧ Ex H H') (fun H3 e3 => ⟨none, rfl, (e1.trans e2).trans e3⟩) ?_ ?_
      · rintro i c σ' H' hc ⟨y2, rfl, e0⟩
        have hA := n3 c (List.mem_of_getElem? hc)
        refine s_asg (ev_is (ev_op (ev_op (ev_op (ev_var rfl) ev_c (rv_I (.inr ⟨by decide, by decide⟩))) (ev_index ev_c (ea_cons (ev_var rfl) ea_nil) (al_index c hA)) rv_I0) ev_c rv_I0) (w := .int (hw 0 (z.cps.toList.take (i + 1)))) ?_) fun H2 e2 => ⟨_, rfl, e0.trans e2⟩
        rw [List.take_add_one, hc]
        unfold hw
        rw [List.foldl_append]
        rfl
      · rintro σ' H' ⟨y2, rfl, e0⟩
        rw [List.take_length]
        have hn : (0 : Int) ≤ 11 - (z.length : Int) ∧ (11 : Int) - (z.length : Int) ≤ 100000 := by omega
        refine q_forR1 (n := 11 - (z.length : Int)) (ea_cons (ev_op ev_c (ev_lenS (ev_var rfl) (small hl)) rv_I0) ea_nil) hn (fun i σ' H' => ∃ y3, σ' = [some (.str z), some (.int (hw 0 z.cps.toList * 40 ^ i)), y2, y3] ∧ Ex H H') (fun H3 e3 => ⟨none, by rw [Int.pow_zero, Int.mul_one], e0.trans e3⟩) ?_ ?_
        · rintro i σ' H' hi ⟨y3, rfl, e0⟩
          refine s_asg (ev_is (ev_op (ev_var rfl) ev_c (rv_I (.inr ⟨by decide, by decide⟩))) (w := .int (hw 0 z.cps.toList * 40 ^ (i + 1))) (by rw [Int.pow_succ, Int.mul_assoc])) fun H2 e2 => ⟨_, rfl, e0.trans e2⟩
        · rintro σ' H' ⟨y3, rfl, e0⟩
          have e : hw 0 z.cps.toList * 40 ^ (11 - (z.length : Int)).toNat = W z.cps.toList := by
            have k := hw_vl z.cps.toList 11 0 n2
            rw [Int.zero_mul, Int.zero_add] at k
            rw [show (11 - (z.length : Int)).toNat = 11 - z.cps.toList.length by omega]
            exact k
          rw [e]
          exact s_ret (ev_var rfl) fun H2 e2 => q H2 (e0.trans e2)
end
end K01

set_option Elab.async false
set_option linter.all false
set_option maxRecDepth 100000
set_option maxHeartbeats 4000000
namespace K01
open PySem PySem.Spec PyProof.Rows L2 Evl LK LT LG LS LQ LX
theorem al_get : ∀ c ∈ AL, AL[ix c]? = some c := by decide +kernel
theorem al_n : AL.length = 39 := by decide +kernel
theorem dig_pos {l : List Nat} {k : Nat} (h : 0 < dig l k) : ∃ c, l[k]? = some c ∧ dig l k = ix c + 1 := by
  unfold dig at h ⊢
  cases e : l[k]? with
  | none =>
    rw [e] at h
    exact absurd h (by decide)
  | some c => exact ⟨c, rfl, rfl⟩
theorem dig_zero {l : List Nat} {k : Nat} (h : dig l k = 0) : l.length ≤ k := by
  unfold dig at h
  cases e : l[k]? with
  | none => exact List.getElem?_eq_none_iff.mp e
  | some c =>
    rw [e] at h
    cases h
def spTw (Pt : Addr) : Sp := fun vs H Q _ => ∃ z : Str, vs = [.str z] ∧ z.cps.toList.length ≤ 100 ∧ Tab H Pt ∧ (Nm z → ∀ (p : Addr) (H' : Hp), H p = none → Ex H H' → H' p = some (.tup [.int 1, .int (W z.cps.toList)]) → Q (.ref p) H') ∧ (¬ Nm z → ∀ (p : Addr) (H' : Hp), H p = none → Ex H H' → H' p = some (.tup [.int 0, .bl true]) → Q (.ref p) H')
def spTn (Pt : Addr) : Sp := fun vs H Q _ => ∃ i : Int, vs = [.int i] ∧ Tab H Pt ∧ (∀ z : Str, Nm z → W z.cps.toList = i → ∀ (p : Addr) (H' : Hp), H p = none → Ex H H' → H' p = some (.tup [.int 1, .str z]) → Q (.ref p) H') ∧ ((¬ ∃ z : Str, Nm z ∧ W z.cps.toList = i) → ∀ (p : Addr) (H' : Hp), H p = none → Ex H H' → H' p = some (.tup [.int 0, .bl true]) → Q (.ref p) H')
section
variable {P : Program} {w : World} {K : PySem.W.Frag} {mg : Str → Option Value} {base : Heap} {tA tB tL : Tok}
theorem ok_wn {f fJ fW Pt CB : Addr} {fd fdJ fdW : FuncData} (F : Fun K "word_name" "word_name" sWn f fd) (FJ : Fun K "is_word" "is_word" sIw fJ fdJ) (bJ : Binds K fdJ ["value"] []) (gJ : mg "is_word" = some (.ref fJ)) (FW : Fun K "name_word" "name_word" sWord fW fdW) (GW : FnOk P w K mg base (L2.CX P w) 2 fW fdW ["name"] (spWord Pt CB)) (bW : Binds K fdW ["name"] []) (gW : mg "name_word" = some (.ref fW)) (T : Txt mg tA tB tL) (XB : Xc K mg "BadName" CB) : FnOk P w K mg base (L2.CX P w) 3 f fd ["word"] (spWn Pt CB) := by
  have GJ : FnOk P w K mg base CX0 2 fJ fdJ ["value"] spIw := (ok_iw FJ T).mono (by decide)
  refine F.okX scWn (fun vs H Q E h => ?_) (fun cdv A outer s H vs Q E hr h => ?_)
  · obtain ⟨i, rfl, _⟩ := h
    rfl
  · obtain ⟨i, rfl, hT, q, qE⟩ := h
    refine ⟨_, (pss_cons (ps_if (pt_not (pt_val (pe_call GJ hr (by rfl) gJ FJ.kp bJ .nil pass0 (pa_cons (pv 0) pa_nil)))) (pss_one (ps_raise0 rfl XB (takes_of rfl rfl rfl rfl) (by rfl))) pss_nil)
      (pss_cons (ps_set (i := 1) scWn.nd rfl (Or.inl rfl) pe_str)
      (pss_cons (ps_set (i := 2) scWn.nd rfl (Or.inl rfl) (pv 0))
      (pss_cons (ps_for (passes_of rfl) rfl (pi_range1 (by rfl) T.range (pa_cons (pe_glob (v := .int 11) rfl T.gLONGEST_NAME ⟨_, rfl⟩) pa_nil)) (pg_name (i := 3) scWn.nd rfl (Or.inl rfl)) (pss_cons (ps_asg (pe_callB call_divmod (by rfl) T.divmod (by decide +kernel) (pa_cons (pv 2) (pa_cons (pe_glob (v := .int 40) rfl T.gBASE ⟨_, rfl⟩) pa_nil))) (pg_tup (by rfl) (pgs_cons (pg_name (i := 2) scWn.nd rfl (Or.inl rfl)) (pgs_cons (pg_name (i := 4) scWn.nd rfl (Or.inl rfl)) pgs_nil))))
      (pss_one (ps_if (pt_cmpR op_gt (pv 4) pe_int (nomark _)) (pss_one (ps_set (i := 1) scWn.nd rfl (Or.inl rfl) (pe_op op_add_str (pe_ix ix_str (pe_glob (v := .str alpha) rfl T.gALPHABET ⟨_, rfl⟩) (pe_op op_sub (pv 4) pe_int) (fun _ _ => rfl)) (pv 1)))) pss_nil))))
      (pss_cons (ps_if (pt_cmpR op_ne (pe_call GW hr (by rfl) gW FW.kp bW .nil (pass_own (takes_of rfl rfl rfl rfl)) (pa_cons (pv 1) pa_nil)) (pv 0) (nomark _)) (pss_one (ps_raise0 rfl XB (takes_of rfl rfl rfl rfl) (by rfl))) pss_nil)
      (pss_one (ps_ret (pv 1)))))))), ?_⟩
    refine q_when (et_not (et_B (ev_call (vs := [.int i]) (z := .bl (decide (0 ≤ i))) (ea_cons (ev_var rfl) ea_nil) (fun H1 e1 Q' q' E' => ⟨i, rfl, q'⟩)))) (fun hb H1 e1 => ?_) (fun hb H1 e1 => ?_)
    · refine qE (fun ⟨z, hz, hw⟩ => ?_) H1 e1
      have b := (vl_bounds z.cps.toList 11 hz.2.1 hz.2.2.1).1
      unfold W at hw
      rw [decide_eq_true (by omega)] at hb
      cases hb
    · have h0 : 0 ≤ i := by simpa using hb
      refine q_asg ev_c fun H2 e2 => q_asg (ev_var rfl) fun H3 e3 => ?_
      refine q_forR1 (n := 11) (ea_cons ev_c ea_nil) ⟨by decide, by decide⟩ (fun j σ' H' => ∃ (z : Str) (y3 y4 : Option V), σ' = [some (.int i), some (.str z), some (.int (i / 40 ^ j)), y3, y4] ∧ Ex H H' ∧ z.cps.toList.length ≤ j ∧ (∀ c ∈ z.cps.toList, c ∈ AL) ∧ ∀ y : Str, Nm y → W y.cps.toList = i → z.cps.toList = y.cps.toList.drop (11 - j))
        (fun H4 e4 => ⟨Str.ofString "", none, none, by rw [Int.pow_zero, Int.ediv_one]; rfl, ((e1.trans e2).trans e3).trans e4, by decide +kernel, by decide +kernel, fun y hy _ => by
          rw [List.drop_eq_nil_of_le hy.2.1]
          decide +kernel⟩) ?_ ?_
      · rintro j σ' H' hj ⟨z, y3, y4, rfl, e0, hzl, hzA, hzy⟩
        refine ⟨_, rfl, _, _, rfl, ⟨by decide, by decide⟩, fun p hp => ⟨p, [_, _], rfl, .inl (.inl upd_same), rfl, _, [_], rfl, _, [], rfl, rfl, ?_⟩⟩
        have e5 := Ex.new (o := .tup [.int (i / 40 ^ j / 40), .int (i / 40 ^ j % 40)]) hp
        have hq : i / 40 ^ j / 40 = i / 40 ^ (j + 1) := by
          rw [Int.ediv_ediv_of_nonneg (Int.le_of_lt (p40 _)), Int.pow_succ]
        have hd : ∀ y : Str, Nm y → W y.cps.toList = i → i / 40 ^ j % 40 = (dig y.cps.toList (10 - j) : Int) := fun y hy hw => by
          have k := word_dig hy.2.1 hy.2.2.1 (10 - j) (by omega)
          rw [show 10 - (10 - j) = j by omega] at k
          rw [← k]
          unfold W at hw
          rw [hw]
        rw [hq] at e5 ⊢
        have m0 := Int.emod_nonneg (i / 40 ^ j) (show (40 : Int) ≠ 0 by decide)
        have m1 := Int.emod_lt_of_pos (i / 40 ^ j) (show (0 : Int) < 40 by decide)
        generalize i / 40 ^ j % 40 = d at *
        refine s_when (et_test (ev_op (ev_var rfl) ev_c rv_I0)) (fun hb H6 e6 => ?_) (fun hb H6 e6 => ?_)
        · have hpos : 0 < d := of_decide_eq_true hb
          obtain ⟨n, hn⟩ := Int.eq_ofNat_of_zero_le (show 0 ≤ d - 1 by omega)
          have hnl : n < AL.length := by rw [al_n]; omega
          have hc : AL[n]? = some AL[n] := List.getElem?_eq_getElem hnl
          refine s_asg (v := .str (⟨#[AL[n]]⟩ ++ z)) (ev_op (ev_op ev_c (ev_op (ev_var rfl) ev_c rv_I0) (rv_ixS (by rw [al_len]; decide) (by rw [hn]; exact atI_nat hc))) (ev_var rfl) (rv_addS (by rw [str_len z]; exact Nat.le_trans (show _ ≤ 100 by show 1 + z.cps.toList.length ≤ 100; omega) (by decide)))) fun H7 e7 => ⟨_, _, _, rfl, ((e0.trans e5).trans e6).trans e7, ?_, fun c hc2 => ?_, fun y hy hw => ?_⟩
          · rw [app_list, List.length_append]
            show 1 + z.cps.toList.length ≤ j + 1
            omega
          · rw [app_list] at hc2
            rcases List.mem_append.mp hc2 with h | h
            · rw [List.mem_singleton.mp h]
              exact List.getElem_mem hnl
            · exact hzA c h
          · rw [app_list, hzy y hy hw]
            have dd := hd y hy hw
            obtain ⟨c, k1, k2⟩ := dig_pos (l := y.cps.toList) (k := 10 - j) (by omega)
            have hcA := hy.2.2.1 c (List.mem_of_getElem? k1)
            have en : n = ix c := by omega
            have ec : AL[n] = c := by
              have g := al_get c hcA
              rw [← en, hc] at g
              exact Option.some.inj g
            obtain ⟨hlt, hget⟩ := List.getElem?_eq_some_iff.mp k1
            rw [show 11 - (j + 1) = 10 - j by omega, List.drop_eq_getElem_cons hlt, hget, show 10 - j + 1 = 11 - j by omega, ec]
            rfl
        · have hz0 : d = 0 := by
            have := of_decide_eq_false hb
            omega
          refine ⟨z, _, _, rfl, (e0.trans e5).trans e6, by omega, hzA, fun y hy hw => ?_⟩
          rw [hzy y hy hw]
          have dd := hd y hy hw
          have hl := dig_zero (l := y.cps.toList) (k := 10 - j) (by omega)
          rw [List.drop_eq_nil_of_le (show y.cps.toList.length ≤ 11 - j by omega), List.drop_eq_nil_of_le (show y.cps.toList.length ≤ 11 - (j + 1) by omega)]
      · rintro σ' H' ⟨z, y3, y4, rfl, e0, hzl, hzA, hzy⟩
        have hzl' : z.cps.toList.length ≤ 11 := hzl
        have hzy' : ∀ y : Str, Nm y → W y.cps.toList = i → z = y := fun y hy hw => str_ext (hzy y hy hw)
        refine ⟨.str z, rfl, z, rfl, by omega, hT.mono e0, fun hN H2 e2 => ?_, fun hN H2 e2 => qE (fun ⟨y, hy, hw⟩ => hN (by rw [hzy' y hy hw]; exact hy)) H2 (e0.trans e2)⟩
        refine ⟨.int i, rfl, rfl, _, rfl, ite2 (fun hb => ?_) (fun hb => ?_)⟩
        · refine qE (fun ⟨y, hy, hw⟩ => ?_) H2 (e0.trans e2)
          rw [hzy' y hy hw, hw] at hb
          simp at hb
        · have hw : W z.cps.toList = i := by
            by_cases e : V.int (W z.cps.toList) = V.int i
            · exact V.int.inj e
            · rw [decide_eq_false e] at hb
              exact absurd rfl hb
          exact s_ret (ev_var rfl) fun H3 e3 => q z hN hw H3 ((e0.trans e2).trans e3)
theorem ok_tw {f fW Pt CB CL CN : Addr} {fd fdW : FuncData} (F : Fun K "_law_told_word" "_law_told_word" sTw f fd) (FW : Fun K "name_word" "name_word" sWord fW fdW) (GW : FnOk P w K mg base (L2.CX P w) 2 fW fdW ["name"] (spWord Pt CB)) (bW : Binds K fdW ["name"] []) (gW : mg "name_word" = some (.ref fW)) (T : Txt mg tA tB tL)
    (XB : Xc K mg "BadName" CB) (XL : Xc K mg "LaminaError" CL) (XN : Xc K mg "NotValid" CN) (XC : ExcC K CB) (sBB : PySem.W.subIn K (.ref CB) (.ref CB) = some true) (sBL : PySem.W.subIn K (.ref CB) (.ref CL) = some true) (sBN : PySem.W.subIn K (.ref CB) (.ref CN) = some false) : FnOk P w K mg base CX0 3 f fd ["name"] (spTw Pt) := by
  refine F.ok scTw (fun vs H Q E h => ?_) (fun cdv A outer s H vs Q E hr h => ?_)
  · obtain ⟨z, rfl, _⟩ := h
    rfl
  · obtain ⟨z, rfl, hl, hT, q, qN⟩ := h
    refine ⟨_, (pss_cons (ps_try_as (i := 2) rfl rfl scTw.nd rfl rfl ⟨rfl, by decide, .inl XB.g⟩ takes0 (fun W pn xe tk _ => (pss_one (ps_set (i := 1) scTw.nd rfl (Or.inl rfl) (pe_callS GW hr (by rfl) gW FW.kp bW (fun σ => passAt tk σ) (pa_cons (pv 0) pa_nil))))) (fun a oe cls d pn hz hf => (pss_one (ps_ret (pe_tup (pa_cons pe_int (pa_cons (pe_and (pe_callB (call_isX XC hz hf) (by rfl) T.isinstance (by decide +kernel) (pa_cons (pv 2) (pa_cons (pe_glob (v := .ref CL) rfl XL.g rfl) pa_nil))) (pe_one (pe_not (pe_callB (call_isX XC hz hf) (by rfl) T.isinstance (by decide +kernel) (pa_cons (pv 2) (pa_cons (pe_glob (v := .ref CN) rfl XN.g rfl) pa_nil)))))) pa_nil)))))))
      (pss_one (ps_ret (pe_tup (pa_cons pe_int (pa_cons (pv 1) pa_nil)))))), ?_⟩
    refine ⟨.str z, rfl, z, rfl, hl, hT, fun hN H2 e2 => ?_, fun hN H2 e2 => ⟨true, XB.exm sBB, fun _ a ha => ?_, fun q => nomatch q⟩⟩
    · exact s_retU (eu_tup (ea_cons ev_c (ea_cons (ev_var rfl) ea_nil)) (by simp)) fun p H3 hp e3 h3 => q hN p H3 (fresh_back e2 hp) (e2.trans e3) h3
    · exact s_retU (eu_tup (ea_cons ev_c (ea_cons (ev_andV (ev_isX (ev_var rfl) ev_c (XL.kit sBL (fun _ => rfl))) (fun _ => ev_notV (ev_isX (ev_var rfl) ev_c (XN.kit sBN (fun e => by
        cases e
        rw [sBB] at sBN
        cases sBN))))) ea_nil)) (by simp)) fun p H3 hp e3 h3 => qN hN p H3 (fresh_back e2 hp) (e2.trans e3) h3
theorem ok_tn {f fY Pt CB CL CN : Addr} {fd fdY : FuncData} (F : Fun K "_law_told_name" "_law_told_name" sTn f fd) (FY : Fun K "word_name" "word_name" sWn fY fdY) (GY : FnOk P w K mg base (L2.CX P w) 3 fY fdY ["word"] (spWn Pt CB)) (bY : Binds K fdY ["word"] []) (gY : mg "word_name" = some (.ref fY)) (T : Txt mg tA tB tL)
    (XB : Xc K mg "BadName" CB) (XL : Xc K mg "LaminaError" CL) (XN : Xc K mg "NotValid" CN) (XC : ExcC K CB) (sBB : PySem.W.subIn K (.ref CB) (.ref CB) = some true) (sBL : PySem.W.subIn K (.ref CB) (.ref CL) = some true) (sBN : PySem.W.subIn K (.ref CB) (.ref CN) = some false) : FnOk P w K mg base CX0 4 f fd ["word"] (spTn Pt) := by
  refine F.ok scTn (fun vs H Q E h => ?_) (fun cdv A outer s H vs Q E hr h => ?_)
  · obtain ⟨i, rfl, _⟩ := h
    rfl
  · obtain ⟨i, rfl, hT, q, qN⟩ := h
    refine ⟨_, (pss_cons (ps_try_as (i := 2) rfl rfl scTn.nd rfl rfl ⟨rfl, by decide, .inl XB.g⟩ takes0 (fun W pn xe tk _ => (pss_one (ps_set (i := 1) scTn.nd rfl (Or.inl rfl) (pe_callS GY hr (by rfl) gY FY.kp bY (fun σ => passAt tk σ) (pa_cons (pv 0) pa_nil))))) (fun a oe cls d pn hz hf => (pss_one (ps_ret (pe_tup (pa_cons pe_int (pa_cons (pe_and (pe_callB (call_isX XC hz hf) (by rfl) T.isinstance (by decide +kernel) (pa_cons (pv 2) (pa_cons (pe_glob (v := .ref CL) rfl XL.g rfl) pa_nil))) (pe_one (pe_not (pe_callB (call_isX XC hz hf) (by rfl) T.isinstance (by decide +kernel) (pa_cons (pv 2) (pa_cons (pe_glob (v := .ref CN) rfl XN.g rfl) pa_nil)))))) pa_nil)))))))
      (pss_one (ps_ret (pe_tup (pa_cons pe_int (pa_cons (pv 1) pa_nil)))))), ?_⟩
    refine ⟨.int i, rfl, i, rfl, hT, fun z hN hw H2 e2 => ?_, fun hN H2 e2 => ⟨true, XB.exm sBB, fun _ a ha => ?_, fun q => nomatch q⟩⟩
    · exact s_retU (eu_tup (ea_cons ev_c (ea_cons (ev_var rfl) ea_nil)) (by simp)) fun p H3 hp e3 h3 => q z hN hw p H3 (fresh_back e2 hp) (e2.trans e3) h3
    · exact s_retU (eu_tup (ea_cons ev_c (ea_cons (ev_andV (ev_isX (ev_var rfl) ev_c (XL.kit sBL (fun _ => rfl))) (fun _ => ev_notV (ev_isX (ev_var rfl) ev_c (XN.kit sBN (fun e => by
        cases e
        rw [sBB] at sBN
        cases sBN))))) ea_nil)) (by simp)) fun p H3 hp e3 h3 => qN hN p H3 (fresh_back e2 hp) (e2.trans e3) h3
end
end K01

set_option Elab.async false
set_option linter.all false
set_option maxRecDepth 100000
set_option maxHeartbeats 4000000
namespace K01
open PySem PySem.Spec PyProof.Rows L2 Evl LK LT LG LS LQ LX
def badS : Str := "AZ /@\n~+,"
def BD : List Nat := badS.cps.toList
theorem bd_n : BD.length = 9 := by decide +kernel
def chV (i : Int) : Nat := if i % 12 = 11 then BD.getD (i / 12 % 9).toNat 0 else AL.getD (i / 12 % 39).toNat 0
theorem al_ix : ∀ n : Fin 39, AL[n.val]?.map ix = some n.val := by decide +kernel
theorem ix_al {n c : Nat} (h : AL[n]? = some c) : ix c = n := by
  have hl := (List.getElem?_eq_some_iff.mp h).1
  rw [al_n] at hl
  have e := al_ix ⟨n, hl⟩
  rw [show AL[(⟨n, hl⟩ : Fin 39).val]? = some c from h] at e
  exact Option.some.inj e
theorem dig_none {l : List Nat} {k : Nat} (h : l.length ≤ k) : dig l k = 0 := by
  unfold dig
  rw [List.getElem?_eq_none h]
theorem dig_app {l m : List Nat} {k : Nat} (h : k < l.length) : dig (l ++ m) k = dig l k := by
  unfold dig
  rw [List.getElem?_append_left h]
theorem dig_last (l : List Nat) (c : Nat) : dig (l ++ [c]) l.length = ix c + 1 := by
  unfold dig
  rw [List.getElem?_append_right (Nat.le_refl _), Nat.sub_self]
  rfl
theorem pow_small : ∀ k : Nat, k < 11 → ((40 : Int) ^ (10 - k)).natAbs < 2 ^ 60 := by decide
theorem pow_dn : ∀ k : Nat, k < 11 → (if (40 : Int) ^ (10 - k) / 40 > 1 then (40 : Int) ^ (10 - k) / 40 else 1) = 40 ^ (10 - (k + 1)) := by decide
theorem rv_isN {H : Hp} {x : V} : RV (fun x y H Q => y = .non ∧ Q (.bl (decide (x = .non))) H) x .non H (.bl (decide (x = .non))) := rv_val fun _ _ Q q => ⟨rfl, q⟩
theorem rv_notN {H : Hp} {x : V} : RV (fun x y H Q => y = .non ∧ Q (.bl (!decide (x = .non))) H) x .non H (.bl (!decide (x = .non))) := rv_val fun _ _ Q q => ⟨rfl, q⟩
def spChar : Sp := fun vs H Q _ => ∃ i : Int, vs = [.int i] ∧ RetV (.str ⟨#[chV i]⟩) H Q
def spLw : Sp := fun vs H Q _ => ∃ z : Str, vs = [.str z] ∧ z.cps.toList.length ≤ 100 ∧ (Nm z → RetV (.int (W z.cps.toList)) H Q) ∧ (¬ Nm z → RetV .non H Q)
def spLn : Sp := fun vs H Q _ => ∃ i : Int, vs = [.int i] ∧ (∀ z : Str, Nm z → W z.cps.toList = i → RetV (.str z) H Q) ∧ ((¬ ∃ z : Str, Nm z ∧ W z.cps.toList = i) → RetV .non H Q)
def spRw (Pt : Addr) : Sp := fun vs H Q _ => ∃ z : Str, vs = [.str z] ∧ z.cps.toList.length ≤ 100 ∧ Tab H Pt ∧ RetV (.bl true) H Q
def spRn (Pt : Addr) : Sp := fun vs H Q _ => ∃ i : Int, vs = [.int i] ∧ Tab H Pt ∧ RetV (.bl true) H Q
section
variable {P : Program} {w : World} {K : PySem.W.Frag} {mg : Str → Option Value} {base : Heap} {tA tB tL : Tok}
theorem ok_char {f : Addr} {fd : FuncData} (F : Fun K "_law_char" "_law_char" sChar f fd) (T : Txt mg tA tB tL) : FnOk P w K mg base CX0 1 f fd ["number"] spChar := by
  refine F.ok scChar (fun vs H Q E h => ?_) (fun cdv A outer s H vs Q E hr h => ?_)
  · obtain ⟨i, rfl, _⟩ := h
    rfl
  · obtain ⟨i, rfl, q⟩ := h
    refine ⟨_, (pss_cons (ps_set (i := 1) scChar.nd rfl (Or.inl rfl) pe_str)
      (pss_cons (ps_if (pt_cmpR op_eq (pe_op op_mod (pv 0) pe_int) pe_int (nomark _)) (pss_one (ps_ret (pe_ix ix_str pe_str (pe_op op_mod (pe_op op_fdiv (pv 0) pe_int) pe_int) (fun _ _ => rfl)))) pss_nil)
      (pss_one (ps_ret (pe_ix ix_str (pv 1) (pe_op op_mod (pe_op op_fdiv (pv 0) pe_int) pe_int) (fun _ _ => rfl)))))), ?_⟩
    refine q_asg ev_c fun H1 e1 => ?_
    refine q_when (et_test (ev_op (ev_op (ev_var rfl) ev_c (rv_I (by show (0 : Int) < 12; decide))) ev_c (rv_eq rfl))) (fun hb H2 e2 => ?_) (fun hb H2 e2 => ?_)
    · have hi : i % 12 = 11 := V.int.inj (of_decide_eq_true hb)
      obtain ⟨j, hj⟩ := Int.eq_ofNat_of_zero_le (Int.emod_nonneg (i / 12) (show (9 : Int) ≠ 0 by decide))
      have hm := Int.emod_lt_of_pos (i / 12) (show (0 : Int) < 9 by decide)
      have hjl : j < BD.length := by rw [bd_n]; omega
      have e : chV i = BD[j] := by
        unfold chV
        rw [if_pos hi, hj, Int.toNat_natCast, List.getD_eq_getElem?_getD, List.getElem?_eq_getElem hjl]
        rfl
      rw [e] at q
      exact s_ret (ev_op ev_c (ev_op (ev_op (ev_var rfl) ev_c (rv_I ⟨by decide, by decide⟩)) ev_c (rv_I (by show (0 : Int) < 9; decide))) (rv_ixS (w := badS) (by decide +kernel) (by rw [hj]; exact atI_nat (List.getElem?_eq_getElem hjl)))) fun H3 e3 => q H3 ((e1.trans e2).trans e3)
    · have hi : ¬ i % 12 = 11 := fun e => of_decide_eq_false hb (congrArg V.int e)
      obtain ⟨j, hj⟩ := Int.eq_ofNat_of_zero_le (Int.emod_nonneg (i / 12) (show (39 : Int) ≠ 0 by decide))
      have hm := Int.emod_lt_of_pos (i / 12) (show (0 : Int) < 39 by decide)
      have hjl : j < AL.length := by rw [al_n]; omega
      have e : chV i = AL[j] := by
        unfold chV
        rw [if_neg hi, hj, Int.toNat_natCast, List.getD_eq_getElem?_getD, List.getElem?_eq_getElem hjl]
        rfl
      rw [e] at q
      exact s_ret (ev_op (ev_var rfl) (ev_op (ev_op (ev_var rfl) ev_c (rv_I ⟨by decide, by decide⟩)) ev_c (rv_I (by show (0 : Int) < 39; decide))) (rv_ixS (w := alpha) (by rw [al_len]; decide) (by rw [hj]; exact atI_nat (List.getElem?_eq_getElem hjl)))) fun H3 e3 => q H3 ((e1.trans e2).trans e3)
theorem ok_lw {f : Addr} {fd : FuncData} (F : Fun K "_law_word" "_law_word" sLw f fd) (T : Txt mg tA tB tL) : FnOk P w K mg base CX0 1 f fd ["name"] spLw := by
  refine F.ok scLw (fun vs H Q E h => ?_) (fun cdv A outer s H vs Q E hr h => ?_)
  · obtain ⟨z, rfl, _⟩ := h
    rfl
  · obtain ⟨z, rfl, hl, q, qN⟩ := h
    have hz : z.length = z.cps.toList.length := str_len z
    refine ⟨_, (pss_cons (ps_set (i := 1) scLw.nd rfl (Or.inl rfl) pe_str)
      (pss_cons (ps_if (PW.pt (pw_or (pt_cmpR op_lt (pe_callB call_len_str (by rfl) T.len (by decide +kernel) (pa_cons (pv 0) pa_nil)) pe_int (nomark _)) (pw_or1 (pt_cmpR op_gt (pe_callB call_len_str (by rfl) T.len (by decide +kernel) (pa_cons (pv 0) pa_nil)) pe_int (nomark _))))) (pss_one (ps_ret pe_non)) pss_nil)
      (pss_cons (ps_set (i := 2) scLw.nd rfl (Or.inl rfl) pe_int)
      (pss_cons (ps_for PassesOwn.never rfl (pi_range1 (by rfl) T.range (pa_cons pe_int pa_nil)) (pg_name (i := 3) scLw.nd rfl (Or.inl rfl)) (pss_cons (ps_set (i := 4) scLw.nd rfl (Or.inl rfl) pe_int)
      (pss_cut (ps_if (pt_cmpR op_lt (pv 3) (pe_callB call_len_str (by rfl) T.len (by decide +kernel) (pa_cons (pv 0) pa_nil)) (nomark _)) (pss_cons (ps_set (i := 4) scLw.nd rfl (Or.inl rfl) (pe_op op_add (pe_m1 PySem.F.slot_str_find PySem.F.type_str_find mt_find (pv 1) (pe_ix ix_str (pv 0) (pv 3) (fun _ _ => rfl))) pe_int))
      (pss_one (ps_if (pt_cmpR op_eq (pv 4) pe_int (nomark _)) (pss_one (ps_ret pe_non)) pss_nil))) pss_nil)
      (pss_one (ps_set (i := 2) scLw.nd rfl (Or.inl rfl) (pe_op op_add (pe_op op_mul (pv 2) pe_int) (pv 4)))))))
      (pss_cons (ps_if (pt_cmpR op_eq (pv 0) (pe_op op_mul_str pe_str (pe_callB call_len_str (by rfl) T.len (by decide +kernel) (pa_cons (pv 0) pa_nil))) (nomark _)) (pss_one (ps_ret pe_non)) pss_nil)
      (pss_one (ps_ret (pv 2)))))))), ?_⟩
    refine q_asg ev_c fun H1 e1 => ?_
    refine q_when (et_or (et_test (ev_op (ev_lenS (ev_var rfl) (small hl)) ev_c rv_I0)) (fun _ => et_test (ev_op (ev_lenS (ev_var rfl) (small hl)) ev_c rv_I0))) (fun hb H2 e2 => ?_) (fun hb H2 e2 => ?_)
    · refine s_ret ev_c fun H3 e3 => qN (fun hN => ?_) H3 ((e1.trans e2).trans e3)
      have h1 := hN.1
      have h2 := hN.2.1
      rw [decide_eq_false (by omega), decide_eq_false (by omega)] at hb
      cases hb
    · have hb2 := Bool.or_eq_false_iff.mp hb
      have hb0 := of_decide_eq_false hb2.1
      have hb1 := of_decide_eq_false hb2.2
      refine q_asg ev_c fun H3 e3 => ?_
      refine q_forR1 (n := 11) (ea_cons ev_c ea_nil) ⟨by decide, by decide⟩ (fun i σ' H' => ∃ y3 y4 : Option V, σ' = [some (.str z), some (.str alpha), some (.int (pw z.cps.toList i)), y3, y4] ∧ Ex H H' ∧ ∀ k c, k < i → z.cps.toList[k]? = some c → c ∈ AL) (fun H4 e4 => ⟨none, none, rfl, ((e1.trans e2).trans e3).trans e4, fun k c hk => absurd hk (Nat.not_lt_zero k)⟩) ?_ ?_
      · rintro i σ' H' hi ⟨y3, y4, rfl, e0, hA⟩
        refine q_asg ev_c fun H5 e5 => ?_
        refine q_cut (M := fun σ2 H2 => σ2 = [some (.str z), some (.str alpha), some (.int (pw z.cps.toList i)), some (.int (i : Int)), some (.int (dig z.cps.toList i : Int))] ∧ Ex H H2 ∧ ∀ c, z.cps.toList[i]? = some c → c ∈ AL) ?_ ?_
        · refine s_when (et_test (ev_op (ev_var rfl) (ev_lenS (ev_var rfl) (small hl)) rv_I0)) (fun hk H6 e6 => ?_) (fun hk H6 e6 => ?_)
          · have hk' : i < z.cps.toList.length := by
              have := of_decide_eq_true hk
              omega
            have gc := List.getElem?_eq_getElem hk'
            generalize z.cps.toList[i] = c at gc
            by_cases hc : c ∈ AL
            · have hd : dig z.cps.toList i = ix c + 1 := by
                unfold dig
                rw [gc]
              refine q_asg (v := .int (dig z.cps.toList i : Int)) (ev_is (ev_op (ev_is (ev_find (ev_var rfl) (ev_op (ev_var rfl) (ev_var rfl) (rv_ixS (by omega) (atI_nat gc)))) (congrArg V.int (al_find c hc))) ev_c rv_I0) (by rw [hd]; rfl)) fun H7 e7 => ?_
              refine s_when (b := false) (et_is (et_test (ev_op (ev_var rfl) ev_c (rv_eq rfl))) (decide_eq_false fun e => ?_)) (fun h => by cases h) (fun _ H8 e8 => ⟨rfl, (((e0.trans e5).trans e6).trans e7).trans e8, fun c' hc' => ?_⟩)
              · have e' := V.int.inj e
                omega
              · rw [gc] at hc'
                cases hc'
                exact hc
            · refine q_asg (v := .int 0) (ev_is (ev_op (ev_is (ev_find (ev_var rfl) (ev_op (ev_var rfl) (ev_var rfl) (rv_ixS (by omega) (atI_nat gc)))) (congrArg V.int (find_out hc))) ev_c rv_I0) rfl) fun H7 e7 => ?_
              refine s_when (b := true) (et_is (et_test (ev_op (ev_var rfl) ev_c (rv_eq rfl))) (decide_eq_true rfl)) (fun _ H8 e8 => s_ret ev_c fun H9 e9 => qN (fun hN => hc (hN.2.2.1 c (List.mem_of_getElem? gc))) H9 (((((e0.trans e5).trans e6).trans e7).trans e8).trans e9)) (fun h => by cases h)
          · have hk' : z.cps.toList.length ≤ i := by
              have := of_decide_eq_false hk
              omega
            refine ⟨by rw [dig_none hk']; rfl, (e0.trans e5).trans e6, fun c hc => ?_⟩
            rw [List.getElem?_eq_none hk'] at hc
            cases hc
        · rintro σ2 H2 ⟨rfl, e6, hc⟩
          refine s_asg (v := .int (pw z.cps.toList (i + 1))) (ev_op (ev_op (ev_var rfl) ev_c (rv_I (.inr ⟨by decide, by decide⟩))) (ev_var rfl) rv_I0) fun H7 e7 => ⟨_, _, rfl, e6.trans e7, fun k c hk h => ?_⟩
          by_cases e : k = i
          · rw [e] at h
            exact hc c h
          · exact hA k c (by omega) h
      · rintro σ' H' ⟨y3, y4, rfl, e0, hA⟩
        have hAl : ∀ c ∈ z.cps.toList, c ∈ AL := fun c hc => by
          obtain ⟨k, hk⟩ := List.mem_iff_getElem?.mp hc
          have := (List.getElem?_eq_some_iff.mp hk).1
          exact hA k c (by show k < 11; omega) hk
        refine q_when (et_test (ev_op (ev_var rfl) (ev_op ev_c (ev_lenS (ev_var rfl) (small hl)) (rv_mulS (by decide +kernel) (by omega) (by omega))) (rv_eq rfl))) (fun hd H5 e5 => ?_) (fun hd H5 e5 => ?_)
        · refine s_ret ev_c fun H6 e6 => qN (fun hN => ?_) H6 ((e0.trans e5).trans e6)
          obtain ⟨c, hc, hne⟩ := hN.2.2.2
          exact hne ((dots_iff z).mp (V.str.inj (of_decide_eq_true hd)) c hc)
        · have hN : Nm z := dots_nm ⟨by omega, hAl⟩ (by omega) fun e => of_decide_eq_false hd (congrArg V.str e)
          exact s_ret (ev_is (w := .int (W z.cps.toList)) (ev_var rfl) (congrArg V.int (pw_all (by omega)))) fun H6 e6 => q hN H6 ((e0.trans e5).trans e6)
theorem ok_ln {f : Addr} {fd : FuncData} (F : Fun K "_law_name" "_law_name" sLn f fd) (T : Txt mg tA tB tL) : FnOk P w K mg base CX0 1 f fd ["word"] spLn := by
  refine F.ok scLn (fun vs H Q E h => ?_) (fun cdv A outer s H vs Q E hr h => ?_)
  · obtain ⟨i, rfl, _⟩ := h
    rfl
  · obtain ⟨i, rfl, q, qN⟩ := h
    refine ⟨_, (pss_cons (ps_set (i := 1) scLn.nd rfl (Or.inl rfl) pe_str)
      (pss_cons (ps_if (PW.pt (pw_or (pt_cmpR op_lt (pv 0) pe_int (nomark _)) (pw_or1 (pt_cmpR op_ge (pv 0) (pe_op op_pow pe_int pe_int) (nomark _))))) (pss_one (ps_ret pe_non)) pss_nil)
      (pss_cons (ps_set (i := 2) scLn.nd rfl (Or.inl rfl) pe_str)
      (pss_cons (ps_set (i := 3) scLn.nd rfl (Or.inl rfl) (pe_op op_pow pe_int pe_int))
      (pss_cons (ps_for PassesOwn.never rfl (pi_range1 (by rfl) T.range (pa_cons pe_int pa_nil)) (pg_name (i := 4) scLn.nd rfl (Or.inl rfl)) (pss_cons (ps_set (i := 5) scLn.nd rfl (Or.inl rfl) (pe_op op_mod (pe_op op_fdivW (pv 0) (pv 3)) pe_int))
      (pss_cons (ps_set (i := 3) scLn.nd rfl (Or.inl rfl) (pe_callB (call_max2 rfl) (by rfl) T.max (by decide +kernel) (pa_cons pe_int (pa_cons (pe_op op_fdiv (pv 3) pe_int) pa_nil))))
      (pss_one (ps_if (pt_cmpR op_gt (pv 5) pe_int (nomark _)) (pss_cons (ps_if (pt_cmpR op_lt (pe_callB call_len_str (by rfl) T.len (by decide +kernel) (pa_cons (pv 2) pa_nil)) (pv 4) (nomark _)) (pss_one (ps_ret pe_non)) pss_nil)
      (pss_one (ps_set (i := 2) scLn.nd rfl (Or.inl rfl) (pe_op op_add_str (pv 2) (pe_ix ix_str (pv 1) (pe_op op_sub (pv 5) pe_int) (fun _ _ => rfl)))))) pss_nil)))))
      (pss_cons (ps_if (pt_cmpR op_eq (pv 2) (pe_op op_mul_str pe_str (pe_callB call_len_str (by rfl) T.len (by decide +kernel) (pa_cons (pv 2) pa_nil))) (nomark _)) (pss_one (ps_ret pe_non)) pss_nil)
      (pss_one (ps_ret (pv 2))))))))), ?_⟩
    refine q_asg ev_c fun H1 e1 => ?_
    refine q_when (et_or (et_test (ev_op (ev_var rfl) ev_c rv_I0)) (fun _ => et_test (ev_op (ev_var rfl) (ev_op ev_c ev_c (rv_I ⟨by decide, by decide, by decide⟩)) rv_I0))) (fun hb H2 e2 => ?_) (fun hb H2 e2 => ?_)
    · refine s_ret ev_c fun H3 e3 => qN (fun ⟨y, hy, hw⟩ => ?_) H3 ((e1.trans e2).trans e3)
      have b := vl_bounds y.cps.toList 11 hy.2.1 hy.2.2.1
      unfold W at hw
      rw [hw] at b
      rcases Bool.or_eq_true_iff.mp hb with h | h
      · have := of_decide_eq_true h
        omega
      · exact absurd (of_decide_eq_true h) (Int.not_le.mpr b.2)
    · have hb2 := Bool.or_eq_false_iff.mp hb
      have h0 : 0 ≤ i := Int.not_lt.mp (of_decide_eq_false hb2.1)
      have h1 : i < 40 ^ 11 := Int.not_le.mp (of_decide_eq_false hb2.2)
      refine q_asg ev_c fun H3 e3 => q_asg (v := .int (40 ^ 10)) (ev_op ev_c ev_c (rv_I ⟨by decide, by decide, by decide⟩)) fun H4 e4 => ?_
      refine q_forR1 (n := 11) (ea_cons ev_c ea_nil) ⟨by decide, by decide⟩ (fun j σ' H' => ∃ (z : Str) (y4 y5 : Option V), σ' = [some (.int i), some (.str alpha), some (.str z), some (.int (40 ^ (10 - j))), y4, y5] ∧ Ex H H' ∧ z.cps.toList.length ≤ j ∧ (∀ c ∈ z.cps.toList, c ∈ AL) ∧ ∀ k, k < j → i / 40 ^ (10 - k) % 40 = (dig z.cps.toList k : Int))
        (fun H5 e5 => ⟨Str.ofString "", none, none, rfl, (((e1.trans e2).trans e3).trans e4).trans e5, by decide +kernel, by decide +kernel, fun k hk => absurd hk (Nat.not_lt_zero k)⟩) ?_ ?_
      · rintro j σ' H' hj ⟨z, y4, y5, rfl, e0, hzl, hzA, hzd⟩
        have hj' : j < 11 := by omega
        refine q_asg (ev_op (ev_op (ev_var rfl) (ev_var rfl) (rv_I (wide_div (b := 60) (p40 _) (pow_small j hj') (by decide) (by decide)))) ev_c (rv_I (by show (0 : Int) < 40; decide))) fun H5 e5 => ?_
        refine q_asg (v := .int (40 ^ (10 - (j + 1)))) (ev_is (ev_max2 ev_c (ev_op (ev_var rfl) ev_c (rv_I ⟨by decide, by decide⟩))) (congrArg V.int (pow_dn j hj'))) fun H6 e6 => ?_
        have m0 := Int.emod_nonneg (i / 40 ^ (10 - j)) (show (40 : Int) ≠ 0 by decide)
        have m1 := Int.emod_lt_of_pos (i / 40 ^ (10 - j)) (show (0 : Int) < 40 by decide)
        generalize hd : i / 40 ^ (10 - j) % 40 = d at *
        refine s_when (et_test (ev_op (ev_var rfl) ev_c rv_I0)) (fun hb H7 e7 => ?_) (fun hb H7 e7 => ?_)
        · have hpos : 0 < d := of_decide_eq_true hb
          have hsm : z.length ≤ sizeLine := small (by omega)
          refine q_when (et_test (ev_op (ev_lenS (ev_var rfl) hsm) (ev_var rfl) rv_I0)) (fun hk H8 e8 => ?_) (fun hk H8 e8 => ?_)
          · have hk' : z.cps.toList.length < j := by
              have := of_decide_eq_true hk
              rw [str_len] at this
              omega
            refine s_ret ev_c fun H9 e9 => qN (fun ⟨y, hy, hw⟩ => ?_) H9 (((((e0.trans e5).trans e6).trans e7).trans e8).trans e9)
            have hyd : ∀ k, k < 11 → i / 40 ^ (10 - k) % 40 = (dig y.cps.toList k : Int) := fun k hk => by
              have g := word_dig hy.2.1 hy.2.2.1 k hk
              unfold W at hw
              rw [hw] at g
              exact g
            have a1 := hzd _ hk'
            rw [dig_none (Nat.le_refl _), hyd _ (by omega)] at a1
            have a2 := dig_zero (l := y.cps.toList) (k := z.cps.toList.length) (by omega)
            have a3 := hyd j hj'
            rw [hd, dig_none (by omega)] at a3
            omega
          · have hk' : z.cps.toList.length = j := by
              have := of_decide_eq_false hk
              rw [str_len] at this
              omega
            obtain ⟨n, hn⟩ := Int.eq_ofNat_of_zero_le (show 0 ≤ d - 1 by omega)
            have hnl : n < AL.length := by rw [al_n]; omega
            have hc : AL[n]? = some AL[n] := List.getElem?_eq_getElem hnl
            have hcm := List.getElem_mem hnl
            generalize AL[n] = c at hc hcm
            refine s_asg (v := .str (z ++ ⟨#[c]⟩)) (ev_op (ev_var rfl) (ev_op (ev_var rfl) (ev_op (ev_var rfl) ev_c rv_I0) (rv_ixS (w := alpha) (by rw [al_len]; decide) (by rw [hn]; exact atI_nat hc))) (rv_addS (by rw [str_len]; exact Nat.le_trans (show _ ≤ 100 by show z.cps.toList.length + 1 ≤ 100; omega) (by decide)))) fun H9 e9 => ⟨_, _, _, rfl, ((((e0.trans e5).trans e6).trans e7).trans e8).trans e9, ?_, fun x hx => ?_, fun k hk2 => ?_⟩
            · rw [app_list, List.length_append]
              show z.cps.toList.length + 1 ≤ j + 1
              omega
            · rw [app_list] at hx
              rcases List.mem_append.mp hx with h | h
              · exact hzA x h
              · rw [List.mem_singleton.mp h]
                exact hcm
            · rw [app_list]
              by_cases e : k = j
              · rw [e, hd, ← hk', one_list, dig_last, ix_al hc]
                omega
              · rw [dig_app (by omega)]
                exact hzd k (by omega)
        · have hz0 : d = 0 := by
            have := of_decide_eq_false hb
            omega
          refine ⟨z, _, _, rfl, ((e0.trans e5).trans e6).trans e7, by omega, hzA, fun k hk2 => ?_⟩
          by_cases e : k = j
          · rw [e, hd, dig_none hzl, hz0]
            rfl
          · exact hzd k (by omega)
      · rintro σ' H' ⟨z, y4, y5, rfl, e0, hzl, hzA, hzd⟩
        have hzl' : z.cps.toList.length ≤ 11 := hzl
        have hzd' : ∀ k, k < 11 → i / 40 ^ (10 - k) % 40 = (dig z.cps.toList k : Int) := hzd
        have hw : W z.cps.toList = i := (word_of hzl' h0 h1 hzd').symm
        have same : ∀ y : Str, Nm y → W y.cps.toList = i → y = z := fun y hy hy2 => str_ext (dig_inj hy.2.2.1 hzA fun k => by
          by_cases hk : k < 11
          · have g := word_dig hy.2.1 hy.2.2.1 k hk
            unfold W at hy2
            rw [hy2, hzd' k hk] at g
            omega
          · have := hy.2.1
            rw [dig_none (by omega), dig_none (by omega)])
        have hzs : z.length = z.cps.toList.length := str_len z
        refine q_when (et_test (ev_op (ev_var rfl) (ev_op ev_c (ev_lenS (ev_var rfl) (small (by omega))) (rv_mulS (by decide +kernel) (by omega) (by omega))) (rv_eq rfl))) (fun hd H5 e5 => ?_) (fun hd H5 e5 => ?_)
        · refine s_ret ev_c fun H6 e6 => qN (fun ⟨y, hy, hy2⟩ => ?_) H6 ((e0.trans e5).trans e6)
          obtain ⟨c, hc, hne⟩ := hy.2.2.2
          rw [same y hy hy2] at hc
          exact hne ((dots_iff z).mp (V.str.inj (of_decide_eq_true hd)) c hc)
        · have hne := of_decide_eq_false hd
          have hN : Nm z := dots_nm ⟨hzl', hzA⟩ (Nat.one_le_iff_ne_zero.mpr fun h0 => hne (congrArg V.str (str_ext (by
            rw [str_len, mul_dots, h0]
            exact List.length_eq_zero_iff.mp h0)))) fun e => hne (congrArg V.str e)
          exact s_ret (ev_var rfl) fun H6 e6 => q z hN hw H6 ((e0.trans e5).trans e6)
end
end K01

set_option Elab.async false
set_option linter.all false
set_option maxRecDepth 100000
set_option maxHeartbeats 4000000
namespace K01
open PySem PySem.Spec PyProof.Rows L2 Evl LK LT LG LS LQ LX
section
variable {P : Program} {w : World} {K : PySem.W.Frag} {mg : Str → Option Value} {base : Heap} {tA tB tL : Tok}
theorem dp_no {H : Hp} {p : Addr} (h : H p = some (.tup [.int 0, .bl true])) : Dp K H (.ref p) (.tuple [.int 0, .bool true]) := .tup (st_of h) (.cons (.int 0) (.cons (.bl true) .nil))
theorem sh_no : Sh 1 (.tuple [.int 0, .bool true]) := sh_tup fun d hd => by
  simp only [List.mem_cons, List.not_mem_nil, or_false] at hd
  rcases hd with rfl | rfl
  · exact sh_int 0
  · exact sh_bool true
theorem ok_rw {f fX fTW Pt : Addr} {fd fdX fdTW : FuncData} (F : Fun K "_law_right_word" "_law_right_word" sRw f fd) (FX : Fun K "_law_word" "_law_word" sLw fX fdX) (bX : Binds K fdX ["name"] []) (gX : mg "_law_word" = some (.ref fX)) (FTW : Fun K "_law_told_word" "_law_told_word" sTw fTW fdTW) (GTW : FnOk P w K mg base CX0 3 fTW fdTW ["name"] (spTw Pt)) (bTW : Binds K fdTW ["name"] []) (gTW : mg "_law_told_word" = some (.ref fTW)) (T : Txt mg tA tB tL) : FnOk P w K mg base CX0 4 f fd ["name"] (spRw Pt) := by
  have GX : FnOk P w K mg base CX0 3 fX fdX ["name"] spLw := (ok_lw FX T).mono (by decide)
  refine F.ok scRw (fun vs H Q E h => ?_) (fun cdv A outer s H vs Q E hr h => ?_)
  · obtain ⟨z, rfl, _⟩ := h
    rfl
  · obtain ⟨z, rfl, hl, hT, q⟩ := h
    refine ⟨_, (pss_cons (ps_set (i := 1) scRw.nd rfl (Or.inl rfl) (pe_call GX hr (by rfl) gX FX.kp bX .nil pass0 (pa_cons (pv 0) pa_nil)))
      (pss_cons (ps_set (i := 2) scRw.nd rfl (Or.inl rfl) (pe_call GTW hr (by rfl) gTW FTW.kp bTW .nil pass0 (pa_cons (pv 0) pa_nil)))
      (pss_cons (ps_if (pt_cmpR op_isN (pv 1) pe_non (nomark _)) (pss_one (ps_ret (pe_cmpR (op_eqD hr.units) (pv 2) (pe_tup (pa_cons pe_int (pa_cons pe_bl pa_nil))) (nomark _)))) pss_nil)
      (pss_one (ps_ret (pe_and (pe_cmpR op_eq (pe_ix ix_tup (pv 2) pe_int (fun _ _ => rfl)) pe_int (nomark _)) (pe_and (pe_callB call_isi (by rfl) T.isinstance (by decide +kernel) (pa_cons (pe_ix ix_tup (pv 2) pe_int (fun _ _ => rfl)) (pa_cons (pe_bltn (v := .ty "int") (u := .type "int") (by rfl) T.int (by decide +kernel) rfl) pa_nil))) (pe_and (pe_not (pe_callB call_isi (by rfl) T.isinstance (by decide +kernel) (pa_cons (pe_ix ix_tup (pv 2) pe_int (fun _ _ => rfl)) (pa_cons (pe_bltn (v := .ty "bool") (u := .type "bool") (by rfl) T.bool (by decide +kernel) rfl) pa_nil)))) (pe_one (pe_cmpR op_eq (pe_ix ix_tup (pv 2) pe_int (fun _ _ => rfl)) (pv 1) (nomark _))))))))))), ?_⟩
    by_cases hN : Nm z
    · refine q_asg (ev_call (vs := [.str z]) (z := .int (W z.cps.toList)) (ea_cons (ev_var rfl) ea_nil) (fun H1 e1 Q' q' E' => ⟨z, rfl, hl, fun _ => q', fun h => absurd hN h⟩)) fun H1 e1 => ?_
      refine q_call (vs := [.str z]) (ea_cons (ev_var rfl) ea_nil) fun H2 e2 => ⟨z, rfl, hl, hT.mono (e1.trans e2), fun _ p H3 hp e3 h3 => ?_, fun h => absurd hN h⟩
      refine q_when (b := false) (et_is (et_test (ev_op (ev_var rfl) ev_c rv_isN)) (decide_eq_false fun e => by cases e)) (fun h => by cases h) (fun _ H4 e4 => ?_)
      exact s_ret (ev_is (ev_andV (ev_op (ev_op (ev_var rfl) ev_c (rv_ixT (st_of (e4 _ _ h3)) rfl)) ev_c (rv_eq rfl)) (fun _ => ev_andV (ev_isi (ev_op (ev_var rfl) ev_c (rv_ixT (st_of (e4 _ _ h3)) rfl)) ev_c (fun _ _ => .base (.int _)) (kit_ty rfl)) (fun _ => ev_andV (ev_notV (ev_isi (ev_op (ev_var rfl) ev_c (rv_ixT (st_of (e4 _ _ h3)) rfl)) ev_c (fun _ _ => .base (.int _)) (kit_ty rfl))) (fun _ => ev_op (ev_op (ev_var rfl) ev_c (rv_ixT (st_of (e4 _ _ h3)) rfl)) (ev_var rfl) (rv_eq rfl))))) (by simp; decide)) fun H5 e5 => q H5 ((((e1.trans e2).trans e3).trans e4).trans e5)
    · refine q_asg (ev_call (vs := [.str z]) (z := .non) (ea_cons (ev_var rfl) ea_nil) (fun H1 e1 Q' q' E' => ⟨z, rfl, hl, fun h => absurd h hN, fun _ => q'⟩)) fun H1 e1 => ?_
      refine q_call (vs := [.str z]) (ea_cons (ev_var rfl) ea_nil) fun H2 e2 => ⟨z, rfl, hl, hT.mono (e1.trans e2), fun h => absurd h hN, fun _ p H3 hp e3 h3 => ?_⟩
      refine q_when (b := true) (et_is (et_test (ev_op (ev_var rfl) ev_c rv_isN)) (decide_eq_true rfl)) (fun _ H4 e4 => ?_) (fun h => by cases h)
      exact s_ret (ev_opU (ev_var rfl) (eu_tup (ea_cons ev_c (ea_cons ev_c ea_nil)) (by simp)) (fun p2 H5 h5 e5 => rv_eqD (dp_no ((e4.trans e5) _ _ h3)) (dp_no h5) sh_no (by decide))) fun H6 e6 => q H6 ((((e1.trans e2).trans e3).trans e4).trans e6)
theorem ok_rn {f fN fTN Pt : Addr} {fd fdN fdTN : FuncData} (F : Fun K "_law_right_name" "_law_right_name" sRn f fd) (FN : Fun K "_law_name" "_law_name" sLn fN fdN) (bN : Binds K fdN ["word"] []) (gN : mg "_law_name" = some (.ref fN)) (FTN : Fun K "_law_told_name" "_law_told_name" sTn fTN fdTN) (GTN : FnOk P w K mg base CX0 4 fTN fdTN ["word"] (spTn Pt)) (bTN : Binds K fdTN ["word"] []) (gTN : mg "_law_told_name" = some (.ref fTN)) (T : Txt mg tA tB tL) : FnOk P w K mg base CX0 5 f fd ["word"] (spRn Pt) := by
  have GN : FnOk P w K mg base CX0 4 fN fdN ["word"] spLn := (ok_ln FN T).mono (by decide)
  refine F.ok scRn (fun vs H Q E h => ?_) (fun cdv A outer s H vs Q E hr h => ?_)
  · obtain ⟨i, rfl, _⟩ := h
    rfl
  · obtain ⟨i, rfl, hT, q⟩ := h
    refine ⟨_, (pss_cons (ps_set (i := 1) scRn.nd rfl (Or.inl rfl) (pe_call GN hr (by rfl) gN FN.kp bN .nil pass0 (pa_cons (pv 0) pa_nil)))
      (pss_cons (ps_set (i := 2) scRn.nd rfl (Or.inl rfl) (pe_call GTN hr (by rfl) gTN FTN.kp bTN .nil pass0 (pa_cons (pv 0) pa_nil)))
      (pss_cons (ps_if (pt_cmpR op_isN (pv 1) pe_non (nomark _)) (pss_one (ps_ret (pe_cmpR (op_eqD hr.units) (pv 2) (pe_tup (pa_cons pe_int (pa_cons pe_bl pa_nil))) (nomark _)))) pss_nil)
      (pss_one (ps_ret (pe_and (pe_cmpR op_eq (pe_ix ix_tup (pv 2) pe_int (fun _ _ => rfl)) pe_int (nomark _)) (pe_and (pe_callB call_isi (by rfl) T.isinstance (by decide +kernel) (pa_cons (pe_ix ix_tup (pv 2) pe_int (fun _ _ => rfl)) (pa_cons (pe_bltn (v := .ty "str") (u := .type "str") (by rfl) T.str (by decide +kernel) rfl) pa_nil))) (pe_one (pe_cmpR op_eq (pe_ix ix_tup (pv 2) pe_int (fun _ _ => rfl)) (pv 1) (nomark _)))))))))), ?_⟩
    by_cases hN : ∃ z : Str, Nm z ∧ W z.cps.toList = i
    · obtain ⟨z, hz, hw⟩ := id hN
      refine q_asg (ev_call (vs := [.int i]) (z := .str z) (ea_cons (ev_var rfl) ea_nil) (fun H1 e1 Q' q' E' => ⟨i, rfl, fun y hy hy2 => by
        rw [str_ext (W_inj hy hz (hy2.trans hw.symm))]
        exact q', fun h => absurd hN h⟩)) fun H1 e1 => ?_
      refine q_call (vs := [.int i]) (ea_cons (ev_var rfl) ea_nil) fun H2 e2 => ⟨i, rfl, hT.mono (e1.trans e2), fun y hy hy2 p H3 hp e3 h3 => ?_, fun h => absurd hN h⟩
      rw [str_ext (W_inj hy hz (hy2.trans hw.symm))] at h3
      refine q_when (b := false) (et_is (et_test (ev_op (ev_var rfl) ev_c rv_isN)) (decide_eq_false fun e => by cases e)) (fun h => by cases h) (fun _ H4 e4 => ?_)
      exact s_ret (ev_is (ev_andV (ev_op (ev_op (ev_var rfl) ev_c (rv_ixT (st_of (e4 _ _ h3)) rfl)) ev_c (rv_eq rfl)) (fun _ => ev_andV (ev_isi (ev_op (ev_var rfl) ev_c (rv_ixT (st_of (e4 _ _ h3)) rfl)) ev_c (fun _ _ => .base (.str _)) (kit_ty rfl)) (fun _ => ev_op (ev_op (ev_var rfl) ev_c (rv_ixT (st_of (e4 _ _ h3)) rfl)) (ev_var rfl) (rv_eq rfl)))) (by simp)) fun H5 e5 => q H5 ((((e1.trans e2).trans e3).trans e4).trans e5)
    · refine q_asg (ev_call (vs := [.int i]) (z := .non) (ea_cons (ev_var rfl) ea_nil) (fun H1 e1 Q' q' E' => ⟨i, rfl, fun y hy hy2 => absurd ⟨y, hy, hy2⟩ hN, fun _ => q'⟩)) fun H1 e1 => ?_
      refine q_call (vs := [.int i]) (ea_cons (ev_var rfl) ea_nil) fun H2 e2 => ⟨i, rfl, hT.mono (e1.trans e2), fun y hy hy2 => absurd ⟨y, hy, hy2⟩ hN, fun _ p H3 hp e3 h3 => ?_⟩
      refine q_when (b := true) (et_is (et_test (ev_op (ev_var rfl) ev_c rv_isN)) (decide_eq_true rfl)) (fun _ H4 e4 => ?_) (fun h => by cases h)
      exact s_ret (ev_opU (ev_var rfl) (eu_tup (ea_cons ev_c (ea_cons ev_c ea_nil)) (by simp)) (fun p2 H5 h5 e5 => rv_eqD (dp_no ((e4.trans e5) _ _ h3)) (dp_no h5) sh_no (by decide))) fun H6 e6 => q H6 ((((e1.trans e2).trans e3).trans e4).trans e6)
end
end K01

set_option Elab.async false
set_option linter.all false
set_option maxRecDepth 100000
set_option maxHeartbeats 4000000
namespace K01
open PySem PySem.Spec PyProof.Rows L2 Evl LK LT LG LS LQ LX
def spLaw (K : PySem.W.Frag) (Pt : Addr) : Sp := fun vs H Q _ => ∃ (a : Addr) (ns : List Int), vs = [.ref a] ∧ SqL K H a (ns.map V.int) ∧ ns.length ≤ 63 ∧ Tab H Pt ∧ ∀ H', Ex H H' → Q (.bl true) H'
theorem nat_of {z : Int} (h : 0 ≤ z) : z = ((z.toNat : Nat) : Int) := by omega
open Classical in
noncomputable def dueV (z : Str) : V := if Nm z then .int (W z.cps.toList) else .non
theorem due_yes {z : Str} (h : Nm z) : dueV z = .int (W z.cps.toList) := by
  unfold dueV
  rw [if_pos h]
theorem due_no {z : Str} (h : ¬ Nm z) : dueV z = .non := by
  unfold dueV
  rw [if_neg h]
open Classical in
noncomputable def backV (i : Int) : V := if h : ∃ z : Str, Nm z ∧ W z.cps.toList = i then .str (Classical.choose h) else .non
theorem back_yes {i : Int} {z : Str} (h : Nm z) (e : W z.cps.toList = i) : backV i = .str z := by
  unfold backV
  have hx : ∃ z : Str, Nm z ∧ W z.cps.toList = i := ⟨z, h, e⟩
  rw [dif_pos hx]
  obtain ⟨c1, c2⟩ := Classical.choose_spec hx
  exact congrArg V.str (str_ext (W_inj c1 h (c2.trans e.symm)))
theorem back_no {i : Int} (h : ¬ ∃ z : Str, Nm z ∧ W z.cps.toList = i) : backV i = .non := by
  unfold backV
  rw [dif_neg h]
section
variable {P : Program} {w : World} {K : PySem.W.Frag} {mg : Str → Option Value} {base : Heap} {tA tB tL : Tok}
theorem ev_join {σ : L2.St} {H : Hp} {to te : TE} {a : Str} {ys : List Str} (h : Ev to σ H (.str a)) (hb : EvL te σ H (ys.map V.str)) (hz : (ys.map (·.length)).sum + ys.length * a.length ≤ 16777216) : Ev (tM1 (fun x xs H Q => ∃ a p, ∃ ys : List Str, x = .str a ∧ xs = [.ref p] ∧ (SqL K H p (ys.map V.str) ∨ SqT K H p (ys.map V.str)) ∧
      (ys.map (·.length)).sum + ys.length * a.length ≤ 16777216 ∧ Q (.str (Txt.join a ys)) H) to te) σ H (.str (Txt.join a ys)) := fun H1 e Q q =>
  h H1 e _ fun H2 e2 => ⟨⟨a, rfl⟩, hb H2 (e.trans e2) _ fun p H3 hp e3 h3 => ⟨a, p, ys, rfl, rfl, .inl (sq_of h3), hz, q H3 (e2.trans e3)⟩⟩
theorem el_is {te : TE} {σ : L2.St} {H : Hp} {xs ys : List V} (h : EvL te σ H xs) (e : xs = ys) : EvL te σ H ys := by
  rw [← e]
  exact h
theorem sum_ones : ∀ ys : List Str, (∀ y ∈ ys, y.length = 1) → (ys.map (·.length)).sum = ys.length
  | [], _ => rfl
  | y :: r, h => by
    rw [List.map_cons, List.sum_cons, sum_ones r fun x hx => h x (List.mem_cons_of_mem _ hx), h y List.mem_cons_self, List.length_cons]
    omega
theorem ok_law {f fT fA fC fX fN fRW fRN Pt : Addr} {fd fdT fdA fdC fdX fdN fdRW fdRN : FuncData} (F : Fun K "law" "law" sLaw f fd) (FT : Fun K "_law_tape" "_law_tape" sTape fT fdT) (FA : Fun K "_law_at" "_law_at" sAt fA fdA) (FC : Fun K "_law_char" "_law_char" sChar fC fdC) (FX : Fun K "_law_word" "_law_word" sLw fX fdX) (FN : Fun K "_law_name" "_law_name" sLn fN fdN)
    (FRW : Fun K "_law_right_word" "_law_right_word" sRw fRW fdRW) (GRW0 : FnOk P w K mg base CX0 4 fRW fdRW ["name"] (spRw Pt)) (FRN : Fun K "_law_right_name" "_law_right_name" sRn fRN fdRN) (GRN : FnOk P w K mg base CX0 5 fRN fdRN ["word"] (spRn Pt)) (T : Txt mg tA tB tL)
    (bT : Binds K fdT ["script"] []) (bA : Binds K fdA ["tape", "k"] []) (bC : Binds K fdC ["number"] []) (bX : Binds K fdX ["name"] []) (bN : Binds K fdN ["word"] []) (bRW : Binds K fdRW ["name"] []) (bRN : Binds K fdRN ["word"] [])
    (gT : mg "_law_tape" = some (.ref fT)) (gA : mg "_law_at" = some (.ref fA)) (gC : mg "_law_char" = some (.ref fC)) (gX : mg "_law_word" = some (.ref fX)) (gN : mg "_law_name" = some (.ref fN)) (gRW : mg "_law_right_word" = some (.ref fRW)) (gRN : mg "_law_right_name" = some (.ref fRN)) : FnOk P w K mg base CX0 6 f fd ["script"] (spLaw K Pt) := by
  have GT : FnOk P w K mg base CX0 5 fT fdT ["script"] (spTape K) := (ok_tape FT T).mono (by decide)
  have GA : FnOk P w K mg base CX0 5 fA fdA ["tape", "k"] (spCel K) := (ok_at FA T).mono (by decide)
  have GC : FnOk P w K mg base CX0 5 fC fdC ["number"] spChar := (ok_char FC T).mono (by decide)
  have GX : FnOk P w K mg base CX0 5 fX fdX ["name"] spLw := (ok_lw FX T).mono (by decide)
  have GN : FnOk P w K mg base CX0 5 fN fdN ["word"] spLn := (ok_ln FN T).mono (by decide)
  have GRW : FnOk P w K mg base CX0 5 fRW fdRW ["name"] (spRw Pt) := GRW0.mono (by decide)
  refine F.ok scLaw (fun vs H Q E h => ?_) (fun cdv A outer s H vs Q E hr h => ?_)
  · obtain ⟨a, ns, rfl, _⟩ := h
    rfl
  · obtain ⟨a, ns, rfl, hS, hlen, hTab, q⟩ := h
    refine ⟨_, (pss_cons (ps_set (i := 1) scLaw.nd rfl (Or.inr rfl) (pe_call GT hr (by rfl) gT FT.kp bT .nil pass0 (pa_cons (pv 0) pa_nil)))
      (pss_cons (ps_set (i := 2) scLaw.nd rfl (Or.inl rfl) (pe_op op_mod (pe_call GA hr (by rfl) gA FA.kp bA .nil pass0 (pa_cons (pv 1) (pa_cons pe_int pa_nil))) pe_int))
      (pss_cons (ps_set (i := 3) scLaw.nd rfl (Or.inl rfl) (pe_join pe_str (pe_lc (own := [("k", 6)]) (g := gName 6) (tt := tYes) rfl scLaw.nd (pi_range1 (by rfl) T.range (pa_cons (pv 2) pa_nil)) (blkOk_by (own := [("k", 6)]) (N := ["script", "tape", "size", "name", "word", "count", "k", "digit", "due", "one", "back"]) (sc := defScope sLaw) (by decide +kernel)) (fun _ _ _ _ _ => pg_name (i := 6) scLaw.nd rfl (Or.inl rfl)) (fun _ _ _ _ _ => pts_nil) (fun _ _ _ _ _ => (pe_call GC hr (by rfl) gC FC.kp bC .nil pass0 (pa_cons (pe_call GA hr (by rfl) gA FA.kp bA .nil pass0 (pa_cons (pv 1) (pa_cons (pe_op op_add pe_int (pv 6)) pa_nil))) pa_nil))))))
      (pss_cut (ps_if (pt_cmpR op_eq (pe_op op_mod (pe_call GA hr (by rfl) gA FA.kp bA .nil pass0 (pa_cons (pv 1) (pa_cons pe_int pa_nil))) pe_int) pe_int (nomark _)) (pss_one (ps_set (i := 3) scLaw.nd rfl (Or.inl rfl) (pe_op op_mul_str pe_str (pv 2)))) pss_nil)
      (pss_cons (ps_if (pt_not (pt_val (pe_call GRW hr (by rfl) gRW FRW.kp bRW .nil pass0 (pa_cons (pv 3) pa_nil)))) (pss_one (ps_ret pe_bl)) pss_nil)
      (pss_cons (ps_set (i := 4) scLaw.nd rfl (Or.inl rfl) pe_int)
      (pss_cons (ps_set (i := 5) scLaw.nd rfl (Or.inl rfl) (pe_op op_add pe_int (pe_op op_mod (pe_call GA hr (by rfl) gA FA.kp bA .nil pass0 (pa_cons (pv 1) (pa_cons pe_int pa_nil))) pe_int)))
      (pss_cons (ps_for PassesOwn.never rfl (pi_range1 (by rfl) T.range (pa_cons pe_int pa_nil)) (pg_name (i := 6) scLaw.nd rfl (Or.inl rfl)) (pss_cons (ps_set (i := 7) scLaw.nd rfl (Or.inl rfl) (pe_op op_mod (pe_callTy call_int1 (by rfl) T.int (by decide +kernel) (pa_cons (pe_call GA hr (by rfl) gA FA.kp bA .nil pass0 (pa_cons (pv 1) (pa_cons (pe_op op_add pe_int (pv 6)) pa_nil))) pa_nil)) pe_int))
      (pss_cut (ps_if (PW.pt (pw_and (pt_cmpR op_ge (pv 6) (pv 5) (nomark _)) (pw_and1 (pt_cmpR op_eq (pe_op op_mod (pe_call GA hr (by rfl) gA FA.kp bA .nil pass0 (pa_cons (pv 1) (pa_cons pe_int pa_nil))) pe_int) pe_int (nomark _))))) (pss_one (ps_set (i := 7) scLaw.nd rfl (Or.inl rfl) pe_int)) pss_nil)
      (pss_one (ps_if (PW.pt (pw_or (pt_cmpR op_lt (pv 6) pe_int (nomark _)) (pw_or1 (pt_cmpR op_eq (pe_op op_mod (pe_call GA hr (by rfl) gA FA.kp bA .nil pass0 (pa_cons (pv 1) (pa_cons pe_int pa_nil))) pe_int) pe_int (nomark _))))) (pss_one (ps_set (i := 4) scLaw.nd rfl (Or.inl rfl) (pe_op op_add (pe_op op_mul (pv 4) pe_int) (pv 7)))) pss_nil)))))
      (pss_cons (ps_set (i := 8) scLaw.nd rfl (Or.inl rfl) (pe_call GX hr (by rfl) gX FX.kp bX .nil pass0 (pa_cons (pv 3) pa_nil)))
      (pss_cut (ps_if (pt_cmpR op_isN (pv 8) pe_non (nomark _)) (pss_one (ps_set (i := 8) scLaw.nd rfl (Or.inl rfl) (pv 4))) pss_nil)
      (pss_cons (ps_for PassesOwn.never rfl (pi_list (pe_lst (pa_cons (pv 4) (pa_cons (pv 8) (pa_cons (pe_op op_add (pv 8) pe_int) (pa_cons (pe_op op_sub (pv 8) pe_int) (pa_cons (pe_op op_sub (pe_op op_pow pe_int pe_int) pe_int) (pa_cons (pe_op op_pow pe_int pe_int) (pa_cons pe_int (pa_cons (pe_op op_fdiv (pv 4) pe_int) pa_nil)))))))))) (pg_name (i := 9) scLaw.nd rfl (Or.inl rfl)) (pss_cons (ps_if (pt_not (pt_val (pe_call GRN hr (by rfl) gRN FRN.kp bRN .nil pass0 (pa_cons (pv 9) pa_nil)))) (pss_one (ps_ret pe_bl)) pss_nil)
      (pss_cons (ps_set (i := 10) scLaw.nd rfl (Or.inl rfl) (pe_call GN hr (by rfl) gN FN.kp bN .nil pass0 (pa_cons (pv 9) pa_nil)))
      (pss_one (ps_if (PW.pt (pw_and (pt_cmpR op_notN (pv 10) pe_non (nomark _)) (pw_and1 (pt_not (pt_val (pe_call GRW hr (by rfl) gRW FRW.kp bRW .nil pass0 (pa_cons (pv 10) pa_nil))))))) (pss_one (ps_ret pe_bl)) pss_nil)))))
      (pss_one (ps_ret (pe_call GRW hr (by rfl) gRW FRW.kp bRW .nil pass0 (pa_cons (pv 3) pa_nil))))))))))))))), ?_⟩
    refine q_call (ea_cons (ev_var rfl) ea_nil) fun H2 e2 => ⟨a, ns, rfl, ex_l e2 hS, hlen, fun p H3 ts hp e3 h3 hg hl => ?_⟩
    have e03 := e2.trans e3
    have cc : ∀ {H1 : Hp} {z : Int} {σ : L2.St} {tk : TE} (j : Nat), Ex H3 H1 → z = (j : Int) → σ[1]? = some (some (.ref p)) → Ev tk σ H1 (.int z) → Ev (tCall (spCel K) [] E0 (tCons (tVar 1) (tCons tk tNil))) σ H1 (.int (cellv ts j)) :=
      fun j e ez h0 hk => ev_call (ea_cons (ev_var h0) (ea_cons hk ea_nil)) (sv_cell (sq_of (e _ _ h3)) ez)
    -- size
    have k0 := Int.emod_nonneg (cellv ts 0) (show (14 : Int) ≠ 0 by decide)
    have k1 := Int.emod_lt_of_pos (cellv ts 0) (show (0 : Int) < 14 by decide)
    refine q_asg (v := .int (((cellv ts 0 % 14).toNat : Nat) : Int)) (ev_is (ev_op (cc 0 (Ex.refl _) rfl rfl ev_c) ev_c (rv_I (by show (0 : Int) < 14; decide))) (congrArg V.int (nat_of k0))) fun H4 e4 => ?_
    have hn : (cellv ts 0 % 14).toNat ≤ 13 := by omega
    generalize (cellv ts 0 % 14).toNat = n at hn
    -- name
    have hys : given ((n : Int)).toNat (fun _ => true) (fun k => V.str ⟨#[chV (cellv ts (2 + k))]⟩) = (((List.range n).map fun k => (⟨#[chV (cellv ts (2 + k))]⟩ : Str))).map V.str := by
      unfold given
      rw [Int.toNat_natCast, List.map_map, List.filter_eq_self.mpr fun _ _ => rfl]
      rfl
    have one : ∀ y ∈ ((List.range n).map fun k => (⟨#[chV (cellv ts (2 + k))]⟩ : Str)), y.length = 1 := fun y hy => by
      obtain ⟨k, _, rfl⟩ := List.mem_map.mp hy
      rfl
    have lys : ((List.range n).map fun k => (⟨#[chV (cellv ts (2 + k))]⟩ : Str)).length = n := by rw [List.length_map, List.length_range]
    refine q_asg (ev_join ev_c (el_is (el_lcR1 (n := (n : Int)) (fun _ => true) (fun k => V.str ⟨#[chV (cellv ts (2 + k))]⟩) (ea_cons (ev_var rfl) ea_nil) ⟨by omega, by omega⟩ (fun _ => rfl) (fun _ H1 _ _ => fun H2 _ Q q => q _ (Ex.refl _))
      (fun k H1 e1 hk _ => ev_call (vs := [.int (cellv ts (2 + k))]) (ea_cons (cc (2 + k) (e4.trans e1) (by show (2 : Int) + (k : Int) = ((2 + k : Nat) : Int); omega) rfl (ev_op ev_c (ev_var rfl) rv_I0)) ea_nil) (fun H1 e1 Q' q' E' => ⟨_, rfl, q'⟩))) hys) (by
      rw [sum_ones _ one, lys]
      have z : (Str.ofString "").length = 0 := by decide
      show n + n * (Str.ofString "").length ≤ 16777216
      rw [z]
      omega)) fun H5 e5 => ?_
    have hjl := PySem.W.KT.join_ones _ one
    rw [lys, str_len] at hjl
    refine q_cut (M := fun σ2 H8 => ∃ z : Str, σ2 = [some (.ref a), some (.ref p), some (.int (n : Int)), some (.str z), none, none, none, none, none, none, none] ∧ Ex H3 H8 ∧ z.cps.toList.length ≤ 100) ?_ ?_
    · refine s_when (et_test (ev_op (ev_op (cc 1 (e4.trans e5) rfl rfl ev_c) ev_c (rv_I (by show (0 : Int) < 5; decide))) ev_c (rv_eq rfl))) (fun _ H8 e8 => ?_) (fun _ H8 e8 => ⟨_, rfl, (e4.trans e5).trans e8, by
        show (Txt.join (Str.ofString "") _).cps.toList.length ≤ 100
        rw [hjl]
        omega⟩)
      exact s_asg (ev_op ev_c (ev_var rfl) (rv_mulS (by decide +kernel) (by omega) (by omega))) fun H9 e9 => ⟨_, rfl, ((e4.trans e5).trans e8).trans e9, by
        show (Txt.mul (Str.ofString ".") (n : Int)).cps.toList.length ≤ 100
        rw [mul_dots, List.length_replicate]
        omega⟩
    · rintro σ2 H8 ⟨z, rfl, e38, hzl⟩
      have t8 := hTab.mono (e03.trans e38)
      have evrw : ∀ {H1 : Hp} {σ : L2.St} {tk : TE} (y : Str), Ex H8 H1 → y.cps.toList.length ≤ 100 → Ev tk σ H1 (.str y) → Ev (tCall (spRw Pt) [] E0 (tCons tk tNil)) σ H1 (.bl true) := fun y e hy h => ev_call (vs := [.str y]) (ea_cons h ea_nil) (fun H1 e1 Q' q' E' => ⟨y, rfl, hy, t8.mono (e.trans e1), q'⟩)
      refine q_when (b := false) (et_not (et_B (evrw z (Ex.refl _) hzl (ev_var rfl)))) (fun h => by cases h) (fun _ H9 e9 => ?_)
      refine q_asg ev_c fun H10 e10 => ?_
      refine q_asg (ev_op ev_c (ev_op (cc 16 ((e38.trans e9).trans e10) rfl rfl ev_c) ev_c (rv_I (by show (0 : Int) < 12; decide))) rv_I0) fun H11 e11 => ?_
      generalize 1 + cellv ts 16 % 12 = ct
      have e3b := ((e38.trans e9).trans e10).trans e11
      refine q_forR1 (n := 12) (ea_cons ev_c ea_nil) ⟨by decide, by decide⟩ (fun i σ' H' => ∃ (wd : Int) (y6 y7 : Option V), σ' = [some (.ref a), some (.ref p), some (.int (n : Int)), some (.str z), some (.int wd), some (.int ct), y6, y7, none, none, none] ∧ Ex H11 H')
        (fun H12 e12 => ⟨0, none, none, rfl, e12⟩) ?_ ?_
      · rintro i σ' H' hi ⟨wd, y6, y7, rfl, e0⟩
        have f0 := e3b.trans e0
        refine q_asg (ev_op (ev_cb (ea_cons (cc (18 + i) f0 (by show (18 : Int) + (i : Int) = ((18 + i : Nat) : Int); omega) rfl (ev_op ev_c (ev_var rfl) rv_I0)) ea_nil) (fun H1 _ Q q => .inl ⟨_, rfl, q _ (Ex.refl _)⟩)) ev_c (rv_I (by show (0 : Int) < 40; decide))) fun H12 e12 => ?_
        refine q_cut (M := fun σ2 H2 => ∃ dg : Int, σ2 = [some (.ref a), some (.ref p), some (.int (n : Int)), some (.str z), some (.int wd), some (.int ct), some (.int (i : Int)), some (.int dg), none, none, none] ∧ Ex H11 H2) ?_ ?_
        · refine s_when (et_and (et_test (ev_op (ev_var rfl) (ev_var rfl) rv_I0)) (fun _ => et_test (ev_op (ev_op (cc 17 (f0.trans e12) rfl rfl ev_c) ev_c (rv_I (by show (0 : Int) < 2; decide))) ev_c (rv_eq rfl)))) (fun _ H13 e13 => ?_) (fun _ H13 e13 => ⟨_, rfl, (e0.trans e12).trans e13⟩)
          exact s_asg ev_c fun H14 e14 => ⟨_, rfl, ((e0.trans e12).trans e13).trans e14⟩
        · rintro σ2 H2 ⟨dg, rfl, f1⟩
          refine s_when (et_or (et_test (ev_op (ev_var rfl) ev_c rv_I0)) (fun _ => et_test (ev_op (ev_op (cc 17 (e3b.trans f1) rfl rfl ev_c) ev_c (rv_I (by show (0 : Int) < 9; decide))) ev_c (rv_eq rfl)))) (fun _ H13 e13 => ?_) (fun _ H13 e13 => ⟨_, _, _, rfl, f1.trans e13⟩)
          exact s_asg (ev_op (ev_op (ev_var rfl) ev_c (rv_I (.inr ⟨by decide, by decide⟩))) (ev_var rfl) rv_I0) fun H14 e14 => ⟨_, _, _, rfl, (f1.trans e13).trans e14⟩
      · rintro σ' H' ⟨wd, y6, y7, rfl, e0⟩
        have e8' := ((e9.trans e10).trans e11).trans e0
        refine q_asg (ev_call (vs := [.str z]) (z := dueV z) (ea_cons (ev_var rfl) ea_nil) (fun H1 e1 Q' q' E' => ⟨z, rfl, hzl, fun h => by
          rw [due_yes h] at q'
          exact q', fun h => by
          rw [due_no h] at q'
          exact q'⟩)) fun H12 e12 => ?_
        refine q_cut (M := fun σ2 H2 => ∃ d : Int, σ2 = [some (.ref a), some (.ref p), some (.int (n : Int)), some (.str z), some (.int wd), some (.int ct), y6, y7, some (.int d), none, none] ∧ Ex H8 H2) ?_ ?_
        · by_cases hN : Nm z
          · rw [due_yes hN]
            exact s_when (b := false) (et_is (et_test (ev_op (ev_var rfl) ev_c rv_isN)) (decide_eq_false fun e => by cases e)) (fun h => by cases h) (fun _ H13 e13 => ⟨_, rfl, (e8'.trans e12).trans e13⟩)
          · rw [due_no hN]
            exact s_when (b := true) (et_is (et_test (ev_op (ev_var rfl) ev_c rv_isN)) (decide_eq_true rfl)) (fun _ H13 e13 => s_asg (ev_var rfl) fun H14 e14 => ⟨_, rfl, ((e8'.trans e12).trans e13).trans e14⟩) (fun h => by cases h)
        · rintro σ2 H2 ⟨d, rfl, f1⟩
          refine q_forNLn (xs := [.int wd, .int d, .int (d + 1), .int (d - 1), .int (40 ^ 11 - 1), .int (40 ^ 11), .int 0, .int (wd / 40)]) (el_lst (ea_cons (ev_var rfl) (ea_cons (ev_var rfl) (ea_cons (ev_op (ev_var rfl) ev_c rv_I0) (ea_cons (ev_op (ev_var rfl) ev_c rv_I0) (ea_cons (ev_op (ev_op ev_c ev_c (rv_I ⟨by decide, by decide, by decide⟩)) ev_c rv_I0) (ea_cons (ev_op ev_c ev_c (rv_I ⟨by decide, by decide, by decide⟩)) (ea_cons ev_c (ea_cons (ev_op (ev_var rfl) ev_c (rv_I ⟨by decide, by decide⟩)) ea_nil)))))))) (by simp))
            (fun pp i σ' H' => ∃ y9 y10 : Option V, σ' = [some (.ref a), some (.ref p), some (.int (n : Int)), some (.str z), some (.int wd), some (.int ct), y6, y7, some (.int d), y9, y10] ∧ Ex H2 H' ∧ H' pp = some (.lst [.int wd, .int d, .int (d + 1), .int (d - 1), .int (40 ^ 11 - 1), .int (40 ^ 11), .int 0, .int (wd / 40)]))
            (fun pp H15 hpp e15 h15 => ⟨none, none, rfl, e15, h15⟩) (fun pp i σ' H' _ ⟨_, _, _, _, h⟩ => sq_of h) ?_ ?_
          · rintro pp i x σ' H' hx ⟨y9, y10, rfl, g1, g2⟩
            have hxi : ∃ y : Int, x = .int y := by
              have hm2 := List.mem_of_getElem? hx
              simp only [List.mem_cons, List.not_mem_nil, or_false] at hm2
              rcases hm2 with h | h | h | h | h | h | h | h <;> exact ⟨_, h⟩
            obtain ⟨y, rfl⟩ := hxi
            refine q_when (b := false) (et_not (et_B (ev_call (vs := [.int y]) (z := .bl true) (ea_cons (ev_var rfl) ea_nil) (fun H1 e1 Q' q' E' => ⟨y, rfl, t8.mono ((f1.trans g1).trans e1), q'⟩)))) (fun h => by cases h) (fun _ H5 k5 => ?_)
            refine q_asg (ev_call (vs := [.int y]) (z := backV y) (ea_cons (ev_var rfl) ea_nil) (fun H1 e1 Q' q' E' => ⟨y, rfl, fun u hu hw => by
              rw [back_yes hu hw] at q'
              exact q', fun h => by
              rw [back_no h] at q'
              exact q'⟩)) fun H6 k6 => ?_
            have k7 := (g1.trans k5).trans k6
            by_cases hN : ∃ u : Str, Nm u ∧ W u.cps.toList = y
            · obtain ⟨u, hu, hw⟩ := hN
              rw [back_yes hu hw]
              exact s_when (b := false) (et_is (et_and (et_test (ev_op (ev_var rfl) ev_c rv_notN)) (fun _ => et_not (et_B (evrw u (f1.trans k7) (by have := hu.2.1; omega) (ev_var rfl))))) (by simp)) (fun h => by cases h) (fun _ H7 k8 => ⟨_, _, rfl, k7.trans k8, k8 _ _ (k6 _ _ (k5 _ _ g2))⟩)
            · rw [back_no hN]
              exact s_when (b := false) (et_is (et_and (b := false) (et_test (ev_op (ev_var rfl) ev_c rv_notN)) (fun h => by simp at h)) (by simp)) (fun h => by cases h) (fun _ H7 k8 => ⟨_, _, rfl, k7.trans k8, k8 _ _ (k6 _ _ (k5 _ _ g2))⟩)
          · rintro pp σ' H' ⟨y9, y10, rfl, g1, g2⟩
            exact s_ret (evrw z (f1.trans g1) hzl (ev_var rfl)) fun H6 e6 => q H6 (((e03.trans e38).trans (f1.trans g1)).trans e6)
end
end K01

set_option Elab.async false
set_option linter.all false
set_option maxRecDepth 100000
set_option maxHeartbeats 4000000
namespace K01
open PySem PySem.Spec PyProof.Rows L2 Evl LK LT LG LS LQ LX
theorem all_mk {l : PySem.W.OpenLaw} {w : World} {K : PySem.W.Frag} {h : Heap} {mg : Str → Option Value} {fa f1 f2 f3 f4 f5 f6 f7 f8 f9 f10 f11 f12 f13 f14 : Addr} (X : K.In h) (G : h.Ns mainGlobals mg) (hfa : mg "law" = some (.ref fa))
    {od1 an1 od2 an2 od3 an3 od4 an4 od5 an5 od6 an6 od7 an7 od8 an8 od9 an9 od10 an10 od11 an11 od12 an12 od13 an13 od14 an14 : Option Addr} {sl1 sl2 sl3 sl4 sl5 sl6 sl7 sl8 sl9 sl10 sl11 sl12 sl13 sl14 : Array (Option Value)} {oc1 kV1 dc1 pm1 ct1 cd1 oc2 kV2 dc2 pm2 ct2 oc3 kV3 dc3 pm3 ct3 cd3 oc4 kV4 dc4 pm4 ct4 cd4 oc5 kV5 dc5 pm5 ct5 cd5 oc6 kV6 dc6 pm6 ct6 cd6 oc7 kV7 dc7 pm7 ct7 cd7 oc8 kV8 dc8 pm8 ct8 cd8 oc9 kV9 dc9 pm9 ct9 cd9 oc10 kV10 dc10 pm10 ct10 cd10 oc11 kV11 dc11 pm11 ct11 cd11 oc12 kV12 dc12 pm12 ct12 cd12 oc13 kV13 dc13 pm13 ct13 cd13 oc14 kV14 dc14 pm14 ct14 cd14 : Value}
    {c1_ P1_ : Addr} {e1_ : Value} {dd1_ : Option Addr} {vs1_ : Array Value} {sl1_ : Array (Option Value)}
    {tk1 tk2 tk3 : Tok}
    (a1 : PySem.W.nsIn K mainGlobals "is_word" = some (some (.ref f1))) (l1 : K.lookup f1 = some ⟨oc1, od1, .func (PySem.W.fnOf "is_word" "is_word" (defArgs sIw) (defBody sIw) (defScope sIw) .none kV1 dc1 pm1 an1 cd1 ct1), sl1⟩) (c1 : PySem.W.codeIn K cd1 "is_word" = true) (k1 : PySem.W.keepIn K (.ref f1) = true)
    (a2 : PySem.W.nsIn K mainGlobals "is_name" = some (some (.ref f2))) (l2 : K.lookup f2 = some ⟨oc2, od2, .func (PySem.W.fnOf "is_name" "is_name" (defArgs sIs) (defBody sIs) (defScope sIs) .none kV2 dc2 pm2 an2 (.ref c1_) ct2), sl2⟩) (c2 : PySem.W.codeIn K (.ref c1_) "is_name" = true) (k2 : PySem.W.keepIn K (.ref f2) = true)
    (a3 : PySem.W.nsIn K mainGlobals "name_word" = some (some (.ref f3))) (l3 : K.lookup f3 = some ⟨oc3, od3, .func (PySem.W.fnOf "name_word" "name_word" (defArgs sWord) (defBody sWord) (defScope sWord) .none kV3 dc3 pm3 an3 cd3 ct3), sl3⟩) (c3 : PySem.W.codeIn K cd3 "name_word" = true) (k3 : PySem.W.keepIn K (.ref f3) = true)
    (a4 : PySem.W.nsIn K mainGlobals "word_name" = some (some (.ref f4))) (l4 : K.lookup f4 = some ⟨oc4, od4, .func (PySem.W.fnOf "word_name" "word_name" (defArgs sWn) (defBody sWn) (defScope sWn) .none kV4 dc4 pm4 an4 cd4 ct4), sl4⟩) (c4 : PySem.W.codeIn K cd4 "word_name" = true) (k4 : PySem.W.keepIn K (.ref f4) = true)
    (a5 : PySem.W.nsIn K mainGlobals "_law_tape" = some (some (.ref f5))) (l5 : K.lookup f5 = some ⟨oc5, od5, .func (PySem.W.fnOf "_law_tape" "_law_tape" (defArgs sTape) (defBody sTape) (defScope sTape) .none kV5 dc5 pm5 an5 cd5 ct5), sl5⟩) (c5 : PySem.W.codeIn K cd5 "_law_tape" = true) (k5 : PySem.W.keepIn K (.ref f5) = true)
    (a6 : PySem.W.nsIn K mainGlobals "_law_at" = some (some (.ref f6))) (l6 : K.lookup f6 = some ⟨oc6, od6, .func (PySem.W.fnOf "_law_at" "_law_at" (defArgs sAt) (defBody sAt) (defScope sAt) .none kV6 dc6 pm6 an6 cd6 ct6), sl6⟩) (c6 : PySem.W.codeIn K cd6 "_law_at" = true) (k6 : PySem.W.keepIn K (.ref f6) = true)
    (a7 : PySem.W.nsIn K mainGlobals "_law_char" = some (some (.ref f7))) (l7 : K.lookup f7 = some ⟨oc7, od7, .func (PySem.W.fnOf "_law_char" "_law_char" (defArgs sChar) (defBody sChar) (defScope sChar) .none kV7 dc7 pm7 an7 cd7 ct7), sl7⟩) (c7 : PySem.W.codeIn K cd7 "_law_char" = true) (k7 : PySem.W.keepIn K (.ref f7) = true)
    (a8 : PySem.W.nsIn K mainGlobals "_law_word" = some (some (.ref f8))) (l8 : K.lookup f8 = some ⟨oc8, od8, .func (PySem.W.fnOf "_law_word" "_law_word" (defArgs sLw) (defBody sLw) (defScope sLw) .none kV8 dc8 pm8 an8 cd8 ct8), sl8⟩) (c8 : PySem.W.codeIn K cd8 "_law_word" = true) (k8 : PySem.W.keepIn K (.ref f8) = true)
    (a9 : PySem.W.nsIn K mainGlobals "_law_name" = some (some (.ref f9))) (l9 : K.lookup f9 = some ⟨oc9, od9, .func (PySem.W.fnOf "_law_name" "_law_name" (defArgs sLn) (defBody sLn) (defScope sLn) .none kV9 dc9 pm9 an9 cd9 ct9), sl9⟩) (c9 : PySem.W.codeIn K cd9 "_law_name" = true) (k9 : PySem.W.keepIn K (.ref f9) = true)
    (a10 : PySem.W.nsIn K mainGlobals "_law_told_word" = some (some (.ref f10))) (l10 : K.lookup f10 = some ⟨oc10, od10, .func (PySem.W.fnOf "_law_told_word" "_law_told_word" (defArgs sTw) (defBody sTw) (defScope sTw) .none kV10 dc10 pm10 an10 cd10 ct10), sl10⟩) (c10 : PySem.W.codeIn K cd10 "_law_told_word" = true) (k10 : PySem.W.keepIn K (.ref f10) = true)
    (a11 : PySem.W.nsIn K mainGlobals "_law_told_name" = some (some (.ref f11))) (l11 : K.lookup f11 = some ⟨oc11, od11, .func (PySem.W.fnOf "_law_told_name" "_law_told_name" (defArgs sTn) (defBody sTn) (defScope sTn) .none kV11 dc11 pm11 an11 cd11 ct11), sl11⟩) (c11 : PySem.W.codeIn K cd11 "_law_told_name" = true) (k11 : PySem.W.keepIn K (.ref f11) = true)
    (a12 : PySem.W.nsIn K mainGlobals "_law_right_word" = some (some (.ref f12))) (l12 : K.lookup f12 = some ⟨oc12, od12, .func (PySem.W.fnOf "_law_right_word" "_law_right_word" (defArgs sRw) (defBody sRw) (defScope sRw) .none kV12 dc12 pm12 an12 cd12 ct12), sl12⟩) (c12 : PySem.W.codeIn K cd12 "_law_right_word" = true) (k12 : PySem.W.keepIn K (.ref f12) = true)
    (a13 : PySem.W.nsIn K mainGlobals "_law_right_name" = some (some (.ref f13))) (l13 : K.lookup f13 = some ⟨oc13, od13, .func (PySem.W.fnOf "_law_right_name" "_law_right_name" (defArgs sRn) (defBody sRn) (defScope sRn) .none kV13 dc13 pm13 an13 cd13 ct13), sl13⟩) (c13 : PySem.W.codeIn K cd13 "_law_right_name" = true) (k13 : PySem.W.keepIn K (.ref f13) = true)
    (a14 : PySem.W.nsIn K mainGlobals "law" = some (some (.ref f14))) (l14 : K.lookup f14 = some ⟨oc14, od14, .func (PySem.W.fnOf "law" "law" (defArgs sLaw) (defBody sLaw) (defScope sLaw) .none kV14 dc14 pm14 an14 cd14 ct14), sl14⟩) (c14 : PySem.W.codeIn K cd14 "law" = true) (k14 : PySem.W.keepIn K (.ref f14) = true)
    (g1 : PySem.W.nsIn K mainGlobals "ALPHABET" = some (some (.str K01.alpha tk1)))
    (g2 : PySem.W.nsIn K mainGlobals "BASE" = some (some (.int 40 tk2)))
    (g3 : PySem.W.nsIn K mainGlobals "LONGEST_NAME" = some (some (.int 11 tk3)))
    (z1 : PySem.W.nsIn K mainGlobals "len" = some none)
    (z2 : PySem.W.nsIn K mainGlobals "range" = some none)
    (z3 : PySem.W.nsIn K mainGlobals "abs" = some none)
    (z4 : PySem.W.nsIn K mainGlobals "int" = some none)
    (z5 : PySem.W.nsIn K mainGlobals "max" = some none)
    (z6 : PySem.W.nsIn K mainGlobals "isinstance" = some none)
    (z7 : PySem.W.nsIn K mainGlobals "bool" = some none)
    (z8 : PySem.W.nsIn K mainGlobals "str" = some none)
    (z9 : PySem.W.nsIn K mainGlobals "all" = some none)
    (z10 : PySem.W.nsIn K mainGlobals "any" = some none)
    (z11 : PySem.W.nsIn K mainGlobals "divmod" = some none)
    (t1 : K.lookup c1_ = some ⟨e1_, dd1_, .fields vs1_, sl1_⟩) (v1 : vs1_[11]? = some (.ref P1_)) (u1 : K.lookup P1_ = none)
    {CB CL CN : Addr}
    (gB : PySem.W.nsIn K mainGlobals "BadName" = some (some (.ref CB)))
    (xB : PySem.W.excIn K CB LX.veTail "ValueError.__new__" = true)
    (kB : PySem.W.keepIn K (.ref CB) = true)
    (bB : PySem.W.subIn K (.ref CB) (.type "BaseException") = some true)
    (tB : PySem.W.typeIn K (.ref CB) = some (.type "type"))
    (dB : PySem.W.hasDictIn K CB = true)
    (hgB : PySem.W.findIn K (.ref CB) "__getattribute__" = some (some (.builtin "BaseException.__getattribute__")))
    (hkB : PySem.W.findIn K (.ref CB) "__getattr__" = some none)
    (haB : PySem.W.findIn K (.ref CB) "__class__" = some (some (.builtin "object.__class__")))
    (hmB : PySem.W.mroIn K CB (.type "object") = some true)
    (gL : PySem.W.nsIn K mainGlobals "LaminaError" = some (some (.ref CL)))
    (xL : PySem.W.excIn K CL LX.veTail "ValueError.__new__" = true)
    (kL : PySem.W.keepIn K (.ref CL) = true)
    (bL : PySem.W.subIn K (.ref CL) (.type "BaseException") = some true)
    (tL : PySem.W.typeIn K (.ref CL) = some (.type "type"))
    (dL : PySem.W.hasDictIn K CL = true)
    (gN : PySem.W.nsIn K mainGlobals "NotValid" = some (some (.ref CN)))
    (xN : PySem.W.excIn K CN LX.veTail "ValueError.__new__" = true)
    (kN : PySem.W.keepIn K (.ref CN) = true)
    (bN : PySem.W.subIn K (.ref CN) (.type "BaseException") = some true)
    (tN : PySem.W.typeIn K (.ref CN) = some (.type "type"))
    (dN : PySem.W.hasDictIn K CN = true)
    (hn : PySem.W.specialIn K (.builtin "object.__class__") "__get__" = some (some (.builtin "getset_descriptor.__get__")))
    (ht : PySem.W.takesIn K (.builtin "object.__class__") = some true)
    (sBB : PySem.W.subIn K (.ref CB) (.ref CB) = some true)
    (sBL : PySem.W.subIn K (.ref CB) (.ref CL) = some true)
    (sBN : PySem.W.subIn K (.ref CB) (.ref CN) = some false)
    : ∃ (fd : FuncData) (cs : List (Str × Addr × Addr)) (sp : Sp), (∀ p ∈ cs, p.1 ∈ (["is_name"] : List Str) ∧ PySem.W.tabIn K p.1 = some p.2 ∧ K.lookup p.2.2 = none) ∧ (∀ (s : Shared) (v : Value), BindsTo s fd ⟨[v], []⟩ [("script", v)]) ∧ (∀ (H : Hp) (a : Addr) (ns : List Int), ns.length ≤ 63 → (∀ p ∈ cs, LT.Tab H p.2.2) → SqL K H a (ns.map V.int) → ∀ Q : VK, (∀ H', Ex H H' → Q (.bl true) H') → sp [.ref a] H Q fun _ _ _ => False) ∧ ∀ base : Heap, K.In base → base.Ns mainGlobals mg → (∀ p ∈ cs, LamX.TabB base mg p.2.1 p.2.2) → FnOk l.prog w K mg base CX0 6 fa fd ["script"] sp := by
  have e := hfa.symm.trans (PySem.W.mg_of X G a14)
  cases e
  have F1 := fun_mk (st := sIw) l1 c1 k1
  have b1 := F1.binds (ps := ["value"]) fun _ _ _ _ _ _ us hl => match us, hl with | [_], _ => rfl
  have m1 := PySem.W.mg_of X G a1
  have t1' : PySem.W.tabIn K "is_name" = some (c1_, P1_) := LS.tab_mk a2 l2 t1 v1
  have F2 : FunC K "is_name" "is_name" sIs f2 _ c1_ := LS.funC_mk a2 l2 c2 k2 t1'
  have b2 := F2.fun.binds (ps := ["name"]) fun _ _ _ _ _ _ us hl => match us, hl with | [_], _ => rfl
  have m2 := PySem.W.mg_of X G a2
  have F3 := fun_mk (st := sWord) l3 c3 k3
  have b3 := F3.binds (ps := ["name"]) fun _ _ _ _ _ _ us hl => match us, hl with | [_], _ => rfl
  have m3 := PySem.W.mg_of X G a3
  have F4 := fun_mk (st := sWn) l4 c4 k4
  have b4 := F4.binds (ps := ["word"]) fun _ _ _ _ _ _ us hl => match us, hl with | [_], _ => rfl
  have m4 := PySem.W.mg_of X G a4
  have F5 := fun_mk (st := sTape) l5 c5 k5
  have b5 := F5.binds (ps := ["script"]) fun _ _ _ _ _ _ us hl => match us, hl with | [_], _ => rfl
  have m5 := PySem.W.mg_of X G a5
  have F6 := fun_mk (st := sAt) l6 c6 k6
  have b6 := F6.binds (ps := ["tape", "k"]) fun _ _ _ _ _ _ us hl => match us, hl with | [_, _], _ => rfl
  have m6 := PySem.W.mg_of X G a6
  have F7 := fun_mk (st := sChar) l7 c7 k7
  have b7 := F7.binds (ps := ["number"]) fun _ _ _ _ _ _ us hl => match us, hl with | [_], _ => rfl
  have m7 := PySem.W.mg_of X G a7
  have F8 := fun_mk (st := sLw) l8 c8 k8
  have b8 := F8.binds (ps := ["name"]) fun _ _ _ _ _ _ us hl => match us, hl with | [_], _ => rfl
  have m8 := PySem.W.mg_of X G a8
  have F9 := fun_mk (st := sLn) l9 c9 k9
  have b9 := F9.binds (ps := ["word"]) fun _ _ _ _ _ _ us hl => match us, hl with | [_], _ => rfl
  have m9 := PySem.W.mg_of X G a9
  have F10 := fun_mk (st := sTw) l10 c10 k10
  have b10 := F10.binds (ps := ["name"]) fun _ _ _ _ _ _ us hl => match us, hl with | [_], _ => rfl
  have m10 := PySem.W.mg_of X G a10
  have F11 := fun_mk (st := sTn) l11 c11 k11
  have b11 := F11.binds (ps := ["word"]) fun _ _ _ _ _ _ us hl => match us, hl with | [_], _ => rfl
  have m11 := PySem.W.mg_of X G a11
  have F12 := fun_mk (st := sRw) l12 c12 k12
  have b12 := F12.binds (ps := ["name"]) fun _ _ _ _ _ _ us hl => match us, hl with | [_], _ => rfl
  have m12 := PySem.W.mg_of X G a12
  have F13 := fun_mk (st := sRn) l13 c13 k13
  have b13 := F13.binds (ps := ["word"]) fun _ _ _ _ _ _ us hl => match us, hl with | [_], _ => rfl
  have m13 := PySem.W.mg_of X G a13
  have F14 := fun_mk (st := sLaw) l14 c14 k14
  have m14 := PySem.W.mg_of X G a14
  have T : Txt mg tk1 tk2 tk3 := ⟨PySem.W.mg_none_of X G z1, PySem.W.mg_none_of X G z2, PySem.W.mg_none_of X G z3, PySem.W.mg_none_of X G z4, PySem.W.mg_none_of X G z5, PySem.W.mg_none_of X G z6, PySem.W.mg_none_of X G z7, PySem.W.mg_none_of X G z8, PySem.W.mg_none_of X G z9, PySem.W.mg_none_of X G z10, PySem.W.mg_none_of X G z11, PySem.W.mg_of X G g1, PySem.W.mg_of X G g2, PySem.W.mg_of X G g3⟩
  have XB : LX.Xc K mg "BadName" CB := ⟨PySem.W.mg_of X G gB, xB, kB, bB, tB, dB⟩
  have XCB : ExcC K CB := ⟨hgB, hkB, bB, dB, haB, hn, ht, hmB⟩
  have XL : LX.Xc K mg "LaminaError" CL := ⟨PySem.W.mg_of X G gL, xL, kL, bL, tL, dL⟩
  have XN : LX.Xc K mg "NotValid" CN := ⟨PySem.W.mg_of X G gN, xN, kN, bN, tN, dN⟩
  refine ⟨PySem.W.fnOf "law" "law" (defArgs sLaw) (defBody sLaw) (defScope sLaw) .none kV14 dc14 pm14 an14 cd14 ct14, [("is_name", c1_, P1_)], spLaw K P1_, fun p hp => ?_, fun s v => .of_eq rfl, fun H a ns hl hT hS Q q => ⟨a, ns, rfl, hS, hl, hT ("is_name", c1_, P1_) (by simp), q⟩, fun base _ _ hTB => ?_⟩
  · simp only [List.mem_cons, List.not_mem_nil, or_false] at hp
    subst hp
    exact ⟨by simp, t1', u1⟩
  · have B1 : LamX.TabB base mg c1_ P1_ := hTB ("is_name", c1_, P1_) (by simp)
    have GI := ok_is (P := l.prog) (w := w) (base := base) F2 B1 T
    have GW := ok_word F3 F2.fun GI b2 m2 T XB
    have GY := ok_wn F4 F1 b1 m1 F3 GW b3 m3 T XB
    have GTW := ok_tw F10 F3 GW b3 m3 T XB XL XN XCB sBB sBL sBN
    have GTN := ok_tn F11 F4 GY b4 m4 T XB XL XN XCB sBB sBL sBN
    have GRW := ok_rw F12 F8 b8 m8 F10 GTW b10 m10 T
    have GRN := ok_rn F13 F9 b9 m9 F11 GTN b11 m11 T
    exact ok_law F14 F5 F6 F7 F8 F9 F12 GRW F13 GRN T b5 b6 b7 b8 b9 b12 b13 m5 m6 m7 m8 m9 m12 m13
end K01
open PySem PySem.W PyProof.Rows
set_option maxHeartbeats 0 in
theorem PySem.Challenge.cw_laminae_k01_name_words_holds : PySem.Challenge.rw_laminae_k01_name_words.Holds := by
  w_on; o_law; k_head; (case hw => w_witness2)
  k_fill
  refine LT.walk_tabs (l := PySem.Challenge.rw_laminae_k01_name_words) (n := 63) (k := 6) (x := "script") ["is_name"] rfl (by decide) rfl ⟨rfl, by decide, by decide⟩ (by decide +kernel) (fun w h Y => PySem.W.kIn_of Y) ?F
  case F =>
    intro w mg fa h KX G hmg
    refine' K01.all_mk KX G hmg ?a1 ?l1 ?c1 ?k1 ?a2 ?l2 ?c2 ?k2 ?a3 ?l3 ?c3 ?k3 ?a4 ?l4 ?c4 ?k4 ?a5 ?l5 ?c5 ?k5 ?a6 ?l6 ?c6 ?k6 ?a7 ?l7 ?c7 ?k7 ?a8 ?l8 ?c8 ?k8 ?a9 ?l9 ?c9 ?k9 ?a10 ?l10 ?c10 ?k10 ?a11 ?l11 ?c11 ?k11 ?a12 ?l12 ?c12 ?k12 ?a13 ?l13 ?c13 ?k13 ?a14 ?l14 ?c14 ?k14 ?g1 ?g2 ?g3 ?z1 ?z2 ?z3 ?z4 ?z5 ?z6 ?z7 ?z8 ?z9 ?z10 ?z11 ?t1 ?v1 ?u1 ?gB ?xB ?kB ?bB ?tB ?dB ?hgB ?hkB ?haB ?hmB ?gL ?xL ?kL ?bL ?tL ?dL ?gN ?xN ?kN ?bN ?tN ?dN ?hn ?ht ?sBB ?sBL ?sBN
    (case a1 => k_is); (case l1 => k_is); (case c1 => k_is); (case k1 => k_is); (case a2 => k_is); (case l2 => k_is); (case c2 => k_is); (case k2 => k_is); (case a3 => k_is); (case l3 => k_is); (case c3 => k_is); (case k3 => k_is); (case a4 => k_is); (case l4 => k_is); (case c4 => k_is); (case k4 => k_is); (case a5 => k_is); (case l5 => k_is); (case c5 => k_is); (case k5 => k_is); (case a6 => k_is); (case l6 => k_is); (case c6 => k_is); (case k6 => k_is); (case a7 => k_is); (case l7 => k_is); (case c7 => k_is); (case k7 => k_is); (case a8 => k_is); (case l8 => k_is); (case c8 => k_is); (case k8 => k_is); (case a9 => k_is); (case l9 => k_is); (case c9 => k_is); (case k9 => k_is); (case a10 => k_is); (case l10 => k_is); (case c10 => k_is); (case k10 => k_is); (case a11 => k_is); (case l11 => k_is); (case c11 => k_is); (case k11 => k_is); (case a12 => k_is); (case l12 => k_is); (case c12 => k_is); (case k12 => k_is); (case a13 => k_is); (case l13 => k_is); (case c13 => k_is); (case k13 => k_is); (case a14 => k_is); (case l14 => k_is); (case c14 => k_is); (case k14 => k_is); (case g1 => k_is); (case g2 => k_is); (case g3 => k_is); (case z1 => k_is); (case z2 => k_is); (case z3 => k_is); (case z4 => k_is); (case z5 => k_is); (case z6 => k_is); (case z7 => k_is); (case z8 => k_is); (case z9 => k_is); (case z10 => k_is); (case z11 => k_is); (case t1 => k_is); (case v1 => rfl); (case u1 => rfl); (case gB => k_is); (case xB => k_exc); (case kB => k_is); (case bB => k_is); (case tB => k_is); (case dB => k_is); (case hgB => k_is); (case hkB => k_is); (case haB => k_is); (case hmB => k_is); (case gL => k_is); (case xL => k_exc); (case kL => k_is); (case bL => k_is); (case tL => k_is); (case dL => k_is); (case gN => k_is); (case xN => k_exc); (case kN => k_is); (case bN => k_is); (case tN => k_is); (case dN => k_is); (case hn => k_is); (case ht => k_is); (case sBB => k_is); (case sBL => k_is); (case sBN => k_is)

