import PyProof.Rows.All
import Wide.All
import OpenK.AllK
import Wide.FinOn
import HandS.ForMost
import HandS.Evl
import HandS.TupLe
import HandS.IsInst
import HandS.AnyAll
import HandS.EndOwn
import HandS.StrMore
import HandS.Conv
import HandS.Sort
import HandS.Star
import HandS.WordsExc
import PySem.Challenge.RW_laminae_k03_words
set_option Elab.async false
set_option linter.all false
set_option maxRecDepth 100000
set_option maxHeartbeats 4000000
namespace LT
open PySem PySem.Spec PyProof.Rows L2 Evl
/-! ### the table of a code object: whatever it holds -/
def TabPhi (P : Addr) (h : Heap) : Prop := ∃ ps : Array Value, h.get? P = some { cls := .none, data := .fields ps } ∧ TriplesOk ps.toList
def Tab (H : Hp) (P : Addr) : Prop := H P = some (.ext (TabPhi P))
theorem tab_stab (P : Addr) : ∀ h1 h2 : Heap, TabPhi P h1 → (∀ o, h1.get? P = some o → h2.get? P = some o) → TabPhi P h2 := fun _ _ ⟨ps, e, t⟩ k => ⟨ps, k _ e, t⟩
theorem tab_ok {p : Program} {w : World} {H : Hp} {h : Heap} {P : Addr} (t : TabPhi P h) : ObjOk p w H h P (.ext (TabPhi P)) := ⟨t, ⟨_, t.choose_spec.1⟩, tab_stab P⟩
theorem Tab.of_ok {p : Program} {w : World} {H : Hp} {h : Heap} {P : Addr} (t : Tab H P) (ok : HOk p w H h) : TabPhi P h := (ok P _ t).1
theorem Tab.mono {H H' : Hp} {P : Addr} (e : Ex H H') (t : Tab H P) : Tab H' P := e _ _ t
open Classical in
def extH (Ps : List Addr) (H : Hp) : Hp := fun b => if b ∈ Ps then some (.ext (TabPhi b)) else H b
theorem extH_in {Ps : List Addr} {H : Hp} {b : Addr} (h : b ∈ Ps) : extH Ps H b = some (.ext (TabPhi b)) := if_pos h
theorem extH_out {Ps : List Addr} {H : Hp} {b : Addr} (h : b ∉ Ps) : extH Ps H b = H b := if_neg h
/-- a promise over heaps whose tables are opaque, for a caller whose tables are all empty -/
def spExt (Ps : List Addr) (sp : Sp) : Sp := fun vs H Q E => (∀ p ∈ Ps, H p = some (.tbl #[])) ∧ sp vs (extH Ps H) (fun v H' => (∀ p ∈ Ps, Tab H' p) ∧ ∀ H2, Q v H2) E
section
variable {P : Program} {w : World} {K : PySem.W.Frag} {mg : Str → Option Value} {base : Heap}
theorem ok_ext {Ps : List Addr} {k : Nat} {f : Addr} {fd : FuncData} {ps : List Str} {sp : Sp} (F : FnOk P w K mg base CX0 k f fd ps sp) : FnOk P w K mg base CX0 k f fd ps (spExt Ps sp) := by
  refine ⟨fun vs H Q E h => F.len _ _ _ _ h.2, fun A outer s H args us vs Q E hr e0 hb hv ⟨hT, hs⟩ => ?_⟩
  have none_ : ∀ {b : Addr}, H b = none → extH Ps H b = none := fun {b} n => by
    rw [extH_out fun hb => by rw [hT b hb] at n; cases n]
    exact n
  have same : ∀ {b : Addr} {u : HO}, H b = some u → (∀ q, u ≠ .tbl q) → extH Ps H b = some u := fun {b u} e n => by
    rw [extH_out fun hb => by rw [hT b hb] at e; exact n _ (Option.some.inj e).symm]
    exact e
  have ok1 : HOk P w (extH Ps H) s.heap := fun b u e => by
    by_cases hb : b ∈ Ps
    · rw [extH_in hb] at e
      cases e
      exact tab_ok ⟨#[], e0.hok b _ (hT b hb), by simp [TriplesOk]⟩
    · rw [extH_out hb] at e
      exact (e0.hok b u e).stay (fun _ _ _ q => q) (fun c q => same q (fun z y => by cases y)) fun c xs q => same q (fun z y => by cases y)
  have e1 : Env0 P w K mg base A outer s (extH Ps H) := ⟨e0.frames, e0.mod, fun b o e => ⟨(e0.bs b o e).1, none_ (e0.bs b o e).2⟩, e0.bsz, e0.funs, fun b hb => none_ (e0.frf b hb), ok1, e0.bare⟩
  refine codeAny_mono (F.run A outer s (extH Ps H) args us vs _ E hr e1 hb hv hs) fun r s' h => ?_
  cases r with
  | error e => exact h.elim
  | ok fl =>
    cases fl with
    | next => exact h
    | brk => exact h
    | cont => exact h
    | ret u =>
      obtain ⟨v, H', os, bare, un, ok', rv, hTab, q⟩ := h
      have more : ∀ p ∈ Ps, TabPhi p s'.heap := fun p hp => (hTab p hp).of_ok ok'
      let H2 : Hp := fun b => if hb : b ∈ Ps then some (.tbl (more b hb).choose) else H' b
      have hin : ∀ {b : Addr} (hb : b ∈ Ps), H2 b = some (.tbl (more b hb).choose) := fun {b} hb => dif_pos hb
      have hout : ∀ {b : Addr}, b ∉ Ps → H2 b = H' b := fun {b} hb => dif_neg hb
      have keepH : ∀ {b : Addr} {u : HO}, H' b = some u → (∀ φ, u ≠ .ext φ) → H2 b = some u := fun {b u} e n => by
        rw [hout fun hb => by rw [hTab b hb] at e; exact n _ (Option.some.inj e).symm]
        exact e
      refine ⟨v, H2, os, bare, ⟨fun b o e n => un.keep b o e (none_ n), fun b o e n => un.slot b o e (none_ n), fun b o e n hx => ?_, un.there, fun b xs e => ?_, fun b o x e => ?_, fun b q e => ?_⟩, fun b y e => ?_, rv, q H2⟩
      · have n' := none_ n
        rw [hout fun hb => by rw [hT b hb] at n; cases n]
        exact un.free b o e n' hx
      · exact keepH (un.tups b xs (same e (fun z y => by cases y))) (fun z y => by cases y)
      · exact keepH (un.frzs b o x (same e (fun z y => by cases y))) (fun z y => by cases y)
      · by_cases hb : b ∈ Ps
        · rw [hT b hb] at e
          cases e
          exact ⟨(more b hb).choose, by rw [hin hb, Array.empty_append]⟩
        · obtain ⟨m, z⟩ := un.tbls b q (by rw [extH_out hb]; exact e)
          exact ⟨m, by rw [hout hb]; exact z⟩
      · by_cases hb : b ∈ Ps
        · rw [hin hb] at e
          cases e
          exact (more b hb).choose_spec.1
        · rw [hout hb] at e
          exact (ok' b y e).stay (fun _ _ _ q => q) (fun c q => keepH q (fun z y => by cases y)) fun c xs q => keepH q (fun z y => by cases y)
end
/-- the law's walk where top-level defs (names) hold generator expressions: their tables are empty at the start -/
theorem walk_tabs {l : PySem.W.OpenLaw} {n k : Nat} {q : Program} {loose : List Str} {XP : (Str → Option Value) → Heap → Prop} {YP : World → Heap → Prop} {d : DefRec} {K : Params → PySem.W.Frag} {x : Str} (names : List Str)
    (hn : l.most = some n) (hn2 : n ≤ sizeLine) (hdf : d.params.defaults = []) (hr : Room k callerA) (hrec : ∀ y ∈ names, ((recsOf q).find? fun e => e.name == y).isSome = true) (hY : ∀ (w : World) (h : Heap), YP w h → (K w.params).In h)
    (F : ∀ (w : World) (mg : Str → Option Value) (fa : Addr) (h : Heap), (K w.params).In h → h.Ns mainGlobals mg → mg d.name = some (.ref fa) →
      ∃ (fd : FuncData) (cs : List (Str × Addr × Addr)) (sp : Sp), (∀ p ∈ cs, p.1 ∈ names ∧ PySem.W.tabIn (K w.params) p.1 = some p.2 ∧ (K w.params).lookup p.2.2 = none) ∧ (∀ (s : Shared) (u : Value), BindsTo s fd ⟨[u], []⟩ [(x, u)]) ∧
        (∀ (H : Hp) (a : Addr) (ns : List Int), ns.length ≤ n → (∀ p ∈ cs, Tab H p.2.2) → SqL (K w.params) H a (ns.map V.int) → ∀ Q : VK, (∀ H', Ex H H' → Q (.bl true) H') → sp [.ref a] H Q fun _ _ _ => False) ∧
        ∀ base : Heap, (K w.params).In base → base.Ns mainGlobals mg → (∀ p ∈ cs, LamX.TabB base mg p.2.1 p.2.2) → FnOk l.prog w (K w.params) mg base CX0 k fa fd [x] sp) :
    PySem.W.WalkO q loose XP YP l.row.toRowW d [] (fun f vs => PySem.call f vs) := by
  refine Att.attach_callB hn hdf fun w s₀ s₁ mg mb fa o pm cd doc a vs ns G Y ho hd hcd hmg hobj hints hlen hbits hg => ?_
  have KX := hY w _ Y
  obtain ⟨fd, cs, sp, hcs, hb, hsp, hF⟩ := F w mg fa _ KX G.T.g hmg
  have two : ∀ p ∈ cs, PySem.W.CodeHd s₁.heap p.2.1 p.2.2 ∧ s₁.heap.get? p.2.2 = some { cls := .none, data := .fields #[] } := fun p hp => by
    obtain ⟨h1, h2, _⟩ := hcs p hp
    obtain ⟨e, he⟩ := Option.isSome_iff_exists.mp (hrec _ h1)
    exact PySem.W.tab_of G.T KX he h2
  have mem : ∀ y ∈ cs.map (fun p => (p.2.1, p.2.2)), ∃ p ∈ cs, p.2 = y := fun y hy => by
    obtain ⟨p, hp, e⟩ := List.mem_map.mp hy
    exact ⟨p, hp, by rw [← e]⟩
  have lim : ∀ b ∈ cs.map (fun p => p.2.2), ∃ p ∈ cs, p.2.2 = b := fun b hb => by
    obtain ⟨p, hp, e⟩ := List.mem_map.mp hb
    exact ⟨p, hp, e⟩
  refine LamX.law_callTs (cs := cs.map fun p => (p.2.1, p.2.2)) (CX := CX0) (sp := spExt (cs.map fun p => p.2.2) sp) KX G.T.g G.T.b G.T.builtins G.T.nolimit hg (fun y hy => ?_) (fun y hy => ?_) (fun y hy => ?_) G.T.bmain hobj hints (Nat.le_trans hlen hn2) hr
    (fun base h1 h2 h3 => ok_ext (hF base h1 h2 fun p hp => h3 (p.2.1, p.2.2) (List.mem_map.mpr ⟨p, hp, rfl⟩))) hb (fun H hH hS => ?_) fun H e s' z => z
  · obtain ⟨p, hp, rfl⟩ := mem y hy
    exact (two p hp).2
  · obtain ⟨p, hp, rfl⟩ := mem y hy
    exact (hcs p hp).2.2
  · obtain ⟨p, hp, rfl⟩ := mem y hy
    exact (two p hp).1
  · refine ⟨fun b hb => ?_, ?_⟩
    · obtain ⟨p, hp, rfl⟩ := lim b hb
      exact hH (p.2.1, p.2.2) (List.mem_map.mpr ⟨p, hp, rfl⟩)
    · have hnt : ∀ p ∈ cs, extH (cs.map fun p => p.2.2) H p.2.2 = some (.ext (TabPhi p.2.2)) := fun p hp => extH_in (List.mem_map.mpr ⟨p, hp, rfl⟩)
      refine hsp _ a ns hlen hnt ?_ _ fun H' e => ⟨fun b hb => ?_, fun _ => rfl⟩
      · rcases hS with (h | ⟨o, h⟩) | h
        · refine .inl (.inl ?_)
          rw [extH_out fun hb => ?_]
          · exact h
          · obtain ⟨p, hp, rfl⟩ := lim a hb
            rw [hH (p.2.1, p.2.2) (List.mem_map.mpr ⟨p, hp, rfl⟩)] at h
            cases h
        · refine .inl (.inr ⟨o, ?_⟩)
          rw [extH_out fun hb => ?_]
          · exact h
          · obtain ⟨p, hp, rfl⟩ := lim a hb
            rw [hH (p.2.1, p.2.2) (List.mem_map.mpr ⟨p, hp, rfl⟩)] at h
            cases h
        · exact .inr h
      · obtain ⟨p, hp, rfl⟩ := lim b hb
        exact e _ _ (hnt p hp)
end LT

set_option Elab.async false
set_option linter.all false
set_option maxRecDepth 100000
set_option maxHeartbeats 4000000
namespace LG
open PySem PySem.Spec PyProof.Rows L2 Evl LT
/-! ### generator expressions whose elements leave everything as it stands -/
theorem kp_tok (s : Shared) (k : Nat) : Keeps s { s with toks := k } := ⟨s.heap, k, rfl, fun _ _ e => e⟩
theorem kp_refl (s : Shared) : Keeps s s := kp_tok s s.toks
theorem kp_trans {s s1 s2 : Shared} (a : Keeps s s1) (b : Keeps s1 s2) : Keeps s s2 := by
  obtain ⟨h1, t1, rfl, k1⟩ := a
  obtain ⟨h2, t2, rfl, k2⟩ := b
  exact ⟨h2, t2, rfl, fun c o e => k2 c o (k1 c o e)⟩
theorem kp_at {s s1 : Shared} (a : Keeps s s1) : ∀ b o, s.heap.get? b = some o → s1.heap.get? b = some o := by
  obtain ⟨h1, t1, rfl, k1⟩ := a
  exact k1
def but (P : Addr) (H : Hp) : Hp := fun b => if b = P then none else H b
theorem but_ne {P b : Addr} {H : Hp} (h : b ≠ P) : but P H b = H b := if_neg h
/-- in the frame of a generator expression, at one turn: its name x holds u -/
structure Fc (X : Cx) (σ : L2.St) (H : Hp) (P : Addr) (scope : Scope) (x : Str) (u : Value) (cenv : Env) (A' : Around) (s₂ : Shared) (m₂ : Str → Option Value) : Prop where
  hd : A'.handled = none
  dp : A'.depth ≤ X.A.depth + 1
  un : A'.units ≤ X.A.units + 8
  sc : cenv.scope = scope
  gl : cenv.globals = mainGlobals
  bi : cenv.builtins = builtinsNs
  ns : s₂.heap.Ns cenv.locals m₂
  mx : m₂ x = some u
  base : ∀ b o, X.base.get? b = some o → s₂.heap.get? b = some o
  md : L2.Mod X.K X.mg X.base
  hok : HOk X.prog X.w (but P H) s₂.heap
  cap : ∀ (i : Nat) (y : Str) (v : V), X.N[i]? = some y → σ[i]? = some (some v) → (X.env.kindOf y = some .cell ∨ X.env.kindOf y = some .free) → scope.names.lookup y = some .free → ∃ r c, RelV v r ∧ cenv.cells.lookup y = some c ∧ s₂.heap.IsCell c (some r)
section
variable {X : Cx} {σ : L2.St} {H : Hp} {P : Addr} {scope : Scope} {x : Str} {u : Value} {cenv : Env} {A' : Around} {s₂ s₃ : Shared} {m₂ : Str → Option Value}
theorem Fc.keeps (F : Fc X σ H P scope x u cenv A' s₂ m₂) (k : Keeps s₂ s₃) : Fc X σ H P scope x u cenv A' s₃ m₂ :=
  have k' := kp_at k
  ⟨F.hd, F.dp, F.un, F.sc, F.gl, F.bi, (let ⟨o, es, ep, e, r⟩ := F.ns; ⟨o, es, ep, k' _ _ e, r⟩), F.mx, fun b o e => k' b o (F.base b o e), F.md, F.hok.kept k', fun i y v h1 h2 h3 h4 => by
    obtain ⟨r, c, a1, a2, o, a3, a4⟩ := F.cap i y v h1 h2 h3 h4
    exact ⟨r, c, a1, a2, o, k' _ _ a3, a4⟩⟩
theorem Fc.kin (F : Fc X σ H P scope x u cenv A' s₂ m₂) : X.K.In s₂.heap := F.md.kin.keeps F.base
theorem Fc.list (F : Fc X σ H P scope x u cenv A' s₂ m₂) (hT : Tab H P) {a : Addr} {xs : List V} (h : SqL X.K H a xs) : ∃ its : List Value, Vals xs its ∧ PlainL s₂.heap a its.toArray ∧ xs.length ≤ sizeLine := by
  have rd : ∀ {o : HO}, H a = some o → (∀ φ, o ≠ .ext φ) → but P H a = some o := fun {o} e n => by
    rw [but_ne fun z => by rw [z, hT] at e; exact n _ (Option.some.inj e).symm]
    exact e
  rcases h with (h | ⟨o, h⟩) | ⟨o, its, n, hk, hc, hd, hs, hz, r⟩
  · obtain ⟨z, its, n, r, e⟩ := F.hok a _ (rd h (fun φ z => by cases z))
    exact ⟨its, r, ⟨_, n, e, rfl, rfl, rfl⟩, z⟩
  · obtain ⟨_, z, its, n, r, e⟩ := F.hok a _ (rd h (fun φ z => by cases z))
    exact ⟨its, r, ⟨_, n, e, rfl, rfl, rfl⟩, z⟩
  · refine ⟨its.toList, r, ⟨o, n, F.kin a o hk, hc, hd, by simpa using hs⟩, ?_⟩
    have e := r.length
    simp only [Array.length_toList] at e
    omega
theorem Fc.tuple (F : Fc X σ H P scope x u cenv A' s₂ m₂) (hT : Tab H P) {a : Addr} {xs : List V} (h : SqT X.K H a xs) : ∃ its : List Value, Vals xs its ∧ IsTup s₂.heap a its.toArray ∧ xs.length ≤ sizeLine := by
  have rd : ∀ {o : HO}, H a = some o → (∀ φ, o ≠ .ext φ) → but P H a = some o := fun {o} e n => by
    rw [but_ne fun z => by rw [z, hT] at e; exact n _ (Option.some.inj e).symm]
    exact e
  rcases h with (h | ⟨o, h⟩) | ⟨o, its, n, hk, hc, hs, hz, r⟩
  · obtain ⟨z, its, r, p⟩ := F.hok a _ (rd h (fun φ z => by cases z))
    exact ⟨its, r, p, z⟩
  · obtain ⟨_, z, its, r, p⟩ := F.hok a _ (rd h (fun φ z => by cases z))
    exact ⟨its, r, p, z⟩
  · refine ⟨its.toList, r, ⟨o, F.kin a o hk, hc, n, by simpa using hs⟩, ?_⟩
    have e := r.length
    simp only [Array.length_toList] at e
    omega
end
/-- the expression has the value z there -/
def QV (X : Cx) (σ : L2.St) (H : Hp) (P : Addr) (scope : Scope) (x : Str) (u : Value) (e : Expr) (z : V) : Prop :=
  ∀ (cenv : Env) (A' : Around) (E' : Value → Shared → Prop) (s₂ : Shared) (m₂ : Str → Option Value), Fc X σ H P scope x u cenv A' s₂ m₂ → wpAny (model X.prog X.w) A' (eval e cenv) (fun y s₃ => RelV z y ∧ Keeps s₂ s₃) E' s₂
section
variable {X : Cx} {σ : L2.St} {H : Hp} {P : Addr} {scope : Scope} {x : Str} {u : Value} {a b : Expr} {za zb z : V} {pos : Pos}
theorem qv_x (hk : scope.kind = .function) (hl : scope.names.lookup x = some .local) (r : RelV z u) (hd : (x == ("__debug__" : Str)) = false := by decide) : QV X σ H P scope x u (.Name x pos) z := fun cenv A' E' s m F =>
  wpAny_Name (wpAny_loadName_local (by rw [F.sc]; exact hk) (show cenv.scope.names.lookup x = some .local by rw [F.sc]; exact hl) F.ns F.mx ⟨r, kp_refl _⟩) hd
theorem qv_cap {i : Nat} {y : Str} (hk : scope.kind = .function) (hl : scope.names.lookup y = some .free) (hN : X.N[i]? = some y) (hs : σ[i]? = some (some z)) (hv : X.env.kindOf y = some .cell ∨ X.env.kindOf y = some .free := by first | exact Or.inl rfl | exact Or.inr rfl) (hd : (y == ("__debug__" : Str)) = false := by decide) (hcd : (y == ("__classdict__" : Str)) = false := by decide) :
    QV X σ H P scope x u (.Name y pos) z := fun cenv A' E' s m F => by
  obtain ⟨r, c, h1, h2, h3⟩ := F.cap i y z hN hs hv hl
  exact wpAny_Name (wpAny_loadName_free (by rw [F.sc]; exact hk) (show cenv.scope.names.lookup y = some .free by rw [F.sc]; exact hl) h2 h3 ⟨h1, kp_refl _⟩ hcd) hd
theorem qv_glob {y : Str} {r : Value} (hk : scope.kind = .function) (hl : scope.names.lookup y = some .globalImplicit) (hm : X.mg y = some r) (h : RelV z r) (hd : (y == ("__debug__" : Str)) = false := by decide) :
    QV X σ H P scope x u (.Name y pos) z := fun cenv A' E' s m F =>
  Calls.Name_function_global (by rw [F.sc]; exact hk) (show cenv.scope.names.lookup y = some .globalImplicit by rw [F.sc]; exact hl) (Calls.loadGlobal_global (by rw [F.gl]; exact F.md.glob.keeps F.base) hm ⟨h, kp_refl _⟩) hd
theorem qv_int {i : Int} {j : Nat} : QV X σ H P scope x u (.Constant (.int i) j pos) (.int i) := fun cenv A' E' s m F => wpAny_Constant_int ⟨⟨_, rfl⟩, kp_tok _ _⟩
theorem qv_str {i : Str} {j : Nat} : QV X σ H P scope x u (.Constant (.str i) j pos) (.str i) := fun cenv A' E' s m F => Calls.Constant_str ⟨⟨_, rfl⟩, kp_tok _ _⟩
/-- an operation on two values -/
def QR (X : Cx) (σ : L2.St) (H : Hp) (P : Addr) (scope : Scope) (x : Str) (u : Value) (f : Value → Value → Sem Value) (za zb z : V) : Prop :=
  ∀ (cenv : Env) (A' : Around) (E' : Value → Shared → Prop) (s₂ : Shared) (m₂ : Str → Option Value) (v w : Value), Fc X σ H P scope x u cenv A' s₂ m₂ → RelV za v → RelV zb w → wpAny (model X.prog X.w) A' (f v w) (fun y s₃ => RelV z y ∧ Keeps s₂ s₃) E' s₂
theorem qv_two {f : Value → Value → Sem Value} (ha : QV X σ H P scope x u a za) (hb : QV X σ H P scope x u b zb) (hr : QR X σ H P scope x u f za zb z) (cenv : Env) (A' : Around) (E' : Value → Shared → Prop) (s : Shared) (m : Str → Option Value) (F : Fc X σ H P scope x u cenv A' s m) :
    wpAny (model X.prog X.w) A' (eval a cenv) (fun v s₁ => wpAny (model X.prog X.w) A' (eval b cenv) (fun w s₂ => wpAny (model X.prog X.w) A' (f v w) (fun y s₃ => RelV z y ∧ Keeps s s₃) E' s₂) E' s₁) E' s :=
  wpAny_mono (ha cenv A' E' s m F) (fun v s1 r1 => wpAny_mono (hb cenv A' E' s1 m (F.keeps r1.2)) (fun w s2 r2 => wpAny_mono (hr cenv A' E' s2 m v w ((F.keeps r1.2).keeps r2.2) r1.1 r2.1)
    (fun y s3 r3 => ⟨r3.1, kp_trans (kp_trans r1.2 r2.2) r3.2⟩) fun _ _ e => e) fun _ _ e => e) fun _ _ e => e
theorem qv_cmp {op : CmpOp} (hr : QR X σ H P scope x u (compareOp op) za zb z) (ha : QV X σ H P scope x u a za) (hb : QV X σ H P scope x u b zb) (hm : behindInMarks op b = false) : QV X σ H P scope x u (.Compare a [op] [b] pos) z := fun cenv A' E' s m F =>
  wpAny_Compare1 (qv_two ha hb hr cenv A' E' s m F) hm
theorem qv_op {op : Operator} (hr : QR X σ H P scope x u (binaryOp op) za zb z) (ha : QV X σ H P scope x u a za) (hb : QV X σ H P scope x u b zb) : QV X σ H P scope x u (.BinOp a op b pos) z := fun cenv A' E' s m F =>
  wpAny_BinOp (qv_two ha hb hr cenv A' E' s m F)
theorem qv_ix (hr : ∀ value slice, subscripted slice false = subscripted slice false → QR X σ H P scope x u (fun v w => subscriptTail value slice v w) za zb z) (ha : QV X σ H P scope x u a za) (hb : QV X σ H P scope x u b zb) : QV X σ H P scope x u (.Subscript a b pos) z := fun cenv A' E' s m F =>
  Subscript_ (qv_two ha hb (hr a b rfl) cenv A' E' s m F)
theorem qr_add {i j : Int} : QR X σ H P scope x u (binaryOp .Add) (.int i) (.int j) (.int (i + j)) := fun cenv A' E' s m v w F r1 r2 => by
  obtain ⟨t, rfl⟩ := r1
  obtain ⟨t', rfl⟩ := r2
  exact add_int ⟨⟨_, rfl⟩, kp_tok _ _⟩
theorem qr_ne_int {i j : Int} : QR X σ H P scope x u (compareOp .NotEq) (.int i) (.int j) (.bl (i != j)) := fun cenv A' E' s m v w F r1 r2 => by
  obtain ⟨t, rfl⟩ := r1
  obtain ⟨t', rfl⟩ := r2
  exact ne_int ⟨rfl, kp_refl _⟩
theorem qr_le_int {i j : Int} : QR X σ H P scope x u (compareOp .LtE) (.int i) (.int j) (.bl (decide (i ≤ j))) := fun cenv A' E' s m v w F r1 r2 => by
  obtain ⟨t, rfl⟩ := r1
  obtain ⟨t', rfl⟩ := r2
  exact le_int ⟨rfl, kp_refl _⟩
theorem qr_ne_str {i j : Str} : QR X σ H P scope x u (compareOp .NotEq) (.str i) (.str j) (.bl (i.cps.toList != j.cps.toList)) := fun cenv A' E' s m v w F r1 r2 => by
  obtain ⟨t, rfl⟩ := r1
  obtain ⟨t', rfl⟩ := r2
  exact PySem.P.ne_str ⟨rfl, kp_refl _⟩
theorem qr_in_sign {c : Nat} {j : Str} : QR X σ H P scope x u (compareOp .In) (.str ⟨#[c]⟩) (.str j) (.bl (decide (c ∈ j.cps.toList))) := fun cenv A' E' s m v w F r1 r2 => by
  obtain ⟨t, rfl⟩ := r1
  obtain ⟨t', rfl⟩ := r2
  exact PyProof.Rows.in_str ⟨(PySem.StrLaws.found_one j c).symm ▸ rfl, kp_refl _⟩
end

/-! ### what is walked -/
def SrcV (K : PySem.W.Frag) (H : Hp) (v : V) (n : Nat) (xs : Nat → V) : Prop :=
  (∃ (a : Addr) (l : List V), v = .ref a ∧ SqL K H a l ∧ n = l.length ∧ ∀ i, xs i = l.getD i .non) ∨
  (∃ z : Str, v = .str z ∧ n = z.cps.size ∧ ∀ i c, z.cps[i]? = some c → xs i = .str ⟨#[c]⟩) ∨
  (∃ (a : Addr) (lo hi : Int), v = .ref a ∧ H a = some (.rng lo hi) ∧ n = (hi - lo).toNat ∧ -(2 ^ 62) ≤ lo ∧ lo < 2 ^ 62 ∧ -(2 ^ 62) ≤ hi ∧ hi < 2 ^ 62 ∧ ∀ i : Nat, xs i = .int (lo + i))
section
variable {X : Cx} {pins : List (Addr × Obj)} {σ : L2.St} {H : Hp} {s : Shared}
theorem src_iter {v : V} {xv : Value} {n : Nat} {xs : Nat → V} {P : Addr} {Q : Value → Shared → Prop} {E : Value → Shared → Prop} (S : SrcV X.K H v n xs) (I : Inv X pins σ H s) (r : RelV v xv) (hT : Tab H P)
    (h : ∀ (o : Obj) (fp : List Addr) (Pf : Nat → Value → Prop) (St : Nat → Heap → Prop), (∀ i u, Pf i u → i < n → RelV (xs i) u) → (∀ A' : Around, A'.handled = none → Walks X.prog X.w A' s.heap.objs.size fp [s.heap.objs.size] n Pf St) →
      St 0 (s.heap.push o) → (∀ b ∈ fp, b ≤ s.heap.objs.size ∧ b ≠ P) → Q (.ref s.heap.objs.size) { s with heap := s.heap.push o }) : wpAny (model X.prog X.w) X.A (pyIter xv) Q E s := by
  have Plt : P < s.heap.objs.size := Heap.lt_size (hT.of_ok I.hok).choose_spec.1
  have szP : s.heap.objs.size ≠ P := fun z => Nat.lt_irrefl _ (z ▸ Plt : s.heap.objs.size < s.heap.objs.size)
  rcases S with ⟨a, l, rfl, hl, rfl, hx⟩ | ⟨z, rfl, rfl, hx⟩ | ⟨a, lo, hi, rfl, ha, rfl, b1, b2, b3, b4, hx⟩
  · cases r
    obtain ⟨its, rv, pl, _⟩ := I.list hl
    have hal : a < s.heap.objs.size := let ⟨_, e, _⟩ := pl.isList; Heap.lt_size e
    have naP : a ≠ P := fun e => by
      obtain ⟨ps, e1, _⟩ := hT.of_ok I.hok
      obtain ⟨o, n, e2, e3, _, e4⟩ := pl
      rw [e, e1] at e2
      cases e2
      cases e3
    refine wpAny_pyIter_list pl.isList ?_
    have hne : a ≠ s.heap.objs.size := Nat.ne_of_lt hal
    have en : its.toArray.size = l.length := by rw [List.size_toArray]; exact rv.length.symm
    refine h _ [s.heap.objs.size, a] (fun i v => its.toArray[i]? = some v) (fun i h => h.IsListIter s.heap.objs.size a i ∧ h.IsList a its.toArray) (fun i u hu hi => ?_) (fun A' hA => by rw [← en]; exact Walks.list hA _ a hne its.toArray) ⟨⟨_, Heap.get?_push_size _ rfl, rfl, rfl⟩, pl.isList.at fun o e => Heap.get?_push_of_some _ e⟩ fun b hb => ?_
    · obtain ⟨w, ew, rw'⟩ := rv.get (List.getElem?_eq_getElem hi)
      have e2 : its.toArray[i]? = some w := by simpa using ew
      rw [e2] at hu
      cases hu
      rw [hx, List.getD_eq_getElem?_getD, List.getElem?_eq_getElem hi]
      exact rw'
    · rcases List.mem_cons.mp hb with e | hb
      · rw [e]
        exact ⟨Nat.le_refl _, szP⟩
      · rw [List.mem_singleton.mp hb]
        exact ⟨Nat.le_of_lt hal, naP⟩
  · obtain ⟨t, rfl⟩ := r
    refine wpAny_pyIter_str fun o St W hst => ?_
    refine h o [s.heap.objs.size] (SignAt z) St (fun i u hu hi => ?_) W hst fun b hb => ?_
    · obtain ⟨c, t', hc, rfl⟩ := hu
      rw [hx i c hc]
      exact ⟨_, rfl⟩
    · rw [List.mem_singleton.mp hb]
      exact ⟨Nat.le_refl _, szP⟩
  · cases r
    obtain ⟨t, t1, t2, e⟩ := I.hok a _ ha
    refine wpAny_pyIter_range (a := lo) (b := hi) (c := 1) e (small_one b1 b2 b3 b4) ?_
    have en : ((Builtin.Range.rangeSize lo hi 1 : Int)) = (((hi - lo).toNat : Nat) : Int) := by
      unfold Builtin.Range.rangeSize
      simp
      omega
    refine h _ [s.heap.objs.size] (fun i v => ∃ t, v = .int (lo + i * 1) t) _ (fun i u hu hi => ?_) (fun A' hA => Walks.range hA _ lo 1 _) ?_ fun b hb => ?_
    · obtain ⟨t, rfl⟩ := hu
      rw [hx]
      exact ⟨t, by rw [Int.mul_one]⟩
    · rw [en]
      show IsRangeIter _ _ (lo + ((0 : Nat) : Int) * 1) ((((hi - lo).toNat : Nat) : Int) - ((0 : Nat) : Int)) 1
      rw [show lo + ((0 : Nat) : Int) * 1 = lo by simp, show (((hi - lo).toNat : Nat) : Int) - ((0 : Nat) : Int) = (((hi - lo).toNat : Nat) : Int) by simp]
      exact Heap.get?_push_size _ rfl
    · rw [List.mem_singleton.mp hb]
      exact ⟨Nat.le_refl _, szP⟩
end
theorem lookup_mem' {α : Type} : ∀ {l : List (Str × α)} {n : Str} {c : α}, l.lookup n = some c → (n, c) ∈ l
  | [], _, _, h => by cases h
  | (k, v) :: r, n, c, h => by
    rw [List.lookup_cons] at h
    cases hb : n == k with
    | true =>
      rw [hb] at h
      cases h
      rw [beq_iff_eq.mp hb]
      exact List.mem_cons_self
    | false =>
      rw [hb] at h
      exact List.mem_cons_of_mem _ (lookup_mem' h)
theorem walks_lt {prog : Program} {w : World} {A : Around} {I : Addr} {fp wr : List Addr} {n : Nat} {Pf : Nat → Value → Prop} {St : Nat → Heap → Prop} (W : Walks prog w A I fp wr n Pf St) : Walks prog w A I fp wr n (fun i u => i < n ∧ Pf i u) St where
  sub := W.sub
  frame := W.frame
  item := fun i s Q E hi st hQ => W.item i s Q E hi st fun v h' tk hp => hQ v h' tk ⟨hi, hp⟩
  done := W.done
  self := W.self
theorem clo_lookup {cells : List (Str × Addr)} {names : List (Str × NameKind)} {y : Str} {c : Addr} (hy : (y, NameKind.free) ∈ names) (hc : cells.lookup y = some c) : (cloFrom cells names []).lookup y = some c := by
  obtain ⟨c', h⟩ := mem_lookup (cloFrom_has (cells := cells) (acc := []) hy)
  rcases cloFrom_mem (lookup_mem' h) with z | ⟨_, z⟩
  · cases z
  · rw [h, z, hc]
    rfl
section
variable {X : Cx} {pins : List (Addr × Obj)} {σ : L2.St} {H : Hp} {s : Shared}
/-- the table has grown: nothing that is tracked changes -/
theorem inv_grown {P : Addr} {s' : Shared} (I : Inv X pins σ H s) (hT : Tab H P) (k : ∀ b o, b ≠ P → s.heap.get? b = some o → s'.heap.get? b = some o) (hP : TabPhi P s'.heap) (ho : s'.os = s.os) (hg : AllBare s'.gens) : Inv X pins σ H s' := by
  have nN : ∀ b, H b = none → b ≠ P := fun b e z => by
    rw [z, hT] at e
    cases e
  have J := I.step (h' := s'.heap) (H' := H) (g' := s'.gens) (t' := s'.toks) (d' := s'.drawn) (ch := []) (fun b hb => absurd hb (by simp)) (fun b o _ _ _ e n => k b o (nN b n) e) (fun b o _ _ _ e n => ⟨o.slots, k b o (nN b n) e⟩) (fun b o _ _ n => n)
    (fun b o _ e => by
      by_cases hb : b = P
      · rw [hb]
        exact ⟨_, hP.choose_spec.1⟩
      · exact ⟨o, k b o hb e⟩)
    (fun b xs e => e) (fun b o u e => e) (fun b ps e => ⟨#[], by rw [e]; simp⟩) (fun m ⟨ob, es, ep, e, r⟩ => ⟨ob, es, ep, k _ ob (nN _ I.free) e, r⟩)
    (fun b u e => by
      by_cases hb : b = P
      · subst hb
        rw [hT] at e
        cases e
        exact tab_ok hP
      · refine (I.hok b u e).stay (fun d v hd q => k d v ?_ q) (fun d q => q) fun d xs q => q
        rcases hd with z | z
        · rw [z]
          exact hb
        · intro e2
          rw [e2, hT] at z
          cases z) hg
  have e : ({ s with heap := s'.heap, gens := s'.gens, drawn := s'.drawn, toks := s'.toks } : Shared) = s' := by
    cases s'
    cases ho
    rfl
  rw [e] at J
  exact J
/-- the generator g, ready to be walked -/
def RdyG (X : Cx) (pins : List (Addr × Obj)) (σ : L2.St) (H : Hp) (n : Nat) (f : Nat → Bool) (g : Addr) (s5 : Shared) : Prop :=
  ∃ (fp wr : List Addr) (G : Array GenState → Array GenState → Prop) (F : Nat → Value → Prop) (St : Nat → Shared → Prop), WalksS X.prog X.w X.A.in1 g fp wr G n F St ∧ St 0 s5 ∧ TruthOf X.prog X.w X.A.in1 F f ∧ ∀ s', Moved wr G s5 s' → Inv X pins σ H s'
theorem gen_make {c P : Addr} {elt iter : Expr} {x : Str} {px gpos : Pos} {scope : Scope} {te : TE} {k : Nat} {Q' : Value → Shared → Prop} {R : Nat → (Nat → Bool) → Hp → Prop}
    (hr : Room k X.A) (TB : LamX.TabB X.base X.mg c P) (hcode : X.env.code = .ref c) (S : GxR.GenS X.env scope x) (hi : PE X iter te) (hs : ∀ v, genFold iter X.env v = pure v) (I : Inv X pins σ H s)
    (h : te σ H fun v H1 => Tab H1 P ∧ ∃ (n : Nat) (xs : Nat → V) (f : Nat → Bool), SrcV X.K H1 v n xs ∧ (∀ i u, i < n → RelV (xs i) u → QV X σ H1 P scope x u elt (.bl (f i))) ∧ R n f H1)
    (hQ : ∀ n f H1 g s5, R n f H1 → RdyG X pins σ H1 n f g s5 → Q' (.ref g) s5) :
    wpAny (model X.prog X.w) X.A (eval (.GeneratorExp elt [⟨.Name x px, iter, [], 0⟩] scope gpos) X.env) Q' X.xe s := by
  refine wpAny_GeneratorExp_walksQD hr.hd S.co (closure_ok S.free) S.cell S.dot S.loc S.kind hr.depth ?_ hs
  refine thn (hi.run pins s σ H _ I h) fun xv s1 ⟨v, H1, I1, r1, hT, n, xs, f, hsrc, hel, hR⟩ => ?_
  refine src_iter hsrc I1 r1 hT fun o fp Pf St hPf hW hst hfp => ?_
  obtain ⟨ps, hPs, ht⟩ := hT.of_ok I1.hok
  have hPlt : P < s1.heap.objs.size := Heap.lt_size hPs
  have hP2 : (s1.heap.push o).get? P = some { cls := .none, data := .fields ps } := Heap.get?_push_of_some _ hPs
  have cd : PySem.W.CodeHd (s1.heap.push o) c P := TB.code.keeps fun b u e => Heap.get?_push_of_some _ (I1.bk b u e)
  have lim2 : (s1.heap.push o).NoLimit := I1.nolimit.push o
  have hcP : cStatics ≠ P := fun e => by
    obtain ⟨_, ⟨o', es, ep, ho, hd, _⟩, _⟩ := I1.nolimit
    rw [e, hPs] at ho
    cases ho
    cases hd
  have hcl : cStatics < s1.heap.objs.size := let ⟨_, hns, _⟩ := I1.nolimit; hns.lt
  have sz2 : (s1.heap.push o).objs.size = s1.heap.objs.size + 1 := Heap.size_push ..
  have nTb : ∀ b, H1 b = none → b ≠ P := fun b e z => by
    rw [z, hT] at e
    cases e
  -- what is left once the code object is known
  have go : ∀ (code : Value) (h3 : Heap) (tk : Nat) (ps' : Array Value), Heap.ExtBut P (s1.heap.push o) h3 → (s1.heap.push o).objs.size ≤ h3.objs.size → h3.get? P = some { cls := .none, data := .fields ps' } → TriplesOk ps'.toList →
      wpAny (model X.prog X.w) X.A (builtinsFor X.env.globals X.env.builtins) (fun bi s₄ => ∃ I fp wr n₀ Pg St₀ pz F, Value.ref s1.heap.objs.size = .ref I ∧ (∀ A' : Around, A'.handled = none → Walks X.prog X.w A' I fp wr n₀ Pg St₀) ∧ St₀ 0 s₄.heap ∧ (∀ b ∈ fp, b < s₄.heap.objs.size) ∧ s₄.heap.NoLimit ∧ cStatics ∉ wr ∧
          (∀ href : Heap, (∀ b o, s₄.heap.get? b = some o → href.get? b = some o) → QuietGenD X.prog X.w (genEnv scope (cloFrom X.env.cells scope.names []) s₄.heap.objs.size code bi X.env) x [] elt (List.range s₄.heap.objs.size) wr Pg pz F href (X.A.depth + 1) (X.A.units + 8)) ∧
          (∀ a h₅ tk gs, gs.bare = true → s₄.heap.objs.size < a → h₅.objs.size = a + 1 → (∀ b o, s₄.heap.get? b = some o → h₅.get? b = some o) →
            WalksS X.prog X.w X.A.in4 a (a :: s₄.heap.objs.size :: List.range s₄.heap.objs.size) (s₄.heap.objs.size :: wr) (GenOnlyQ s₄.gens.size) (passing pz n₀ 0).length (fun j y => ∃ i, (passing pz n₀ 0)[j]? = some i ∧ F i y) (GenAt X.prog X.w X.A.in4 a s₄.gens.size s₄.heap.objs.size (List.range s₄.heap.objs.size) wr pz n₀ F) →
            GenAt X.prog X.w X.A.in4 a s₄.gens.size s₄.heap.objs.size (List.range s₄.heap.objs.size) wr pz n₀ F 0 { s₄ with gens := s₄.gens.push gs, toks := tk, heap := h₅ } →
            Q' (.ref a) { s₄ with gens := s₄.gens.push gs, toks := tk, heap := h₅ })) X.xe { s1 with heap := h3, toks := tk } := by
    intro code h3 tk ps' hx hsz hP3 ht3
    obtain ⟨bm, ob, e1, e2, e3, e4, e5, e6, e7, e8⟩ := TB.bm
    have keep3 : ∀ b u, b ≠ P → s1.heap.get? b = some u → h3.get? b = some u := fun b u hb e => hx b u hb (Heap.get?_push_of_some _ e)
    refine wpAny_builtinsFor (m := X.mg) (by rw [I1.ok.glob]; exact ((I1.mod.glob.keeps I1.bk).push o).extBut hx TB.gP) e1 e2 (keep3 _ _ e4 (I1.bk _ _ e5)) e6 e7 e8 ?_
    have hsz3 : s1.heap.objs.size < h3.objs.size := by omega
    refine ⟨s1.heap.objs.size, fp, [s1.heap.objs.size], n, fun i u => i < n ∧ Pf i u, St, fun _ => true, fun i y => y = .bool (f i), rfl, fun A' hA => walks_lt (hW A' hA), ?_, fun b hb => Nat.lt_of_le_of_lt (hfp b hb).1 hsz3, lim2.extBut hx hcP, ?_, ?_, ?_⟩
    · exact (hW X.A hr.hd).frame _ _ _ hst fun b hb u e => hx b u (hfp b hb).2 e
    · intro z
      rw [List.mem_singleton.mp z] at hcl
      exact Nat.lt_irrefl _ hcl
    · intro href hhref
      refine ⟨fun A' E' i v s₂ m₂ hA hD hU hPv hn hm hk => ?_, fun A' E' i v s₂ m₂ hA hD hU hPv hp hn hm hk => ?_⟩
      · simp only [List.forIn_nil]
        exact wpAny_pure ⟨rfl, kp_refl _⟩
      · have kept : ∀ b u, b ≠ P → s1.heap.get? b = some u → s₂.heap.get? b = some u := fun b u hb e => by
          have hlt := Heap.lt_size e
          refine hk b (List.mem_range.mpr ?_) (fun z => ?_) u (hhref b u (keep3 b u hb e))
          · show b < h3.objs.size
            exact Nat.lt_trans hlt hsz3
          · rw [List.mem_singleton.mp z] at hlt
            exact Nat.lt_irrefl _ hlt
        refine wpAny_mono (hel i v hPv.1 (hPf i v hPv.2 hPv.1) _ A' E' s₂ m₂ ⟨hA, hD, hU, rfl, I1.ok.glob, rfl, hn, hm, fun b u e => kept b u (nTb b (I1.bs b u e).2) (I1.bk b u e), I1.mod, fun b u e => ?_, fun j y w hN hσ hv hfr => ?_⟩) (fun y s3 r => ⟨r.1, r.2⟩) fun _ _ e => e
        · have hb : b ≠ P := fun z => by
            rw [z] at e
            unfold but at e
            rw [if_pos rfl] at e
            cases e
          rw [but_ne hb] at e
          refine (I1.hok b u e).stay (fun d w hd q => kept d w ?_ q) (fun d q => ?_) fun d ys q => ?_
          · rcases hd with z | z
            · rw [z]
              exact hb
            · intro e2
              rw [e2, hT] at z
              cases z
          · rw [but_ne fun e2 => by rw [e2, hT] at q; cases q]
            exact q
          · rw [but_ne fun e2 => by rw [e2, hT] at q; cases q]
            exact q
        · obtain ⟨m, hn1, hl⟩ := I1.loc
          obtain ⟨r, rv, l⟩ := hl j y w hN hσ (hv.elim (fun z => Or.inr (Or.inl z)) (fun z => Or.inr (Or.inr z)))
          rcases l with ⟨z, _⟩ | ⟨_, cc, hc, oc, he, hd⟩
          · rcases hv with z2 | z2
            · rw [z] at z2; cases z2
            · rw [z] at z2; cases z2
          · exact ⟨r, cc, rv, clo_lookup (lookup_mem' hfr) hc, oc, kept cc oc (nTb cc (I1.freeC y cc hc)) he, hd⟩
    · intro g h5 tk5 gs hgb hag hsz5 hk5 W5 hat
      simp only [GxR.passing_true, List.length_range] at W5
      refine hQ n f H1 g _ hR ⟨_, _, _, _, _, W5.in4_1, hat, fun j y sj Qj Ej hy hQj => ?_, fun s' hm => ?_⟩
      · obtain ⟨i, hij, rfl⟩ := hy
        obtain ⟨hj, ej⟩ := List.getElem?_eq_some_iff.mp hij
        rw [List.getElem_range] at ej
        subst ej
        exact wpAny_truthy_bool hQj
      · have nwr : ∀ b u, s1.heap.get? b = some u → b ∉ h3.objs.size :: [s1.heap.objs.size] := fun b u e hb => by
          have hl := Heap.lt_size e
          rcases List.mem_cons.mp hb with z | z
          · rw [z] at hl
            exact Nat.lt_irrefl _ (Nat.lt_trans hl hsz3)
          · rw [List.mem_singleton.mp z] at hl
            exact Nat.lt_irrefl _ hl
        exact inv_grown I1 hT (fun b u hb e => hm.heap b u (nwr b u e) (hk5 b u (keep3 b u hb e))) ⟨ps', hm.heap P _ (nwr P _ hPs) (hk5 P _ hP3), ht3⟩ hm.os (AllBare.movedS (I1.bare.push hgb) hm)
  refine ⟨lim2, ?_⟩
  cases hf : codeAmong gpos ps.toList with
  | some cv => exact wpAny_genexprCode_hit hcode (cd.code hP2 ht) hf (go cv (s1.heap.push o) s1.toks ps (Heap.ExtBut.refl _ _) (Nat.le_refl _) hP2 ht)
  | none =>
    refine wpAny_genexprCodeX hcode (cd.code hP2 ht) (cd.tab hP2) hf fun c' h' tk hx hge hlt hco' _ htab' _ => ?_
    obtain ⟨_, _, _, _, _, _, _, _, _, _, _, _, _, _, _, _, _, _, _, htr, _⟩ := hco'
    exact go _ h' tk _ hx (Nat.le_trans hge (Nat.le_of_lt hlt)) htab'.2 htr
/-- all(.. for x in e), any(.. for x in e) -/
def tGen (X : Cx) (P : Addr) (scope : Scope) (x : Str) (elt : Expr) (fin : Nat → (Nat → Bool) → Bool) (te : TE) : TE := fun σ H Q => te σ H fun v H1 => Tab H1 P ∧ ∃ (n : Nat) (xs : Nat → V) (f : Nat → Bool), SrcV X.K H1 v n xs ∧ (∀ i u, i < n → RelV (xs i) u → QV X σ H1 P scope x u elt (.bl (f i))) ∧ Q (.bl (fin n f)) H1
def allF (n : Nat) (f : Nat → Bool) : Bool := (List.range n).all f
def anyF (n : Nat) (f : Nat → Bool) : Bool := (List.range n).any f
theorem pe_all {c P : Addr} {elt iter : Expr} {x : Str} {px p pos gpos : Pos} {scope : Scope} {te : TE} {k : Nat} (hr : Room k X.A) (hg : Gl X "all") (hm : X.mg "all" = none) (hb : bootBuiltins "all" = some (.builtin "all")) (TB : LamX.TabB X.base X.mg c P) (hcode : X.env.code = .ref c) (S : GxR.GenS X.env scope x)
    (hi : PE X iter te) (hs : ∀ v, genFold iter X.env v = pure v)
    (he : starEach [.GeneratorExp elt [⟨.Name x px, iter, [], 0⟩] scope gpos] X.env = (false, eval (.GeneratorExp elt [⟨.Name x px, iter, [], 0⟩] scope gpos) X.env) :: starEach [] X.env := by rfl) :
    PE X (.Call (.Name "all" p) [.GeneratorExp elt [⟨.Name x px, iter, [], 0⟩] scope gpos] [] pos) (tGen X P scope x elt allF te) := by
  refine ⟨fun pins s σ H Q I h => wpAny_Call_Name_kw (ld_blt I hg hm hb (PyProof.Rows.callWith_builtin1 ?_ he (by rfl)))⟩
  rw [he]
  show wpAny _ _ (spliced ((false, eval (.GeneratorExp elt [⟨.Name x px, iter, [], 0⟩] scope gpos) X.env) :: backTo pos (starEach [] X.env))) _ _ s
  refine Calls.spliced_cons (gen_make (R := fun n f H1 => Q (.bl (allF n f)) H1) hr TB hcode S hi hs I h fun n f H1 g s5 hR ⟨fp, wr, G, F, St₁, W, hst, htr, hI⟩ => Calls.spliced_nil ?_)
  exact call_all_walkS (W.self 0 _ _ _ hst ⟨g, fp, wr, G, _, F, St₁, _, rfl, W, hst, htr, fun s' hmv => ⟨.bl _, H1, hI s' hmv, rfl, hR⟩⟩)
theorem pe_any {c P : Addr} {elt iter : Expr} {x : Str} {px p pos gpos : Pos} {scope : Scope} {te : TE} {k : Nat} (hr : Room k X.A) (hg : Gl X "any") (hm : X.mg "any" = none) (TB : LamX.TabB X.base X.mg c P) (hcode : X.env.code = .ref c) (S : GxR.GenS X.env scope x)
    (hi : PE X iter te) (hs : ∀ v, genFold iter X.env v = pure v)
    (he : starEach [.GeneratorExp elt [⟨.Name x px, iter, [], 0⟩] scope gpos] X.env = (false, eval (.GeneratorExp elt [⟨.Name x px, iter, [], 0⟩] scope gpos) X.env) :: starEach [] X.env := by rfl) :
    PE X (.Call (.Name "any" p) [.GeneratorExp elt [⟨.Name x px, iter, [], 0⟩] scope gpos] [] pos) (tGen X P scope x elt anyF te) := by
  refine ⟨fun pins s σ H Q I h => wpAny_Call_Name_kw (ld_blt I hg hm boot_any (PyProof.Rows.callWith_builtin1 ?_ he (by rfl)))⟩
  rw [he]
  show wpAny _ _ (spliced ((false, eval (.GeneratorExp elt [⟨.Name x px, iter, [], 0⟩] scope gpos) X.env) :: backTo pos (starEach [] X.env))) _ _ s
  refine Calls.spliced_cons (gen_make (R := fun n f H1 => Q (.bl (anyF n f)) H1) hr TB hcode S hi hs I h fun n f H1 g s5 hR ⟨fp, wr, G, F, St₁, W, hst, htr, hI⟩ => Calls.spliced_nil ?_)
  exact call_any_walkS (W.self 0 _ _ _ hst ⟨g, fp, wr, G, _, F, St₁, _, rfl, W, hst, htr, fun s' hmv => ⟨.bl _, H1, hI s' hmv, rfl, hR⟩⟩)
end
end LG

set_option Elab.async false
set_option linter.all false
set_option maxRecDepth 100000
set_option maxHeartbeats 4000000
namespace LS
open PySem PySem.Spec PyProof.Rows L2 Evl LT LG
/-! ### texts -/
section
variable {K : PySem.W.Frag} {σ : L2.St} {H : Hp} {ta tb tc te to : TE} {x y z v : V} {D : Ends} {tu tz : TS}
theorem rv_addS {i j : Str} (h : i.length + j.length ≤ sizeLine) : RV (fun x y H Q => ∃ i j, x = .str i ∧ y = .str j ∧ i.length + j.length ≤ sizeLine ∧ Q (.str (i ++ j)) H) (.str i) (.str j) H (.str (i ++ j)) := rv_val fun _ _ Q q => ⟨i, j, rfl, rfl, h, q⟩
theorem ev_lenS {z : Str} {ta : TE} (h : Ev ta σ H (.str z)) (hz : z.length ≤ sizeLine) : Ev (tCB (fun xs H Q => ∃ x, xs = [.str x] ∧ x.length ≤ sizeLine ∧ Q (.int x.length) H) (tCons ta tNil)) σ H (.int (z.length : Int)) := ev_cb (ea_cons h ea_nil) fun H1 _ Q q => ⟨z, rfl, hz, q H1 (Ex.refl H1)⟩
theorem ev_isi {x : V} {n : String} {t : Value} {b : Bool} (h : Ev ta σ H x) (hn : Ev tb σ H (.ty n)) (ht : ∀ H1, Ex H H1 → TyX K H1 x t) (hk : PySem.W.kitOne K t (.type n) = some b) : Ev (tCB (rIsi K) (tCons ta (tCons tb tNil))) σ H (.bl b) :=
  ev_cb (ea_cons h (ea_cons hn ea_nil)) fun H1 e Q q => ⟨x, .ty n, t, .type n, b, rfl, .ty n, ht H1 e, hk, q H1 (Ex.refl H1)⟩
/-- a < b < c over ints -/
theorem et_chain {f g : Int → Int → Bool} {i j k : Int} (ha : Ev ta σ H (.int i)) (hb : Ev tb σ H (.int j)) (hc : Ev tc σ H (.int k)) : EvT (tTest (tChain (rI0 fun i j => .bl (f i j)) (rI0 fun i j => .bl (g i j)) ta tb tc)) σ H (f i j && g j k) := fun H1 e Q q =>
  ha H1 e _ fun H2 e2 => hb H2 (e.trans e2) _ fun H3 e3 => ⟨i, j, rfl, rfl, f i j, rfl, by
    cases hf : f i j with
    | true =>
      rw [if_pos rfl]
      refine hc H3 ((e.trans e2).trans e3) _ fun H4 e4 => ⟨j, k, rfl, rfl, g j k, rfl, ?_⟩
      have := q H4 ((e2.trans e3).trans e4)
      rw [hf] at this
      exact this
    | false =>
      rw [if_neg Bool.false_ne_true]
      have := q H3 (e2.trans e3)
      rw [hf] at this
      exact ⟨false, rfl, this⟩⟩
theorem s_forS {zs : Str} {j : Nat} (h : Ev te σ H (.str zs)) (Pv : Nat → L2.St → Hp → Prop) (h0 : ∀ H1, Ex H H1 → Pv 0 σ H1)
    (hs : ∀ i c σ' H', zs.cps.toList[i]? = some c → Pv i σ' H' → tu { D with nx := Pv (i + 1), ct := Pv (i + 1), bk := D.nx } (σ'.set j (some (.str ⟨#[c]⟩))) H') (hd : ∀ σ' H', Pv zs.cps.toList.length σ' H' → D.nx σ' H') : tFor (iStr te) (gName j) tu D σ H :=
  h H (Ex.refl H) _ fun H1 e => ⟨zs, rfl, fun i m σ' H' => m + i = zs.cps.size ∧ Pv i σ' H', ⟨zs.cps.size, by omega, h0 H1 e⟩, fun i m σ' H' ⟨hm, p⟩ => by
    by_cases hi : i < zs.cps.size
    · refine .inr ⟨hi, Pv (i + 1), fun σ2 H2 p2 => ⟨m - 1, by omega, by omega, p2⟩, fun v H2 hy => ?_⟩
      obtain ⟨rfl, c, hc, rfl⟩ := hy
      exact hs i c σ' H2 (by rw [Array.getElem?_toList]; exact hc) p
    · have ei : i = zs.cps.toList.length := by
        rw [Array.length_toList]
        omega
      rw [ei] at p
      exact .inl ⟨Nat.le_of_not_lt hi, hd σ' H' p⟩⟩
theorem q_forS {zs : Str} {j : Nat} (h : Ev te σ H (.str zs)) (Pv : Nat → L2.St → Hp → Prop) (h0 : ∀ H1, Ex H H1 → Pv 0 σ H1)
    (hs : ∀ i c σ' H', zs.cps.toList[i]? = some c → Pv i σ' H' → tu { D with nx := Pv (i + 1), ct := Pv (i + 1), bk := tz D } (σ'.set j (some (.str ⟨#[c]⟩))) H') (hd : ∀ σ' H', Pv zs.cps.toList.length σ' H' → tz D σ' H') : tSeq (tFor (iStr te) (gName j) tu) tz D σ H :=
  s_forS (D := { D with nx := tz D }) h Pv h0 hs hd
theorem q_call {i : Nat} {sp : Sp} {dvs vs : List V} {E : XK} {tr : TA} (h : EvA tr σ H vs) (k : ∀ H1, Ex H H1 → sp (vs ++ dvs) H1 (fun v H2 => tz D (σ.set i (some v)) H2) E) : tSeq (tAsg (tCall sp dvs E tr) (gName i)) tz D σ H := h H (Ex.refl H) _ fun H1 e => k H1 e
/-- a call whose first argument is a new tuple -/
theorem ev_callU1 {sp : Sp} {dvs vs xs : List V} {E : XK} {tr : TA} (h : EvU ta σ H xs) (hr : EvA tr σ H vs) (hs : ∀ p H1, H1 p = some (.tup xs) → Ex H H1 → SpV sp ((.ref p :: vs) ++ dvs) H1 z) : Ev (tCall sp dvs E (tCons ta tr)) σ H z := fun H1 e Q q =>
  h H1 e _ fun p H2 hp e2 h2 => hr H2 (e.trans e2) _ fun H3 e3 => hs p H3 (e3 _ _ h2) ((e.trans e2).trans e3) H3 (Ex.refl _) Q (fun H4 e4 => q H4 ((e2.trans e3).trans e4)) E
theorem ev_index {W : WX} {a b : Str} {k : Nat} {tr : TA} (h : Ev to σ H (.str a)) (hb : EvA tr σ H [.str b]) (hk : Txt.index0 a b = some k) : Ev (tBMS K "str" (rIndexX W) to tr) σ H (.int (k : Int)) := fun H1 e Q q =>
  h H1 e _ fun H2 e2 => ⟨rfl, hb H2 (e.trans e2) _ fun H3 e3 => ⟨a, b, rfl, rfl, fun k' hk' => by
    rw [hk] at hk'
    cases hk'
    exact q H3 (e2.trans e3), fun hn => by
    rw [hk] at hn
    cases hn⟩⟩
theorem ev_find {a b : Str} (h : Ev to σ H (.str a)) (hb : Ev te σ H (.str b)) : Ev (tM1 (fun x xs H Q => ∃ a b, x = .str a ∧ xs = [.str b] ∧ Q (.int (Txt.find a b)) H) to te) σ H (.int (Txt.find a b)) := fun H1 e Q q =>
  h H1 e _ fun H2 e2 => ⟨⟨a, rfl⟩, hb H2 (e.trans e2) _ fun H3 e3 => ⟨a, b, rfl, rfl, q H3 (e2.trans e3)⟩⟩
theorem ev_slS {tl th : TO} {z : Str} {lo hi : Option Int} (h : Ev te σ H (.str z)) (h1 : EvO tl σ H lo) (h2 : EvO th σ H hi) (hz : z.length ≤ sizeLine) : Ev (tSl rSlS te tl th) σ H (.str (cutS z lo hi)) := fun H1 e Q q =>
  h H1 e _ fun H2 e2 => h1 H2 (e.trans e2) _ fun H3 e3 => h2 H3 ((e.trans e2).trans e3) _ fun H4 e4 => ⟨z, rfl, hz, q H4 ((e2.trans e3).trans e4)⟩
/-- text * int -/
def rMulS : R2 := fun x y H Q => ∃ a n, x = .str a ∧ y = .int n ∧ a.length ≤ 1000 ∧ 0 ≤ n ∧ n ≤ 1000 ∧ Q (.str (Txt.mul a n)) H
theorem rv_mulS {a : Str} {n : Int} (h1 : a.length ≤ 1000) (h2 : 0 ≤ n) (h3 : n ≤ 1000) : RV rMulS (.str a) (.int n) H (.str (Txt.mul a n)) := rv_val fun _ _ Q q => ⟨a, n, rfl, rfl, h1, h2, h3, q⟩
end
theorem mulOk {a : Str} {n : Int} (h1 : a.length ≤ 1000) (h2 : 0 ≤ n) (h3 : n ≤ 1000) : MulOk a n := by
  refine ⟨by simp; omega, fun h h' hh => ?_, fun h h' => ?_⟩
  · have p : (0 : Int) < n := by omega
    have m : (a.length : Int) * n ≤ 1000 * 1000 := Int.mul_le_mul (by omega) h3 h2 (by decide)
    have := (Int.le_ediv_iff_mul_le p).mpr (show (a.length : Int) * n ≤ 2 ^ 63 - 1 by omega)
    omega
  · have m : a.length * n.toNat ≤ 1000 * 1000 := Nat.mul_le_mul h1 (by omega)
    have z : sizeLine = 16777216 := rfl
    show decide (a.length * n.toNat > sizeLine) = false
    exact decide_eq_false (by omega)
theorem op_mul_str {X : Cx} : OpR X (binaryOp .Mult) rMulS := by
  intro pins s σ H x y v u Q I rx ry h
  obtain ⟨a, n, rfl, rfl, h1, h2, h3, q⟩ := h
  obtain ⟨t, rfl⟩ := rx
  obtain ⟨t', rfl⟩ := ry
  exact SB.mul (mulOk h1 h2 h3) fun t'' k => ⟨.str (Txt.mul a n), H, I.tok _, ⟨_, rfl⟩, q⟩
section
variable {X : Cx} {σ : L2.St} {H : Hp} {P : Addr} {scope : Scope} {x : Str} {elt : Expr} {te : TE} {fin : Nat → (Nat → Bool) → Bool}
theorem ev_gen {v : V} {n : Nat} {xs : Nat → V} {f : Nat → Bool} (h : Ev te σ H v) (hT : Tab H P) (hs : ∀ H1, Ex H H1 → SrcV X.K H1 v n xs) (he : ∀ H1, Ex H H1 → ∀ i u, i < n → RelV (xs i) u → QV X σ H1 P scope x u elt (.bl (f i))) :
    Ev (tGen X P scope x elt fin te) σ H (.bl (fin n f)) := fun H1 e Q q => h H1 e _ fun H2 e2 => ⟨hT.mono (e.trans e2), n, xs, f, hs H2 (e.trans e2), he H2 (e.trans e2), q H2 e2⟩
end
theorem allF_list {α : Type} (l : List α) (d : α) (p : α → Bool) : allF l.length (fun i => p (l.getD i d)) = l.all p := by
  unfold allF
  rw [Bool.eq_iff_iff, List.all_eq_true, List.all_eq_true]
  constructor
  · intro h y hy
    obtain ⟨i, hi, rfl⟩ := List.getElem_of_mem hy
    have q := h i (List.mem_range.mpr hi)
    rw [List.getD_eq_getElem?_getD, List.getElem?_eq_getElem hi] at q
    exact q
  · intro h i hi
    have hi' := List.mem_range.mp hi
    rw [List.getD_eq_getElem?_getD, List.getElem?_eq_getElem hi']
    exact h _ (List.getElem_mem hi')
theorem anyF_list {α : Type} (l : List α) (d : α) (p : α → Bool) : anyF l.length (fun i => p (l.getD i d)) = l.any p := by
  unfold anyF
  rw [Bool.eq_iff_iff, List.any_eq_true, List.any_eq_true]
  constructor
  · rintro ⟨i, hi, h⟩
    have hi' := List.mem_range.mp hi
    rw [List.getD_eq_getElem?_getD, List.getElem?_eq_getElem hi'] at h
    exact ⟨_, List.getElem_mem hi', h⟩
  · rintro ⟨y, hy, h⟩
    obtain ⟨i, hi, rfl⟩ := List.getElem_of_mem hy
    refine ⟨i, List.mem_range.mpr hi, ?_⟩
    rw [List.getD_eq_getElem?_getD, List.getElem?_eq_getElem hi]
    exact h
theorem src_str {K : PySem.W.Frag} {H : Hp} (z : Str) : SrcV K H (.str z) z.cps.toList.length (fun i => .str ⟨#[z.cps.toList.getD i 0]⟩) := .inr (.inl ⟨z, rfl, Array.length_toList, fun i c hc => by
  have e : z.cps.toList[i]? = some c := by rw [Array.getElem?_toList]; exact hc
  show V.str ⟨#[z.cps.toList.getD i 0]⟩ = V.str ⟨#[c]⟩
  rw [List.getD_eq_getElem?_getD, e]
  rfl⟩)
/-! ### a def whose code object is known -/
structure FunC (K : PySem.W.Frag) (x qual : Str) (st : Stmt) (f : Addr) (fd : FuncData) (c : Addr) : Prop where
  ex : ∃ (oc : Value) (od : Option Addr) (kV doc pm : Value) (an : Option Addr) (ct : Value) (osl : Array (Option Value)), fd = PySem.W.fnOf x qual (defArgs st) (defBody st) (defScope st) .none kV doc pm an (.ref c) ct ∧ K.lookup f = some ⟨oc, od, .func fd, osl⟩ ∧ PySem.W.codeIn K (.ref c) qual = true
  kp : PySem.W.keepIn K (.ref f) = true
section
variable {P : Program} {w : World} {K : PySem.W.Frag} {mg : Str → Option Value} {base : Heap}
theorem FunC.ok {x qual : Str} {st : Stmt} {f c : Addr} {fd : FuncData} {N ps : List Str} {k : Nat} {sp : Sp} (F : FunC K x qual st f fd c) (S : FnScope N ps (defScope st)) (len : ∀ vs H Q E, sp vs H Q E → vs.length = ps.length)
    (hbody : ∀ (A : Around) (outer : List Env) (s : Shared) (H : Hp) (vs : List V) (Q : VK) (E : XK), Room k (A.deeper (envOfC qual (defScope st) s.heap.objs.size f (.ref c))) → sp vs H Q E →
      ∃ t, PSs (cxOf CX0 P w K mg base N qual (defScope st) f (.ref c) A outer s H E).nox (defBody st) t ∧ t { nx := fun _ H' => Q .non H', rt := Q } (start N vs) H) : FnOk P w K mg base CX0 (k + 1) f fd ps sp := by
  obtain ⟨oc, od, kV, doc, pm, an, ct, osl, rfl, lk, hcd⟩ := F.ex
  exact fn_of lk hcd S len fun A outer s H vs Q E hr hsp => let ⟨t, h, q⟩ := hbody A outer s H vs Q E hr hsp; ⟨t, h.nox, q⟩
theorem FunC.fun {x qual : Str} {st : Stmt} {f c : Addr} {fd : FuncData} (F : FunC K x qual st f fd c) : Fun K x qual st f fd := let ⟨oc, od, kV, doc, pm, an, ct, osl, e, lk, hcd⟩ := F.ex; ⟨⟨oc, od, kV, doc, pm, an, .ref c, ct, osl, e, lk, hcd⟩, F.kp⟩
theorem tab_mk {x : Str} {f c T : Addr} {oc e : Value} {od dd : Option Addr} {osl sl : Array (Option Value)} {fd : FuncData} {vs : Array Value} (a : PySem.W.nsIn K mainGlobals x = some (some (.ref f))) (l : K.lookup f = some ⟨oc, od, .func fd, osl⟩)
    (h : K.lookup c = some ⟨e, dd, .fields vs, sl⟩) (hv : vs[11]? = some (.ref T)) (hc : fd.code = .ref c := by rfl) : PySem.W.tabIn K x = some (c, T) := by
  unfold PySem.W.tabIn
  rw [a]
  dsimp only
  rw [l]
  dsimp only
  rw [hc]
  dsimp only
  rw [h]
  dsimp only
  rw [hv]
theorem funC_mk {x qual : Str} {st : Stmt} {f c T : Addr} {oc : Value} {od an : Option Addr} {osl : Array (Option Value)} {kV doc pm cdv ct : Value} (a : PySem.W.nsIn K mainGlobals x = some (some (.ref f))) (l : K.lookup f = some ⟨oc, od, .func (PySem.W.fnOf x qual (defArgs st) (defBody st) (defScope st) .none kV doc pm an cdv ct), osl⟩)
    (cd : PySem.W.codeIn K cdv qual = true) (k : PySem.W.keepIn K (.ref f) = true) (ht : PySem.W.tabIn K x = some (c, T)) : FunC K x qual st f (PySem.W.fnOf x qual (defArgs st) (defBody st) (defScope st) .none kV doc pm an cdv ct) c := by
  have e : cdv = .ref c := by
    unfold PySem.W.tabIn at ht
    rw [a] at ht
    dsimp only at ht
    rw [l] at ht
    dsimp only [PySem.W.fnOf] at ht
    cases cdv with
    | ref c' =>
      dsimp only at ht
      split at ht
      · split at ht
        · cases ht
          rfl
        · cases ht
      · cases ht
    | _ => cases ht
  subst e
  exact ⟨⟨oc, od, kV, doc, pm, an, ct, osl, rfl, l, cd⟩, k⟩
end
end LS

set_option Elab.async false
set_option linter.all false
set_option maxRecDepth 100000
set_option maxHeartbeats 4000000
namespace LQ
open PySem PySem.Spec PyProof.Rows L2 Evl LT LG LS
/-! ### calls within the elements of a generator expression -/
section
variable {X : Cx} {σ : L2.St} {H : Hp} {P : Addr} {scope : Scope} {x : Str} {u : Value} {a b : Expr} {za zb z : V} {pos p : Pos}
theorem fc_blt {y : Str} {r : Value} {cenv : Env} {A' : Around} {E' : Value → Shared → Prop} {s : Shared} {m : Str → Option Value} {Q : Value → Shared → Prop} (F : Fc X σ H P scope x u cenv A' s m) (hk : scope.kind = .function) (hl : scope.names.lookup y = some .globalImplicit) (hm : X.mg y = none) (hv : bootBuiltins y = some r) (h : Q r s)
    (hn : y ≠ "__name__" := by decide) (hd : (y == ("__debug__" : Str)) = false := by decide) : wpAny (model X.prog X.w) A' (eval (.Name y p) cenv) Q E' s := by
  obtain ⟨mb, h1, h2⟩ := F.md.blt
  exact Calls.Name_function_global (by rw [F.sc]; exact hk) (show cenv.scope.names.lookup y = some .globalImplicit by rw [F.sc]; exact hl) (Calls.loadGlobal_builtin (by rw [F.gl]; exact F.md.glob.keeps F.base) hm (by rw [F.bi]; exact h1.keeps F.base) ((h2 y hn).trans hv) h) hd
theorem qv_blt {y : Str} {r : Value} (hk : scope.kind = .function) (hl : scope.names.lookup y = some .globalImplicit) (hm : X.mg y = none) (hv : bootBuiltins y = some r) (hz : RelV z r) (hn : y ≠ "__name__" := by decide) (hd : (y == ("__debug__" : Str)) = false := by decide) :
    QV X σ H P scope x u (.Name y p) z := fun cenv A' E' s m F => fc_blt F hk hl hm hv ⟨hz, kp_refl _⟩ hn hd
/-- a built-in function of two arguments -/
theorem qv_blt2 {y : Str} {id : String} (hk : scope.kind = .function) (hl : scope.names.lookup y = some .globalImplicit) (hm : X.mg y = none) (hv : bootBuiltins y = some (.builtin id)) (ha : QV X σ H P scope x u a za) (hb : QV X σ H P scope x u b zb) (hr : QR X σ H P scope x u (fun v w => call (.builtin id) [v, w]) za zb z)
    (he : ∀ env, starEach [a, b] env = (false, eval a env) :: starEach [b] env := by intro _; rfl) (h2 : ∀ env, starEach [b] env = [(false, eval b env)] := by intro _; rfl) (hn : y ≠ "__name__" := by decide) (hd : (y == ("__debug__" : Str)) = false := by decide) :
    QV X σ H P scope x u (.Call (.Name y p) [a, b] [] pos) z := fun cenv A' E' s m F => by
  refine wpAny_Call_Name_kw (fc_blt F hk hl hm hv ?_ hn hd)
  refine PyProof.Rows.callWith_builtin1 ?_ (he cenv) (by rw [h2 cenv]; rfl)
  rw [he cenv, h2 cenv]
  show wpAny _ _ (spliced [(false, eval a cenv), (false, eval b cenv)]) _ _ s
  refine Calls.spliced_cons (wpAny_mono (ha cenv A' E' s m F) (fun v s1 r1 => ?_) fun _ _ e => e)
  refine Calls.spliced_cons (wpAny_mono (hb cenv A' E' s1 m (F.keeps r1.2)) (fun w s2 r2 => ?_) fun _ _ e => e)
  exact Calls.spliced_nil (wpAny_mono (hr cenv A' E' s2 m v w ((F.keeps r1.2).keeps r2.2) r1.1 r2.1) (fun y s3 r3 => ⟨r3.1, kp_trans (kp_trans r1.2 r2.2) r3.2⟩) fun _ _ e => e)
/-- what isinstance asks of a value -/
theorem kit_fc {cenv : Env} {A' : Around} {s : Shared} {m : Str → Option Value} {v : Value} {t : Value} (F : Fc X σ H P scope x u cenv A' s m) (hT : Tab H P) (r : RelV z v) (ty : TyOf X.K H z t) (no : ∀ a C dx fs, H a = some (.ins C dx fs) → z ≠ .ref a) :
    ∃ Pz : Heap → Prop, PySem.W.KitX X.K v t Pz ∧ Pz s.heap ∧ v ≠ .builtin "__main__.__loader__#opaque" := by
  have rd : ∀ {a : Addr} {o : HO}, H a = some o → (∀ φ, o ≠ .ext φ) → but P H a = some o := fun {a o} e n => by
    rw [but_ne fun z => by rw [z, hT] at e; exact n _ (Option.some.inj e).symm]
    exact e
  cases ty with
  | non => cases (show v = Value.none from r); exact ⟨_, PySem.W.kitx_none, True.intro, fun z => nomatch z⟩
  | bl y => cases (show v = Value.bool y from r); exact ⟨_, PySem.W.kitx_bool, True.intro, fun z => nomatch z⟩
  | int i => obtain ⟨t, q⟩ := (show ∃ t, v = Value.int i t from r); cases q; exact ⟨_, PySem.W.kitx_int, True.intro, fun z => nomatch z⟩
  | str y => obtain ⟨t, q⟩ := (show ∃ t, v = Value.str y t from r); cases q; exact ⟨_, PySem.W.kitx_str, True.intro, fun z => nomatch z⟩
  | flt y => obtain ⟨t, q⟩ := (show ∃ t, v = Value.float y t from r); cases q; exact ⟨_, PySem.W.kitx_float, True.intro, fun z => nomatch z⟩
  | @lst a xs ea =>
    cases (show v = Value.ref a from r)
    obtain ⟨_, _, n, _, h1⟩ := (show ObjOk X.prog X.w (but P H) s.heap a (.lst xs) from F.hok a _ (rd ea (fun φ z => by cases z)))
    exact ⟨_, PySem.W.kitx_list, ⟨_, h1, rfl⟩, fun z => nomatch z⟩
  | @frz a ob xs ea =>
    cases (show v = Value.ref a from r)
    obtain ⟨_, _, _, n, _, h1⟩ := (show ObjOk X.prog X.w (but P H) s.heap a (.frz ob (.lst xs)) from F.hok a _ (rd ea (fun φ z => by cases z)))
    exact ⟨_, PySem.W.kitx_list, ⟨_, h1, rfl⟩, fun z => nomatch z⟩
  | @tup a xs ea =>
    cases (show v = Value.ref a from r)
    obtain ⟨_, _, _, o, h1, h2, _⟩ := (show ObjOk X.prog X.w (but P H) s.heap a (.tup xs) from F.hok a _ (rd ea (fun φ z => by cases z)))
    exact ⟨_, PySem.W.kitx_tuple, ⟨o, h1, h2⟩, fun z => nomatch z⟩
  | @dK a kvs ea =>
    cases (show v = Value.ref a from r)
    obtain ⟨_, _, vs, _, o, es, ep, h1, h2, _⟩ := F.hok a _ (rd ea (fun φ z => by cases z))
    exact ⟨_, PySem.W.kitx_dict, ⟨o, h1, h2.1⟩, fun z => nomatch z⟩
  | @dT a kvs ea =>
    cases (show v = Value.ref a from r)
    obtain ⟨_, _, xs, _, o, es, ep, h1, h2, _⟩ := F.hok a _ (rd ea (fun φ z => by cases z))
    exact ⟨_, PySem.W.kitx_dict, ⟨o, h1, h2.1⟩, fun z => nomatch z⟩
  | @ins a C dx fs ea cl ha hn htk hm => exact absurd rfl (no a C dx fs ea)
theorem qr_isi {T : String} {t : Value} {b : Bool} (hT : Tab H P) (ty : TyOf X.K H z t) (no : ∀ a C dx fs, H a = some (.ins C dx fs) → z ≠ .ref a) (hk : PySem.W.kitOne X.K t (.type T) = some b) : QR X σ H P scope x u (fun v w => call (.builtin "isinstance") [v, w]) z (.ty T) (.bl b) := fun cenv A' E' s m v w F r1 r2 => by
  cases (show w = Value.type T from r2)
  obtain ⟨Pz, Z, p, hx⟩ := kit_fc F hT r1 ty no
  exact PySem.W.kia_one Z F.kin p hk hx fun tk => ⟨rfl, kp_tok _ _⟩
theorem qv_is {z' : V} (h : QV X σ H P scope x u a z) (e : z = z') : QV X σ H P scope x u a z' := e ▸ h
theorem qv_not {c : Bool} (ha : QV X σ H P scope x u a (.bl c)) : QV X σ H P scope x u (.UnaryOp .Not a pos) (.bl (!c)) := fun cenv A' E' s m F => by
  refine UnaryOp_ (wpAny_mono (ha cenv A' E' s m F) (fun v s1 r1 => ?_) fun _ _ e => e)
  obtain ⟨rfl, k⟩ := r1
  exact not_of (wpAny_truthy_bool ⟨rfl, k⟩)
theorem qv_one {op : BoolOp} (ha : QV X σ H P scope x u a z) : QV X σ H P scope x u (.BoolOp op [a] pos) z := fun cenv A' E' s m F => BoolOp_one (ha cenv A' E' s m F)
theorem qv_and {rest : List Expr} {c d : Bool} (ha : QV X σ H P scope x u a (.bl c)) (hb : c = true → QV X σ H P scope x u (.BoolOp .And (b :: rest) pos) (.bl d)) : QV X σ H P scope x u (.BoolOp .And (a :: b :: rest) pos) (.bl (c && d)) := fun cenv A' E' s m F => by
  refine BoolOp_and (wpAny_mono (ha cenv A' E' s m F) (fun v s1 r1 => ?_) fun _ _ e => e)
  obtain ⟨rfl, k⟩ := r1
  refine wpAny_truthy_bool ?_
  cases c with
  | true => exact wpAny_mono (hb rfl cenv A' E' s1 m (F.keeps k)) (fun y s3 r3 => ⟨r3.1, kp_trans k r3.2⟩) fun _ _ e => e
  | false => exact ⟨rfl, k⟩
theorem qr_ge_int {i j : Int} : QR X σ H P scope x u (compareOp .GtE) (.int i) (.int j) (.bl (decide (j ≤ i))) := fun cenv A' E' s m v w F r1 r2 => by
  obtain ⟨t, rfl⟩ := r1
  obtain ⟨t', rfl⟩ := r2
  exact ge_int ⟨rfl, kp_refl _⟩
/-- an own def of one argument whose body is one return -/
theorem qv_call1 {nm pn qual : Str} {st : Stmt} {f : Addr} {fd : FuncData} {N : List Str} {e : Expr} {rp : Pos} {k : Nat} (hr : Room k X.A) (hk : scope.kind = .function) (hl : scope.names.lookup nm = some .globalImplicit) (hm : X.mg nm = some (.ref f)) (F : Fun X.K nm qual st f fd) (hbody : defBody st = [.Return (some e) rp]) (S : FnScope N [pn] (defScope st)) (hloc : (defScope st).names.lookup pn = some .local)
    (hb : Binds X.K fd [pn] []) (ha : QV X σ H P scope x u a za) (he : ∀ (A0 : Around) (v : Value), RelV za v → QV { X with A := A0 } σ H P (defScope st) pn v e z) (hs : ∀ env, starEach [a] env = (false, eval a env) :: starEach [] env := by intro _; rfl) (hd : (nm == ("__debug__" : Str)) = false := by decide) :
    QV X σ H P scope x u (.Call (.Name nm p) [a] [] pos) z := fun cenv A' E' s m Fc0 => by
  refine wpAny_Call_Name_kw (Calls.Name_function_global (by rw [Fc0.sc]; exact hk) (show cenv.scope.names.lookup nm = some .globalImplicit by rw [Fc0.sc]; exact hl) (Calls.loadGlobal_global (by rw [Fc0.gl]; exact Fc0.md.glob.keeps Fc0.base) hm ?_) hd)
  refine PySem.W.callWith_K (h₀ := X.base) Fc0.md.kin F.kp ?_ (hs cenv) (by rfl)
  rw [hs cenv]
  show wpAny _ _ (spliced ((false, eval a cenv) :: [])) _ _ s
  refine Calls.spliced_cons (wpAny_mono (ha cenv A' E' s m Fc0) (fun v s1 r1 => Calls.spliced_nil ?_) fun _ _ e => e)
  have F1 := Fc0.keeps r1.2
  refine ⟨F1.kin, ?_⟩
  obtain ⟨oc, od, kV, doc, pm, an, cdv, ct, osl, rfl, lk, hcd⟩ := F.ex
  refine wpAny_call (Att.call_fn (binds := [(pn, v)]) F1.kin (F1.md.nolimit.keeps F1.base) lk hcd (by have := hr.dp; have := Fc0.dp; omega) (hb s1 [v] F1.kin rfl) ?_ (fun s2 IC => ?_) S.co S.gen S.kind)
  · simp only [List.all_cons, List.all_nil, Bool.and_true, Bool.or_eq_true, beq_iff_eq]
    exact .inl hloc
  · obtain ⟨h2, tk2, rfl⟩ := IC.toInCall.same
    have kk : ∀ b o, s1.heap.get? b = some o → h2.get? b = some o := IC.toInCall.keep
    rw [hbody]
    have Fn : Fc { X with A := A' } σ H P (defScope st) pn v (envOfC qual (defScope st) s1.heap.objs.size f cdv) (A'.deeper (envOfC qual (defScope st) s1.heap.objs.size f cdv)) { s1 with heap := h2, toks := tk2 } _ :=
      ⟨Fc0.hd, Nat.le_refl _, by show A'.units + 3 ≤ A'.units + 8; omega, rfl, rfl, rfl, IC.toInCall.ns, by
        show bindL _ [(pn, v)] _ pn = some v
        unfold bindL
        have hkd : (envOfC qual (defScope st) s1.heap.objs.size f cdv).kindOf pn = some .local := hloc
        rw [hkd]
        simp [bindL], fun b o e => kk b o (F1.base b o e), F1.md, F1.hok.kept kk, fun i y w h1 h2 h3 h4 => absurd rfl (S.nofree (y, .free) (lookup_mem' h4))⟩
    refine wpAny_execs_cons (wpAny_Return_some (wpAny_mono (he A' v r1.1 _ _ _ _ _ Fn) (fun y s3 r3 => ⟨r3.1, kp_trans (kp_trans r1.2 ⟨h2, tk2, rfl, kk⟩) r3.2⟩) fun _ _ e => e))
end
end LQ

set_option Elab.async false
set_option linter.all false
set_option maxRecDepth 100000
set_option maxHeartbeats 4000000
namespace LK
open PySem PySem.Spec PyProof.Rows L2 Evl

/-! ### data that == serves -/
def Sh (n : Nat) (d : PyData) : Prop := d.canLay0 = true ∧ d.depth ≤ n
theorem sh_int (i : Int) (n : Nat := 0) : Sh n (.int i) := ⟨by simp [PyData.canLay0], by simp [PyData.depth]⟩
theorem sh_bool (b : Bool) (n : Nat := 0) : Sh n (.bool b) := ⟨by simp [PyData.canLay0], by simp [PyData.depth]⟩
theorem sh_none (n : Nat := 0) : Sh n .none := ⟨by simp [PyData.canLay0], by simp [PyData.depth]⟩
theorem sh_all {n : Nat} : ∀ {ds : List PyData}, (∀ d ∈ ds, Sh n d) → PyData.canLayAll0 ds = true ∧ PyData.depthAll ds ≤ n
  | [], _ => ⟨by simp [PyData.canLayAll0], by simp [PyData.depthAll]⟩
  | d :: ds, h => by
    obtain ⟨h1, h2⟩ := h d List.mem_cons_self
    obtain ⟨h3, h4⟩ := sh_all fun e he => h e (List.mem_cons_of_mem _ he)
    refine ⟨?_, ?_⟩
    · rw [PyData.canLayAll0, h1, h3]
      rfl
    · rw [PyData.depthAll]
      omega
theorem sh_tup {n : Nat} {ds : List PyData} (h : ∀ d ∈ ds, Sh n d) : Sh (n + 1) (.tuple ds) := by
  obtain ⟨h1, h2⟩ := sh_all h
  refine ⟨?_, ?_⟩
  · rw [PyData.canLay0]
    exact h1
  · rw [PyData.depth]
    omega
theorem sh_lst {n : Nat} {ds : List PyData} (h : ∀ d ∈ ds, Sh n d) : Sh (n + 1) (.list ds) := by
  obtain ⟨h1, h2⟩ := sh_all h
  refine ⟨?_, ?_⟩
  · rw [PyData.canLay0]
    exact h1
  · rw [PyData.depth]
    omega
theorem Sh.up {n m : Nat} {d : PyData} (h : Sh n d) (e : n ≤ m) : Sh m d := ⟨h.1, Nat.le_trans h.2 e⟩
theorem Sh.shaped {n : Nat} {d : PyData} (h : Sh n d) (e : n ≤ 64) : SeqAt.shaped d = true := by
  unfold SeqAt.shaped
  rw [h.1, decide_eq_true (Nat.le_trans h.2 e)]
  rfl
theorem Sh.refl {n : Nat} {d : PyData} (h : Sh n d) : PyData.eqv d d = true := SeqAt.eqv_refl d h.1
theorem sh_ints (ns : List Int) : ∀ d ∈ ns.map PyData.int, Sh 0 d := fun d hd => by
  obtain ⟨i, _, rfl⟩ := List.mem_map.mp hd
  exact sh_int i
section
variable {K : PySem.W.Frag} {H H' : Hp}
theorem dp_ints : ∀ ns : List Int, DpAll K H (ns.map V.int) (ns.map PyData.int)
  | [] => .nil
  | n :: r => .cons (.int n) (dp_ints r)
mutual
theorem dp_mono (e : Ex H H') : ∀ {v : V} (d : PyData), Dp K H v d → Dp K H' v d
  | _, .none, h => by cases h; exact .non
  | _, .bool b, h => by cases h; exact .bl b
  | _, .int i, h => by cases h; exact .int i
  | _, .str x, h => by cases h; exact .str x
  | _, .list ds, h => by
    cases h with
    | lst h1 h2 => exact .lst (ex_l e h1) (dpa_mono e ds h2)
  | _, .tuple ds, h => by
    cases h with
    | tup h1 h2 => exact .tup (ex_t e h1) (dpa_mono e ds h2)
  | _, .dict _, h => by cases h
theorem dpa_mono (e : Ex H H') : ∀ {vs : List V} (ds : List PyData), DpAll K H vs ds → DpAll K H' vs ds
  | _, [], h => by cases h; exact .nil
  | _, d :: ds, h => by
    cases h with
    | cons h1 h2 => exact .cons (dp_mono e d h1) (dpa_mono e ds h2)
end
/-- two values of the same data: == True, != False -/
theorem rv_eqD {x y : V} {d : PyData} {n : Nat} (hx : Dp K H x d) (hy : Dp K H y d) (s : Sh n d) (hn : n ≤ 64) : RV (rEqD K) x y H (.bl true) := rv_val fun H1 e Q q =>
  ⟨d, d, dp_mono e d hx, dp_mono e d hy, s.shaped hn, s.shaped hn, by rw [s.refl]; exact q⟩
theorem rv_neD {x y : V} {d : PyData} {n : Nat} (hx : Dp K H x d) (hy : Dp K H y d) (s : Sh n d) (hn : n ≤ 64) : RV (rNeD K) x y H (.bl false) := rv_val fun H1 e Q q =>
  ⟨d, d, dp_mono e d hx, dp_mono e d hy, s.shaped hn, s.shaped hn, by rw [s.refl]; exact q⟩
/-- of any two data -/
theorem rv_neDD {x y : V} {d f : PyData} {n : Nat} (hx : Dp K H x d) (hy : Dp K H y f) (s : Sh n d) (s' : Sh n f) (hn : n ≤ 64) : RV (rNeD K) x y H (.bl (!PyData.eqv d f)) := rv_val fun H1 e Q q =>
  ⟨d, f, dp_mono e d hx, dp_mono e f hy, s.shaped hn, s'.shaped hn, q⟩
theorem rv_eqDD {x y : V} {d f : PyData} {n : Nat} (hx : Dp K H x d) (hy : Dp K H y f) (s : Sh n d) (s' : Sh n f) (hn : n ≤ 64) : RV (rEqD K) x y H (.bl (PyData.eqv d f)) := rv_val fun H1 e Q q =>
  ⟨d, f, dp_mono e d hx, dp_mono e f hy, s.shaped hn, s'.shaped hn, q⟩
theorem rv_ltT {a b : Addr} {ns ms : List Int} (ha : SqT K H a (ns.map V.int)) (hb : SqT K H b (ms.map V.int)) : RV (rLtT K) (.ref a) (.ref b) H (.bl (HT.lexLt ns ms)) := rv_val fun H1 e Q q =>
  ⟨a, b, ns, ms, rfl, rfl, ex_t e ha, ex_t e hb, q⟩
def leV (ns ms : List Int) : Bool := Ob.lexAt (fun j => decide (ns.getD j 0 = ms.getD j 0)) (fun j => decide (ns.getD j 0 ≤ ms.getD j 0)) (decide (ns.length ≤ ms.length)) 0 (min ns.length ms.length)
theorem rv_leT {a b : Addr} {ns ms : List Int} (ha : SqT K H a (ns.map V.int)) (hb : SqT K H b (ms.map V.int)) : RV (rLeT K) (.ref a) (.ref b) H (.bl (leV ns ms)) := rv_val fun H1 e Q q =>
  ⟨a, b, ns, ms, rfl, rfl, ex_t e ha, ex_t e hb, q⟩

/-! ### reading a cell of the script -/
def cellv (ns : List Int) (k : Nat) : Int := ns.getD k 0
theorem cellv_in {ns : List Int} {k : Nat} (hk : k < ns.length) : (ns.map V.int)[k]? = some (.int (cellv ns k)) := by
  rw [List.getElem?_map, List.getElem?_eq_getElem hk]
  unfold cellv
  rw [List.getD_eq_getElem?_getD, List.getElem?_eq_getElem hk]
  rfl
theorem cellv_out {ns : List Int} {k : Nat} (hk : ns.length ≤ k) : cellv ns k = 0 := by
  unfold cellv
  rw [List.getD_eq_getElem?_getD, List.getElem?_eq_none hk]
  rfl
def spCel (K : PySem.W.Frag) : Sp := fun vs H Q _ => ∃ (a : Addr) (ns : List Int) (k : Nat), vs = [.ref a, .int (k : Int)] ∧ SqL K H a (ns.map V.int) ∧ RetV (.int (cellv ns k)) H Q
theorem sv_cell {a : Addr} {ns : List Int} {k : Nat} {z : Int} (h : SqL K H a (ns.map V.int)) (e : z = (k : Int)) : SpV (spCel K) [.ref a, .int z] H (.int (cellv ns k)) := fun H1 e1 Q q E =>
  ⟨a, ns, k, by rw [e], ex_l e1 h, fun H2 e2 => q H2 e2⟩
end
end LK

namespace K03
open PySem PySem.Spec PyProof.Rows L2 Evl LK LT LG LS LQ
def top (i : Nat) : Stmt := PySem.Challenge.pw_laminae_k03_words.main.body.getD i (.Pass ⟨0, 0, 0, 0⟩)
abbrev sIw : Stmt := top 1
theorem scIw : FnScope ["value"] ["value"] (defScope sIw) := ⟨rfl, rfl, rfl, by decide +kernel, rfl, by decide +kernel, by decide +kernel⟩
abbrev sAre : Stmt := top 2
theorem scAre : FnScope ["values", "many"] ["values", "many"] (defScope sAre) := ⟨rfl, rfl, rfl, by decide +kernel, rfl, by decide +kernel, by decide +kernel⟩
abbrev sTape : Stmt := top 4
theorem scTape : FnScope ["script", "tape", "k", "value", "step"] ["script"] (defScope sTape) := ⟨rfl, rfl, rfl, by decide +kernel, rfl, by decide +kernel, by decide +kernel⟩
abbrev sAt : Stmt := top 5
theorem scAt : FnScope ["tape", "k"] ["tape", "k"] (defScope sAt) := ⟨rfl, rfl, rfl, by decide +kernel, rfl, by decide +kernel, by decide +kernel⟩
abbrev sValue : Stmt := top 6
theorem scValue : FnScope ["cell", "number", "menu"] ["cell", "number"] (defScope sValue) := ⟨rfl, rfl, rfl, by decide +kernel, rfl, by decide +kernel, by decide +kernel⟩
abbrev sLiw : Stmt := top 7
theorem scLiw : FnScope ["value"] ["value"] (defScope sLiw) := ⟨rfl, rfl, rfl, by decide +kernel, rfl, by decide +kernel, by decide +kernel⟩
abbrev sRight : Stmt := top 8
theorem scRight : FnScope ["told", "due"] ["told", "due"] (defScope sRight) := ⟨rfl, rfl, rfl, by decide +kernel, rfl, by decide +kernel, by decide +kernel⟩
abbrev sLaw : Stmt := top 9
theorem scLaw : FnScope ["script", "tape", "cell", "value", "many", "values", "due", "kept", "size", "k"] ["script"] (defScope sLaw) := ⟨rfl, rfl, rfl, by decide +kernel, rfl, by decide +kernel, by decide +kernel⟩
structure Txt (mg : Str → Option Value) : Prop where
  len : mg "len" = none
  range : mg "range" = none
  abs : mg "abs" = none
  int : mg "int" = none
  isinstance : mg "isinstance" = none
  bool : mg "bool" = none
  list : mg "list" = none
  tuple : mg "tuple" = none
  all : mg "all" = none
/-! ### the tape: some numbers from 0 to 999 -/
def Good (ts : List Int) : Prop := ∀ t ∈ ts, 0 ≤ t ∧ t < 1000
theorem Good.snoc {ts : List Int} {t : Int} (h : Good ts) (h0 : 0 ≤ t) (h1 : t < 1000) : Good (ts ++ [t]) := fun z hz => by
  rcases List.mem_append.mp hz with q | q
  · exact h z q
  · rw [List.mem_singleton.mp q]
    exact ⟨h0, h1⟩
theorem Good.cell {ts : List Int} (h : Good ts) (k : Nat) : 0 ≤ cellv ts k ∧ cellv ts k < 1000 := by
  unfold cellv
  rw [List.getD_eq_getElem?_getD]
  cases e : ts[k]? with
  | none => exact ⟨by decide, by decide⟩
  | some t => exact h t (List.mem_of_getElem? e)
def spTape (K : PySem.W.Frag) : Sp := fun vs H Q _ => ∃ (a : Addr) (ns : List Int), vs = [.ref a] ∧ SqL K H a (ns.map V.int) ∧ ns.length ≤ 63 ∧ ∀ (p : Addr) (H' : Hp) (ts : List Int), H p = none → Ex H H' → H' p = some (.lst (ts.map V.int)) → Good ts → ts.length ≤ 3780 → Q (.ref p) H'
section
variable {P : Program} {w : World} {K : PySem.W.Frag} {mg : Str → Option Value} {base : Heap} 
theorem ok_tape {f : Addr} {fd : FuncData} (F : Fun K "_law_tape" "_law_tape" sTape f fd) (T : Txt mg ) : FnOk P w K mg base CX0 1 f fd ["script"] (spTape K) := by
  refine F.ok scTape (fun vs H Q E h => ?_) (fun cdv A outer s H vs Q E hr h => ?_)
  · obtain ⟨a, ns, rfl, _⟩ := h
    rfl
  · obtain ⟨a, ns, rfl, hS, hlen, q⟩ := h
    refine ⟨_, (pss_cons (ps_set (i := 1) scTape.nd rfl (Or.inl rfl) (pe_lst pa_nil))
      (pss_cons (ps_for PassesOwn.never rfl (pi_range1 (by rfl) T.range (pa_cons (pe_callB call_len_seq (by rfl) T.len (by decide +kernel) (pa_cons (pv 0) pa_nil)) pa_nil)) (pg_name (i := 2) scTape.nd rfl (Or.inl rfl)) (pss_cons (ps_set (i := 3) scTape.nd rfl (Or.inl rfl) (pe_callB call_abs (by rfl) T.abs (by decide +kernel) (pa_cons (pe_callTy call_int1 (by rfl) T.int (by decide +kernel) (pa_cons (pe_ix ix_list (pv 0) (pv 2) (fun _ _ => rfl)) pa_nil)) pa_nil)))
      (pss_one (ps_if (pt_cmpR op_ge (pv 3) (pe_op op_pow pe_int pe_int) (nomark _)) (pss_one (ps_for PassesOwn.never rfl (pi_range1 (by rfl) T.range (pa_cons pe_int pa_nil)) (pg_name (i := 4) scTape.nd rfl (Or.inl rfl)) (pss_one (ps_if (pt_cmpR op_gt (pv 3) pe_int (nomark _)) (pss_cons (ps_expr (pe_bm PySem.F.plainAttrs_list PySem.F.slot_list_append PySem.F.type_list_append mt_append (pv 1) (pa_cons (pe_op op_mod (pv 3) pe_int) pa_nil)))
      (pss_one (ps_set (i := 3) scTape.nd rfl (Or.inl rfl) (pe_op op_fdiv (pv 3) pe_int)))) pss_nil)))) (pss_one (ps_for PassesOwn.never rfl (pi_range1 (by rfl) T.range (pa_cons pe_int pa_nil)) (pg_name (i := 4) scTape.nd rfl (Or.inl rfl)) (pss_cons (ps_set (i := 3) scTape.nd rfl (Or.inl rfl) (pe_op op_mod (pe_op op_add (pe_op op_add (pe_op op_mul (pv 3) pe_int) (pe_op op_mul pe_int (pe_op op_add (pv 2) pe_int))) (pe_op op_mul pe_int (pv 4))) pe_int))
      (pss_cons (ps_set (i := 3) scTape.nd rfl (Or.inl rfl) (pe_op op_mod (pe_op op_mul (pv 3) pe_int) pe_int))
      (pss_one (ps_expr (pe_bm PySem.F.plainAttrs_list PySem.F.slot_list_append PySem.F.type_list_append mt_append (pv 1) (pa_cons (pe_op op_mod (pe_op op_fdiv (pv 3) pe_int) pe_int) pa_nil))))))))))))
      (pss_one (ps_ret (pv 1))))), ?_⟩
    refine q_asgL (el_lst ea_nil (by decide)) fun ta H1 hta e1 h1 => ?_
    have len : Ev (tCB (rLenS K) (tCons (tVar 0) tNil)) [some (.ref a), some (.ref ta), none, none, none] H1 (.int (ns.length : Int)) := ev_is (ev_len (ev_var rfl) (ex_l e1 hS)) (by rw [List.length_map])
    refine q_forR1 (n := (ns.length : Int)) (ea_cons len ea_nil) ⟨by omega, by omega⟩
      (fun i σ' H' => ∃ ts y2 y3 y4, σ' = [some (.ref a), some (.ref ta), y2, y3, y4] ∧ Ex H H' ∧ H' ta = some (.lst (ts.map V.int)) ∧ Good ts ∧ ts.length ≤ 60 * i)
      (fun H2 e2 => ⟨[], none, none, none, rfl, e1.trans e2, e2 _ _ h1, (fun _ z => by cases z), by simp⟩) ?_ ?_
    · rintro i σ' H' hi ⟨ts, y2, y3, y4, rfl, e0, ht, hg, hl⟩
      have hi' : i < ns.length := by omega
      refine q_asg (ev_cb (ea_cons (ev_cb (ea_cons (ev_op (ev_var rfl) (ev_var rfl) (rv_ixL (ex_l e0 hS) (atI_nat (v := .int ns[i]) (by rw [List.getElem?_map, List.getElem?_eq_getElem hi']; rfl)))) ea_nil) (fun H1 _ Q q => .inl ⟨_, rfl, q _ (Ex.refl _)⟩)) ea_nil) (fun H1 _ Q q => ⟨_, rfl, q _ (Ex.refl _)⟩)) fun H2 e2 => ?_
      generalize (if ns[i] < 0 then -ns[i] else ns[i]) = v
      refine s_if (et_test (ev_op (ev_var rfl) (ev_op ev_c ev_c (rv_I ⟨by decide, by decide, by decide⟩)) rv_I0)) (fun _ H3 e3 => ?_) (fun _ H3 e3 => ?_)
      · refine s_forR1 (n := 60) (ea_cons ev_c ea_nil) ⟨by decide, by decide⟩ (fun j σ2 H4 => ∃ us z y4, σ2 = [some (.ref a), some (.ref ta), some (.int (i : Int)), some (.int z), y4] ∧ Ex H H4 ∧ H4 ta = some (.lst (us.map V.int)) ∧ Good us ∧ us.length ≤ 60 * i + j)
          (fun H4 e4 => ⟨ts, v, y4, rfl, ((e0.trans e2).trans e3).trans e4, ((e2.trans e3).trans e4) _ _ ht, hg, by omega⟩) ?_ ?_
        · rintro j σ2 H4 hj ⟨us, z, y4', rfl, e4, hu, hgu, hlu⟩
          refine s_when (et_test (ev_op (ev_var rfl) ev_c rv_I0)) (fun _ H5 e5 => ?_) (fun _ H5 e5 => ⟨us, z, _, rfl, e4.trans e5, e5 _ _ hu, hgu, by omega⟩)
          refine q_app (v := .int (z % 1000)) (e5 _ _ hu) (ev_var rfl) (ev_op (ev_var rfl) ev_c (rv_I (by show (0 : Int) < 1000; decide))) (by rw [List.length_map]; omega) fun H6 e6 => ?_
          have nta : H ta = none := hta
          refine s_asg (ev_op (ev_var rfl) ev_c (rv_I ⟨by decide, by decide⟩)) fun H7 e7 => ⟨us ++ [z % 1000], _, _, rfl, ((e4.trans e5).trans e6).mut nta |>.trans e7, ?_, hgu.snoc (by omega) (by omega), by rw [List.length_append, List.length_singleton]; omega⟩
          rw [e7 ta _ upd_same, List.map_append]
          rfl
        · rintro σ2 H4 ⟨us, z, y4', rfl, e4, hu, hgu, hlu⟩
          exact ⟨us, _, _, _, rfl, e4, hu, hgu, by show us.length ≤ 60 * (i + 1); have : us.length ≤ 60 * i + (60 : Int).toNat := hlu; omega⟩
      · refine s_forR1 (n := 4) (ea_cons ev_c ea_nil) ⟨by decide, by decide⟩ (fun j σ2 H4 => ∃ us z y4, σ2 = [some (.ref a), some (.ref ta), some (.int (i : Int)), some (.int z), y4] ∧ Ex H H4 ∧ H4 ta = some (.lst (us.map V.int)) ∧ Good us ∧ us.length ≤ 60 * i + j)
          (fun H4 e4 => ⟨ts, v, y4, rfl, ((e0.trans e2).trans e3).trans e4, ((e2.trans e3).trans e4) _ _ ht, hg, by omega⟩) ?_ ?_
        · rintro j σ2 H4 hj ⟨us, z, y4', rfl, e4, hu, hgu, hlu⟩
          refine q_asg (ev_op (ev_op (ev_op (ev_op (ev_var rfl) ev_c (rv_I (.inr ⟨by decide, by decide⟩))) (ev_op ev_c (ev_op (ev_var rfl) ev_c rv_I0) (rv_I (.inl ⟨by decide, by decide⟩))) rv_I0) (ev_op ev_c (ev_var rfl) (rv_I (.inl ⟨by decide, by decide⟩))) rv_I0) ev_c (rv_I (by show (0 : Int) < 2147483647; decide))) fun H5 e5 => ?_
          refine q_asg (ev_op (ev_op (ev_var rfl) ev_c (rv_I (.inr ⟨by decide, by decide⟩))) ev_c (rv_I (by show (0 : Int) < 2147483647; decide))) fun H6 e6 => ?_
          generalize (z * 48271 + 69621 * ((i : Int) + 1) + 7 * (j : Int)) % 2147483647 * 16807 % 2147483647 = z2
          refine s_app (v := .int (z2 / 1000 % 1000)) ((e5.trans e6) _ _ hu) (ev_var rfl) (ev_op (ev_op (ev_var rfl) ev_c (rv_I ⟨by decide, by decide⟩)) ev_c (rv_I (by show (0 : Int) < 1000; decide))) (by rw [List.length_map]; omega) fun H7 e7 => ⟨us ++ [z2 / 1000 % 1000], z2, _, rfl, (((e4.trans e5).trans e6).trans e7).mut hta, ?_, hgu.snoc (by omega) (by omega), by rw [List.length_append, List.length_singleton]; omega⟩
          rw [upd_same, List.map_append]
          rfl
        · rintro σ2 H4 ⟨us, z, y4', rfl, e4, hu, hgu, hlu⟩
          exact ⟨us, _, _, _, rfl, e4, hu, hgu, by show us.length ≤ 60 * (i + 1); have : us.length ≤ 60 * i + (4 : Int).toNat := hlu; omega⟩
    · rintro σ' H' ⟨ts, y2, y3, y4, rfl, e0, ht, hg, hl⟩
      exact s_ret (ev_var rfl) fun H2 e2 => q ta H2 ts hta (e0.trans e2) (e2 _ _ ht) hg (by have : ts.length ≤ 60 * (ns.length : Int).toNat := hl; omega)
theorem ok_at {f : Addr} {fd : FuncData} (F : Fun K "_law_at" "_law_at" sAt f fd) (T : Txt mg ) : FnOk P w K mg base CX0 1 f fd ["tape", "k"] (spCel K) := by
  refine F.ok scAt (fun vs H Q E h => ?_) (fun cdv A outer s H vs Q E hr h => ?_)
  · obtain ⟨a, ns, k, rfl, _⟩ := h
    rfl
  · obtain ⟨a, ns, k, rfl, hS, q⟩ := h
    refine ⟨_, (pss_cons (ps_if (pt_cmpR op_lt (pv 1) (pe_callB call_len_seq (by rfl) T.len (by decide +kernel) (pa_cons (pv 0) pa_nil)) (nomark _)) (pss_one (ps_ret (pe_ix ix_list (pv 0) (pv 1) (fun _ _ => rfl)))) pss_nil)
      (pss_one (ps_ret pe_int))), ?_⟩
    refine q_when (et_test (ev_op (ev_var rfl) (ev_len (ev_var rfl) hS) rv_I0)) (fun hb H1 e1 => ?_) (fun hb H1 e1 => ?_)
    · have hk : k < ns.length := by
        have := of_decide_eq_true hb
        rw [List.length_map] at this
        omega
      exact s_ret (ev_op (ev_var rfl) (ev_var rfl) (rv_ixL (ex_l e1 hS) (atI_nat (cellv_in hk)))) fun H2 e2 => q H2 (e1.trans e2)
    · have hk : ns.length ≤ k := by
        have := of_decide_eq_false hb
        rw [List.length_map] at this
        omega
      rw [cellv_out hk] at q
      exact s_ret ev_c fun H2 e2 => q H2 (e1.trans e2)
end

/-! ### values of a known kind -/
inductive Kd (H : Hp) : V → String → Prop
  | non : Kd H .non "NoneType"
  | bl (b : Bool) : Kd H (.bl b) "bool"
  | int (i : Int) : Kd H (.int i) "int"
  | str (z : Str) : Kd H (.str z) "str"
  | lst {a : Addr} {xs : List V} (h : H a = some (.lst xs)) : Kd H (.ref a) "list"
  | tup {a : Addr} {xs : List V} (h : H a = some (.tup xs)) : Kd H (.ref a) "tuple"
theorem Kd.mono {H H' : Hp} {v : V} {n : String} (e : Ex H H') : Kd H v n → Kd H' v n
  | .non => .non
  | .bl b => .bl b
  | .int i => .int i
  | .str z => .str z
  | .lst h => .lst (e _ _ h)
  | .tup h => .tup (e _ _ h)
theorem Kd.ty {K : PySem.W.Frag} {H : Hp} {v : V} {n : String} : Kd H v n → TyOf K H v (.type n)
  | .non => .non
  | .bl b => .bl b
  | .int i => .int i
  | .str z => .str z
  | .lst h => .lst h
  | .tup h => .tup h
theorem Kd.no {H : Hp} {v : V} {n : String} (k : Kd H v n) : ∀ a C dx fs, H a = some (.ins C dx fs) → v ≠ .ref a := fun a C dx fs h e => by
  cases k with
  | lst h2 =>
    cases e
    rw [h] at h2
    cases h2
  | tup h2 =>
    cases e
    rw [h] at h2
    cases h2
  | _ => cases e
def wd : V → Bool
  | .int i => decide (0 ≤ i)
  | _ => false
/-- isinstance(v, int), isinstance(v, bool) -/
def kInt (n : String) : Bool := n == "int" || n == "bool"
theorem kd_int {K : PySem.W.Frag} {H : Hp} {v : V} {n : String} (k : Kd H v n) : PySem.W.kitOne K (.type n) (.type "int") = some (kInt n) := by
  cases k <;> exact kit_ty rfl
theorem kd_bool {K : PySem.W.Frag} {H : Hp} {v : V} {n : String} (k : Kd H v n) : PySem.W.kitOne K (.type n) (.type "bool") = some (n == "bool") := by
  cases k <;> exact kit_ty rfl
theorem kd_list {K : PySem.W.Frag} {H : Hp} {v : V} {n : String} (k : Kd H v n) : PySem.W.kitOne K (.type n) (.type "list") = some (n == "list") := by
  cases k <;> exact kit_ty rfl
section
variable {K : PySem.W.Frag} {σ : L2.St} {H : Hp} {ta tb : TE} {v : V}
theorem ev_isk {n m : String} {b : Bool} (h : Ev ta σ H v) (hn : Ev tb σ H (.ty m)) (k : Kd H v n) (hk : PySem.W.kitOne K (.type n) (.type m) = some b) : Ev (tCB (rIsi K) (tCons ta (tCons tb tNil))) σ H (.bl b) := ev_isi h hn (fun H1 e => .base (k.mono e).ty) hk
end
def spIw : Sp := fun vs H Q _ => ∃ (v : V) (n : String), vs = [v] ∧ Kd H v n ∧ RetV (.bl (wd v)) H Q
theorem sv_iw {v : V} {n : String} {H : Hp} (k : Kd H v n) : SpV spIw [v] H (.bl (wd v)) := fun H1 e Q q E => ⟨v, n, rfl, k.mono e, q⟩

section
variable {P : Program} {w : World} {K : PySem.W.Frag} {mg : Str → Option Value} {base : Heap}
theorem ok_iw {f : Addr} {fd : FuncData} (F : Fun K "is_word" "is_word" sIw f fd) (T : Txt mg) : FnOk P w K mg base CX0 1 f fd ["value"] spIw := by
  refine F.ok scIw (fun vs H Q E h => ?_) (fun cdv A outer s H vs Q E hr h => ?_)
  · obtain ⟨v, n, rfl, _⟩ := h
    rfl
  · obtain ⟨v, n, rfl, k, q⟩ := h
    refine ⟨_, (pss_one (ps_ret (pe_and (pe_callB call_isi (by rfl) T.isinstance (by decide +kernel) (pa_cons (pv 0) (pa_cons (pe_bltn (v := .ty "int") (u := .type "int") (by rfl) T.int (by decide +kernel) rfl) pa_nil))) (pe_and (pe_not (pe_callB call_isi (by rfl) T.isinstance (by decide +kernel) (pa_cons (pv 0) (pa_cons (pe_bltn (v := .ty "bool") (u := .type "bool") (by rfl) T.bool (by decide +kernel) rfl) pa_nil)))) (pe_one (pe_cmpR op_ge (pv 0) pe_int (nomark _))))))), ?_⟩
    have i1 := ev_isk (K := K) (σ := [some v]) (ta := tVar 0) (tb := tC (.ty "int")) (ev_var rfl) ev_c k (kd_int k)
    have i2 := ev_isk (K := K) (σ := [some v]) (ta := tVar 0) (tb := tC (.ty "bool")) (ev_var rfl) ev_c k (kd_bool k)
    cases k with
    | int i => exact s_ret (ev_is (ev_andV i1 (fun _ => ev_andV (ev_notV i2) (fun _ => ev_op (ev_var rfl) ev_c rv_I0))) rfl) fun H1 e1 => q H1 e1
    | bl b => exact s_ret (ev_is (ev_andV (b := false) i1 (fun _ => ev_andV (b := false) (ev_notV i2) (fun h => by cases h))) rfl) fun H1 e1 => q H1 e1
    | non => exact s_ret (ev_is (ev_andV (b := false) i1 (fun h => by cases h)) rfl) fun H1 e1 => q H1 e1
    | str z => exact s_ret (ev_is (ev_andV (b := false) i1 (fun h => by cases h)) rfl) fun H1 e1 => q H1 e1
    | lst h => exact s_ret (ev_is (ev_andV (b := false) i1 (fun h => by cases h)) rfl) fun H1 e1 => q H1 e1
    | tup h => exact s_ret (ev_is (ev_andV (b := false) i1 (fun h => by cases h)) rfl) fun H1 e1 => q H1 e1
theorem ok_liw {f : Addr} {fd : FuncData} (F : Fun K "_law_is_word" "_law_is_word" sLiw f fd) (T : Txt mg) : FnOk P w K mg base CX0 1 f fd ["value"] spIw := by
  refine F.ok scLiw (fun vs H Q E h => ?_) (fun cdv A outer s H vs Q E hr h => ?_)
  · obtain ⟨v, n, rfl, _⟩ := h
    rfl
  · obtain ⟨v, n, rfl, k, q⟩ := h
    refine ⟨_, (pss_one (ps_ret (pe_and (pe_callB call_isi (by rfl) T.isinstance (by decide +kernel) (pa_cons (pv 0) (pa_cons (pe_bltn (v := .ty "int") (u := .type "int") (by rfl) T.int (by decide +kernel) rfl) pa_nil))) (pe_and (pe_not (pe_callB call_isi (by rfl) T.isinstance (by decide +kernel) (pa_cons (pv 0) (pa_cons (pe_bltn (v := .ty "bool") (u := .type "bool") (by rfl) T.bool (by decide +kernel) rfl) pa_nil)))) (pe_one (pe_cmpR op_ge (pv 0) pe_int (nomark _))))))), ?_⟩
    have i1 := ev_isk (K := K) (σ := [some v]) (ta := tVar 0) (tb := tC (.ty "int")) (ev_var rfl) ev_c k (kd_int k)
    have i2 := ev_isk (K := K) (σ := [some v]) (ta := tVar 0) (tb := tC (.ty "bool")) (ev_var rfl) ev_c k (kd_bool k)
    cases k with
    | int i => exact s_ret (ev_is (ev_andV i1 (fun _ => ev_andV (ev_notV i2) (fun _ => ev_op (ev_var rfl) ev_c rv_I0))) rfl) fun H1 e1 => q H1 e1
    | bl b => exact s_ret (ev_is (ev_andV (b := false) i1 (fun _ => ev_andV (b := false) (ev_notV i2) (fun h => by cases h))) rfl) fun H1 e1 => q H1 e1
    | non => exact s_ret (ev_is (ev_andV (b := false) i1 (fun h => by cases h)) rfl) fun H1 e1 => q H1 e1
    | str z => exact s_ret (ev_is (ev_andV (b := false) i1 (fun h => by cases h)) rfl) fun H1 e1 => q H1 e1
    | lst h => exact s_ret (ev_is (ev_andV (b := false) i1 (fun h => by cases h)) rfl) fun H1 e1 => q H1 e1
    | tup h => exact s_ret (ev_is (ev_andV (b := false) i1 (fun h => by cases h)) rfl) fun H1 e1 => q H1 e1
/-- is_word(x) in an element of a generator expression -/
theorem qv_iw {X : Cx} {σ : L2.St} {H : Hp} {Pt : Addr} {scope : Scope} {x : Str} {u : Value} {v : V} {n : String} {a : Expr} {pos p : Pos} {f : Addr} {fd : FuncData} {j : Nat} (hr : Room j X.A) (T : Txt X.mg) (F : Fun X.K "is_word" "is_word" sIw f fd) (bI : Binds X.K fd ["value"] []) (gI : X.mg "is_word" = some (.ref f)) (hT : Tab H Pt) (k : Kd H v n)
    (hk : scope.kind = .function) (hl : scope.names.lookup ("is_word" : Str) = some .globalImplicit) (ha : QV X σ H Pt scope x u a v) (hs : ∀ env, starEach [a] env = (false, eval a env) :: starEach [] env := by intro _; rfl) : QV X σ H Pt scope x u (.Call (.Name "is_word" p) [a] [] pos) (.bl (wd v)) := by
  refine qv_call1 hr hk hl gI F rfl scIw rfl bI ha (fun A0 r hr0 => ?_) hs (by decide)
  have kk := k
  have b1 := kd_int (K := X.K) k
  have b2 := kd_bool (K := X.K) k
  have ty := k.ty (K := X.K)
  have no := k.no
  cases k with
  | int i => exact qv_is (qv_and (qv_blt2 rfl rfl T.isinstance (by decide +kernel) (qv_x rfl rfl hr0) (qv_blt (z := .ty "int") (r := .type "int") rfl rfl T.int (by decide +kernel) rfl) (qr_isi hT ty no b1)) (fun _ => qv_and (qv_not (qv_blt2 rfl rfl T.isinstance (by decide +kernel) (qv_x rfl rfl hr0) (qv_blt (z := .ty "bool") (r := .type "bool") rfl rfl T.bool (by decide +kernel) rfl) (qr_isi hT ty no b2))) (fun _ => qv_one (qv_cmp qr_ge_int (qv_x rfl rfl hr0) qv_int (nomark _))))) rfl
  | bl b => exact qv_is (qv_and (d := false) (qv_blt2 rfl rfl T.isinstance (by decide +kernel) (qv_x rfl rfl hr0) (qv_blt (z := .ty "int") (r := .type "int") rfl rfl T.int (by decide +kernel) rfl) (qr_isi hT ty no b1)) (fun _ => qv_is (qv_and (d := false) (qv_not (qv_blt2 rfl rfl T.isinstance (by decide +kernel) (qv_x rfl rfl hr0) (qv_blt (z := .ty "bool") (r := .type "bool") rfl rfl T.bool (by decide +kernel) rfl) (qr_isi hT ty no b2))) (fun h => by cases h)) (show _ = V.bl false from rfl))) rfl
  | non => exact qv_is (qv_and (d := false) (qv_blt2 rfl rfl T.isinstance (by decide +kernel) (qv_x rfl rfl hr0) (qv_blt (z := .ty "int") (r := .type "int") rfl rfl T.int (by decide +kernel) rfl) (qr_isi hT ty no b1)) (fun h => by cases h)) rfl
  | str z => exact qv_is (qv_and (d := false) (qv_blt2 rfl rfl T.isinstance (by decide +kernel) (qv_x rfl rfl hr0) (qv_blt (z := .ty "int") (r := .type "int") rfl rfl T.int (by decide +kernel) rfl) (qr_isi hT ty no b1)) (fun h => by cases h)) rfl
  | lst h => exact qv_is (qv_and (d := false) (qv_blt2 rfl rfl T.isinstance (by decide +kernel) (qv_x rfl rfl hr0) (qv_blt (z := .ty "int") (r := .type "int") rfl rfl T.int (by decide +kernel) rfl) (qr_isi hT ty no b1)) (fun h => by cases h)) rfl
  | tup h => exact qv_is (qv_and (d := false) (qv_blt2 rfl rfl T.isinstance (by decide +kernel) (qv_x rfl rfl hr0) (qv_blt (z := .ty "int") (r := .type "int") rfl rfl T.int (by decide +kernel) rfl) (qr_isi hT ty no b1)) (fun h => by cases h)) rfl
/-- are_words of a list, of anything else -/
def spAre (Pt : Addr) : Sp := fun vs H Q _ => Tab H Pt ∧ ((∃ (a : Addr) (xs : List V) (many : Int), vs = [.ref a, .int many] ∧ H a = some (.lst xs) ∧ (∀ x ∈ xs, ∃ n, Kd H x n) ∧ RetV (.bl (decide ((xs.length : Int) = many) && xs.all wd)) H Q) ∨
  (∃ (v : V) (n : String) (many : Int), vs = [v, .int many] ∧ Kd H v n ∧ n ≠ "list" ∧ RetV (.bl false) H Q))
theorem ok_are {f c Pt fI : Addr} {fd fdI : FuncData} (F : FunC K "are_words" "are_words" sAre f fd c) (TB : LamX.TabB base mg c Pt) (T : Txt mg) (FI : Fun K "is_word" "is_word" sIw fI fdI) (bI : Binds K fdI ["value"] []) (gI : mg "is_word" = some (.ref fI)) : FnOk P w K mg base CX0 1 f fd ["values", "many"] (spAre Pt) := by
  refine F.ok scAre (fun vs H Q E h => ?_) (fun A outer s H vs Q E hr h => ?_)
  · obtain ⟨_, ⟨a, xs, m, rfl, _⟩ | ⟨v, n, m, rfl, _⟩⟩ := h <;> rfl
  · refine ⟨_, (pss_cons (ps_if (PW.pt (pw_or (pt_not (pt_val (pe_callB call_isi (by rfl) T.isinstance (by decide +kernel) (pa_cons (pv 0) (pa_cons (pe_bltn (v := .ty "list") (u := .type "list") (by rfl) T.list (by decide +kernel) rfl) pa_nil))))) (pw_or1 (pt_cmpR op_ne (pe_callB call_len_seq (by rfl) T.len (by decide +kernel) (pa_cons (pv 0) pa_nil)) (pv 1) (nomark _))))) (pss_one (ps_ret pe_bl)) pss_nil)
      (pss_one (ps_ret (pe_all hr (by rfl) T.all (by decide +kernel) TB rfl ⟨rfl, rfl, by decide +kernel, rfl, rfl, fun y hy e => absurd e ((by decide +kernel : ∀ y ∈ _, y.2 ≠ NameKind.free) y hy)⟩ (pv 0) (fun _ => rfl))))), ?_⟩
    obtain ⟨hT, ⟨a, xs, m, rfl, hS, hk, q⟩ | ⟨v, n, m, rfl, hk, hn, q⟩⟩ := h
    · refine q_when (b := !decide ((xs.length : Int) = m)) (et_is (et_or (et_not (et_B (ev_isk (ev_var rfl) ev_c (.lst hS) (kd_list (.lst hS))))) (fun _ => et_test (ev_op (ev_len (ev_var rfl) (sq_of hS)) (ev_var rfl) (rv_ne rfl)))) (by simp)) (fun hb H1 e1 => ?_) (fun hb H1 e1 => ?_)
      · have h0 : decide ((xs.length : Int) = m) = false := by simpa using hb
        rw [h0] at q
        exact s_ret ev_c fun H2 e2 => q H2 (e1.trans e2)
      · have h0 : decide ((xs.length : Int) = m) = true := by simpa using hb
        rw [h0] at q
        refine s_ret (ev_is (ev_gen (f := fun i => wd (xs.getD i .non)) (xs := fun i => xs.getD i .non) (n := xs.length) (ev_var rfl) (hT.mono e1) (fun H2 e2 => .inl ⟨a, xs, rfl, sq_of ((e1.trans e2) _ _ hS), rfl, fun i => rfl⟩) (fun H2 e2 i u hi hu => ?_)) ?_) fun H2 e2 => q H2 (e1.trans e2)
        · have hx : xs.getD i .non ∈ xs := by
            rw [List.getD_eq_getElem?_getD, List.getElem?_eq_getElem hi]
            exact List.getElem_mem hi
          obtain ⟨n, kn⟩ := hk _ hx
          exact qv_iw hr T FI bI gI (hT.mono (e1.trans e2)) (kn.mono (e1.trans e2)) rfl rfl (qv_x rfl rfl hu)
        · rw [allF_list xs .non wd]
          rfl
    · have hl : (n == "list") = false := by simpa using hn
      exact q_when (b := true) (et_is (et_or (b := false) (et_not (et_B (ev_isk (ev_var rfl) ev_c hk (kd_list hk)))) (fun h => by rw [hl] at h; cases h)) (by rw [hl]; rfl)) (fun _ H1 e1 => s_ret ev_c fun H2 e2 => q H2 (e1.trans e2)) (fun h => by cases h)
end
end K03

set_option Elab.async false
set_option linter.all false
set_option maxRecDepth 100000
set_option maxHeartbeats 4000000
namespace K03
open PySem PySem.Spec PyProof.Rows L2 Evl LK LT LG LS LQ
/-- a value of the law's menu -/
def Vv (K : PySem.W.Frag) (H : Hp) (v : V) : Prop := ∃ (n : String) (d : PyData), Kd H v n ∧ Dp K H v d ∧ Sh 1 d ∧ PyData.eqv d (.list [.int 1]) = decide (n = "list") ∧ (n = "list" → ∃ a, v = .ref a ∧ H a = some (.lst [.int 1]))
theorem Vv.mono {K : PySem.W.Frag} {H H' : Hp} {v : V} (e : Ex H H') : Vv K H v → Vv K H' v := fun ⟨n, d, h1, h2, h3, h4, h5⟩ => ⟨n, d, h1.mono e, dp_mono e d h2, h3, h4, fun hn => let ⟨a, q1, q2⟩ := h5 hn; ⟨a, q1, e _ _ q2⟩⟩
theorem vv_int {K : PySem.W.Frag} {H : Hp} (i : Int) : Vv K H (.int i) := ⟨"int", .int i, .int i, .int i, sh_int i 1, by simp [PyData.eqv], fun h => absurd h (by decide)⟩
def spValue (K : PySem.W.Frag) : Sp := fun vs H Q _ => ∃ (c : Int) (m : Int), vs = [.int c, .int m] ∧ 0 ≤ m ∧ ∀ v H', Ex H H' → Vv K H' v → Q v H'
def spRight : Sp := fun vs H Q _ => ∃ a : Bool, vs = [.bl a, .bl a] ∧ RetV (.bl true) H Q
theorem sv_right {a : Bool} {H : Hp} : SpV spRight [.bl a, .bl a] H (.bl true) := fun H1 e Q q E => ⟨a, rfl, q⟩
section
variable {P : Program} {w : World} {K : PySem.W.Frag} {mg : Str → Option Value} {base : Heap}
theorem ok_right {f : Addr} {fd : FuncData} (F : Fun K "_law_right" "_law_right" sRight f fd) (T : Txt mg) : FnOk P w K mg base CX0 1 f fd ["told", "due"] spRight := by
  refine F.ok scRight (fun vs H Q E h => ?_) (fun cdv A outer s H vs Q E hr h => ?_)
  · obtain ⟨a, rfl, _⟩ := h
    rfl
  · obtain ⟨a, rfl, q⟩ := h
    refine ⟨_, (pss_one (ps_ret (pe_and (pe_callB call_isi (by rfl) T.isinstance (by decide +kernel) (pa_cons (pv 0) (pa_cons (pe_bltn (v := .ty "bool") (u := .type "bool") (by rfl) T.bool (by decide +kernel) rfl) pa_nil))) (pe_one (pe_cmpR op_eq (pv 0) (pv 1) (nomark _)))))), ?_⟩
    exact s_ret (ev_is (ev_andV (ev_isk (ev_var rfl) ev_c (.bl a) (kd_bool (H := H) (.bl a))) (fun _ => ev_op (ev_var rfl) (ev_var rfl) (rv_eq rfl))) (by simp)) fun H1 e1 => q H1 e1
theorem ok_value {f : Addr} {fd : FuncData} (F : Fun K "_law_value" "_law_value" sValue f fd) (T : Txt mg) : FnOk P w K mg base CX0 1 f fd ["cell", "number"] (spValue K) := by
  refine F.ok scValue (fun vs H Q E h => ?_) (fun cdv A outer s H vs Q E hr h => ?_)
  · obtain ⟨c, m, rfl, _⟩ := h
    rfl
  · obtain ⟨c, m, rfl, hm, q⟩ := h
    refine ⟨_, (pss_cons (ps_set (i := 2) scValue.nd rfl (Or.inl rfl) (pe_lst (pa_cons pe_bl (pa_cons pe_bl (pa_cons pe_non (pa_cons pe_str (pa_cons pe_str (pa_cons (pe_tup (pa_cons pe_int (pa_cons pe_int pa_nil))) (pa_cons (pe_lst (pa_cons pe_int pa_nil)) (pa_cons (pe_un un_neg pe_int) (pa_cons pe_int pa_nil)))))))))))
      (pss_cons (ps_if (pt_cmpR op_eq (pe_op op_mod (pv 1) pe_int) pe_int (nomark _)) (pss_one (ps_ret (pe_ix ix_list (pv 2) (pe_op op_mod (pe_op op_fdiv (pv 1) pe_int) pe_int) (fun _ _ => rfl)))) pss_nil)
      (pss_cons (ps_if (pt_cmpR op_eq (pe_op op_mod (pv 1) pe_int) pe_int (nomark _)) (pss_one (ps_ret (pe_callTy call_int1 (by rfl) T.int (by decide +kernel) (pa_cons (pv 0) pa_nil)))) pss_nil)
      (pss_one (ps_ret (pe_callB call_abs (by rfl) T.abs (by decide +kernel) (pa_cons (pe_callTy call_int1 (by rfl) T.int (by decide +kernel) (pa_cons (pv 0) pa_nil)) pa_nil))))))), ?_⟩
    refine ⟨by show 2 ≤ sizeLine; decide, fun t ht => ⟨by show 1 ≤ sizeLine; decide, fun l hl => ⟨1, rfl, by show 9 ≤ sizeLine; decide, fun me hme => ?_⟩⟩⟩
    have e1 := Ex.new (o := .tup [.int 1, .int 2]) ht
    have e2 := Ex.new (o := .lst [.int 1]) hl
    have e3 := Ex.new (o := .lst [.bl true, .bl false, .non, .str "7", .str "", .ref t, .ref l, .int (-1), .int 0]) hme
    have g1 := (e2.trans e3) _ _ (upd_same (H := H) (a := t) (o := .tup [.int 1, .int 2]))
    have g2 := e3 _ _ (upd_same (H := upd H t (.tup [.int 1, .int 2])) (a := l) (o := .lst [.int 1]))
    have eA := (e1.trans e2).trans e3
    have g3 := upd_same (H := upd (upd H t (.tup [.int 1, .int 2])) l (.lst [.int 1])) (a := me) (o := .lst [.bl true, .bl false, .non, .str "7", .str "", .ref t, .ref l, .int (-1), .int 0])
    show tSeq _ _ _ _ _
    generalize upd (upd (upd H t (.tup [.int 1, .int 2])) l (.lst [.int 1])) me (.lst [.bl true, .bl false, .non, .str "7", .str "", .ref t, .ref l, .int (-1), .int 0]) = H1 at *
    refine q_when (et_test (ev_op (ev_op (ev_var rfl) ev_c (rv_I (by show (0 : Int) < 3; decide))) ev_c (rv_eq rfl))) (fun _ H2 f2 => ?_) (fun _ H2 f2 => ?_)
    · have m1 := Int.emod_nonneg (m / 3) (show (9 : Int) ≠ 0 by decide)
      have m2 := Int.emod_lt_of_pos (m / 3) (show (0 : Int) < 9 by decide)
      have ix : ∀ (j : Nat) (v : V), m / 3 % 9 = (j : Int) → ([.bl true, .bl false, .non, .str "7", .str "", .ref t, .ref l, .int (-1), .int 0] : List V)[j]? = some v → (∀ H3, Ex H2 H3 → Vv K H3 v) → tRet (tOp (rIxL K) (tVar 2) (tOp (rI (fun _ j => 0 < j) fun i j => .int (i % j)) (tOp (rI CDiv fun i j => .int (i / j)) (tVar 1) (tC (.int 3))) (tC (.int 9)))) { nx := fun _ H' => Q .non H', rt := Q } [some (.int c), some (.int m), some (.ref me)] H2 :=
        fun j v hj hv hV => s_ret (ev_op (ev_var rfl) (ev_op (ev_op (ev_var rfl) ev_c (rv_I ⟨by decide, by decide⟩)) ev_c (rv_I (by show (0 : Int) < 9; decide))) (rv_ixL (sq_of (f2 _ _ g3)) (at_of hj hv))) fun H3 e3 => q v H3 ((eA.trans f2).trans e3) (hV H3 e3)
      have cs : m / 3 % 9 = 0 ∨ m / 3 % 9 = 1 ∨ m / 3 % 9 = 2 ∨ m / 3 % 9 = 3 ∨ m / 3 % 9 = 4 ∨ m / 3 % 9 = 5 ∨ m / 3 % 9 = 6 ∨ m / 3 % 9 = 7 ∨ m / 3 % 9 = 8 := by omega
      rcases cs with h | h | h | h | h | h | h | h | h
      · exact ix 0 _ h rfl fun H3 _ => ⟨"bool", _, .bl true, .bl true, sh_bool _ 1, by simp [PyData.eqv], fun h => absurd h (by decide)⟩
      · exact ix 1 _ h rfl fun H3 _ => ⟨"bool", _, .bl false, .bl false, sh_bool _ 1, by simp [PyData.eqv], fun h => absurd h (by decide)⟩
      · exact ix 2 _ h rfl fun H3 _ => ⟨"NoneType", _, .non, .non, sh_none 1, by simp [PyData.eqv], fun h => absurd h (by decide)⟩
      · exact ix 3 _ h rfl fun H3 _ => ⟨"str", _, .str _, .str _, ⟨by decide +kernel, by simp [PyData.depth]⟩, by simp [PyData.eqv], fun h => absurd h (by decide)⟩
      · exact ix 4 _ h rfl fun H3 _ => ⟨"str", _, .str _, .str _, ⟨by decide +kernel, by simp [PyData.depth]⟩, by simp [PyData.eqv], fun h => absurd h (by decide)⟩
      · exact ix 5 _ h rfl fun H3 f3 => ⟨"tuple", _, .tup ((f2.trans f3) _ _ g1), .tup (st_of ((f2.trans f3) _ _ g1)) (.cons (.int 1) (.cons (.int 2) .nil)), sh_tup (sh_ints [1, 2]), by simp [PyData.eqv], fun h => absurd h (by decide)⟩
      · exact ix 6 _ h rfl fun H3 f3 => ⟨"list", .list [.int 1], .lst ((f2.trans f3) _ _ g2), .lst (sq_of ((f2.trans f3) _ _ g2)) (.cons (.int 1) .nil), sh_lst (sh_ints [1]), (sh_lst (sh_ints [1])).refl, fun _ => ⟨l, rfl, (f2.trans f3) _ _ g2⟩⟩
      · exact ix 7 _ h rfl fun H3 _ => vv_int _
      · exact ix 8 _ h rfl fun H3 _ => vv_int _
    · refine q_when (et_test (ev_op (ev_op (ev_var rfl) ev_c (rv_I (by show (0 : Int) < 3; decide))) ev_c (rv_eq rfl))) (fun _ H3 f3 => ?_) (fun _ H3 f3 => ?_)
      · exact s_ret (ev_cb (ea_cons (ev_var rfl) ea_nil) (fun H1 _ Q q => .inl ⟨_, rfl, q _ (Ex.refl _)⟩)) fun H4 f4 => q _ H4 (((eA.trans f2).trans f3).trans f4) (vv_int _)
      · exact s_ret (ev_cb (ea_cons (ev_cb (ea_cons (ev_var rfl) ea_nil) (fun H1 _ Q q => .inl ⟨_, rfl, q _ (Ex.refl _)⟩)) ea_nil) (fun H1 _ Q q => ⟨_, rfl, q _ (Ex.refl _)⟩)) fun H4 f4 => q _ H4 (((eA.trans f2).trans f3).trans f4) (vv_int _)
end
end K03

set_option Elab.async false
set_option linter.all false
set_option maxRecDepth 100000
set_option maxHeartbeats 4000000
namespace K03
open PySem PySem.Spec PyProof.Rows L2 Evl LK LT LG LS LQ
def spLaw (K : PySem.W.Frag) (Pt : Addr) : Sp := fun vs H Q _ => ∃ (a : Addr) (ns : List Int), vs = [.ref a] ∧ SqL K H a (ns.map V.int) ∧ ns.length ≤ 63 ∧ Tab H Pt ∧ ∀ H', Ex H H' → Q (.bl true) H'
theorem nat_of {z : Int} (h : 0 ≤ z) : z = ((z.toNat : Nat) : Int) := by omega
/-- the words as they stand: a list at la, of many values, each known -/
def Vals3 (K : PySem.W.Frag) (H : Hp) (la : Addr) (many : Nat) (xs : List V) : Prop := H la = some (.lst xs) ∧ xs.length = many ∧ ∀ x ∈ xs, Vv K H x
theorem all_set {xs : List V} {j : Nat} {v : V} (h : xs.all wd = true) (hj : j < xs.length) : (xs.set j v).all wd = wd v := by
  rw [Bool.eq_iff_iff, List.all_eq_true]
  constructor
  · intro g
    exact g v (List.mem_iff_getElem.mpr ⟨j, by rw [List.length_set]; exact hj, by simp⟩)
  · intro g x hx
    rcases List.mem_or_eq_of_mem_set hx with q | q
    · exact List.all_eq_true.mp h x q
    · rw [q]
      exact g
theorem dp_all {K : PySem.W.Frag} {H : Hp} : ∀ {xs : List V}, (∀ x ∈ xs, Vv K H x) → ∃ ds, DpAll K H xs ds ∧ ∀ d ∈ ds, Sh 1 d
  | [], _ => ⟨[], .nil, fun d hd => by cases hd⟩
  | x :: xs, h => by
    obtain ⟨ds, h1, h2⟩ := dp_all fun y hy => h y (List.mem_cons_of_mem _ hy)
    obtain ⟨n, d, _, hd, hs, _⟩ := h x List.mem_cons_self
    refine ⟨d :: ds, .cons hd h1, fun e he => ?_⟩
    rcases List.mem_cons.mp he with q | q
    · rw [q]
      exact hs
    · exact h2 e q
section
variable {P : Program} {w : World} {K : PySem.W.Frag} {mg : Str → Option Value} {base : Heap}
theorem ok_law {f fI fW fT fA fV fL fR c Pt : Addr} {fd fdI fdW fdT fdA fdV fdL fdR : FuncData} (F : Fun K "law" "law" sLaw f fd) (FI : Fun K "is_word" "is_word" sIw fI fdI) (FW : FunC K "are_words" "are_words" sAre fW fdW c) (FT : Fun K "_law_tape" "_law_tape" sTape fT fdT) (FA : Fun K "_law_at" "_law_at" sAt fA fdA) (FV : Fun K "_law_value" "_law_value" sValue fV fdV) (FL : Fun K "_law_is_word" "_law_is_word" sLiw fL fdL) (FR : Fun K "_law_right" "_law_right" sRight fR fdR)
    (T : Txt mg) (TB : LamX.TabB base mg c Pt) (bI : Binds K fdI ["value"] []) (bW : Binds K fdW ["values", "many"] []) (bT : Binds K fdT ["script"] []) (bA : Binds K fdA ["tape", "k"] []) (bV : Binds K fdV ["cell", "number"] []) (bL : Binds K fdL ["value"] []) (bR : Binds K fdR ["told", "due"] [])
    (gI : mg "is_word" = some (.ref fI)) (gW : mg "are_words" = some (.ref fW)) (gT : mg "_law_tape" = some (.ref fT)) (gA : mg "_law_at" = some (.ref fA)) (gV : mg "_law_value" = some (.ref fV)) (gL : mg "_law_is_word" = some (.ref fL)) (gR : mg "_law_right" = some (.ref fR)) : FnOk P w K mg base CX0 2 f fd ["script"] (spLaw K Pt) := by
  have GI : FnOk P w K mg base CX0 1 fI fdI ["value"] spIw := ok_iw FI T
  have GW : FnOk P w K mg base CX0 1 fW fdW ["values", "many"] (spAre Pt) := ok_are FW TB T FI bI gI
  have GT : FnOk P w K mg base CX0 1 fT fdT ["script"] (spTape K) := ok_tape FT T
  have GA : FnOk P w K mg base CX0 1 fA fdA ["tape", "k"] (spCel K) := ok_at FA T
  have GV : FnOk P w K mg base CX0 1 fV fdV ["cell", "number"] (spValue K) := ok_value FV T
  have GL : FnOk P w K mg base CX0 1 fL fdL ["value"] spIw := ok_liw FL T
  have GR : FnOk P w K mg base CX0 1 fR fdR ["told", "due"] spRight := ok_right FR T
  refine F.ok scLaw (fun vs H Q E h => ?_) (fun cdv A outer s H vs Q E hr h => ?_)
  · obtain ⟨a, ns, rfl, _⟩ := h
    rfl
  · obtain ⟨a, ns, rfl, hS, hlen, hTab, q⟩ := h
    refine ⟨_, (pss_cons (ps_set (i := 1) scLaw.nd rfl (Or.inr rfl) (pe_call GT hr (by rfl) gT FT.kp bT .nil pass0 (pa_cons (pv 0) pa_nil)))
      (pss_cons (ps_set (i := 2) scLaw.nd rfl (Or.inl rfl) pe_int)
      (pss_cut (ps_if (pt_cmpR op_gt (pe_callB call_len_seq (by rfl) T.len (by decide +kernel) (pa_cons (pv 0) pa_nil)) pe_int (nomark _)) (pss_one (ps_set (i := 2) scLaw.nd rfl (Or.inl rfl) (pe_ix ix_list (pv 0) pe_int (fun _ _ => rfl)))) pss_nil)
      (pss_cons (ps_set (i := 3) scLaw.nd rfl (Or.inl rfl) (pe_call GV hr (by rfl) gV FV.kp bV .nil pass0 (pa_cons (pv 2) (pa_cons (pe_call GA hr (by rfl) gA FA.kp bA .nil pass0 (pa_cons (pv 1) (pa_cons pe_int pa_nil))) pa_nil))))
      (pss_cons (ps_if (pt_not (pt_val (pe_call GR hr (by rfl) gR FR.kp bR .nil pass0 (pa_cons (pe_call GI hr (by rfl) gI FI.kp bI .nil pass0 (pa_cons (pv 3) pa_nil)) (pa_cons (pe_call GL hr (by rfl) gL FL.kp bL .nil pass0 (pa_cons (pv 3) pa_nil)) pa_nil))))) (pss_one (ps_ret pe_bl)) pss_nil)
      (pss_cons (ps_set (i := 4) scLaw.nd rfl (Or.inl rfl) (pe_op op_mod (pe_call GA hr (by rfl) gA FA.kp bA .nil pass0 (pa_cons (pv 1) (pa_cons pe_int pa_nil))) pe_int))
      (pss_cut (ps_if (pt_cmpR op_eq (pe_op op_mod (pe_call GA hr (by rfl) gA FA.kp bA .nil pass0 (pa_cons (pv 1) (pa_cons pe_int pa_nil))) pe_int) pe_int (nomark _)) (pss_one (ps_set (i := 4) scLaw.nd rfl (Or.inl rfl) (pe_ix ix_list (pe_lst (pa_cons pe_int (pa_cons pe_int (pa_cons pe_int (pa_cons pe_int pa_nil))))) (pe_op op_mod (pe_call GA hr (by rfl) gA FA.kp bA .nil pass0 (pa_cons (pv 1) (pa_cons pe_int pa_nil))) pe_int) (fun _ _ => rfl)))) pss_nil)
      (pss_cons (ps_setLc (i := 5) (own := [("k", 9)]) (g := gName 9) (tt := tYes) rfl scLaw.nd rfl rfl (sw_true rfl rfl rfl (by decide +kernel)) (pi_range1 (by rfl) T.range (pa_cons (pv 4) pa_nil)) (blkOk_by (own := [("k", 9)]) (N := ["script", "tape", "cell", "value", "many", "values", "due", "kept", "size", "k"]) (sc := defScope sLaw) (by decide +kernel)) (fun _ _ _ _ _ => pg_name (i := 9) scLaw.nd rfl (Or.inl rfl)) (fun _ _ _ _ _ => pts_nil) (fun _ _ _ _ _ => (pe_call GA hr (by rfl) gA FA.kp bA .nil pass0 (pa_cons (pv 1) (pa_cons (pe_op op_add pe_int (pv 9)) pa_nil)))))
      (pss_cons (ps_set (i := 6) scLaw.nd rfl (Or.inl rfl) pe_bl)
      (pss_cut (ps_if (PW.pt (pw_and (pt_cmpR op_gt (pv 4) pe_int (nomark _)) (pw_and1 (pt_cmpR op_eq (pe_op op_mod (pe_call GA hr (by rfl) gA FA.kp bA .nil pass0 (pa_cons (pv 1) (pa_cons pe_int pa_nil))) pe_int) pe_int (nomark _))))) (pss_cons (ps_asg (pv 3) (pg_sub (pv 5) (pe_op op_mod (pe_call GA hr (by rfl) gA FA.kp bA .nil pass0 (pa_cons (pv 1) (pa_cons pe_int pa_nil))) (pv 4)) set_list))
      (pss_one (ps_set (i := 6) scLaw.nd rfl (Or.inl rfl) (pe_call GL hr (by rfl) gL FL.kp bL .nil pass0 (pa_cons (pv 3) pa_nil))))) pss_nil)
      (pss_cons (ps_set (i := 7) scLaw.nd rfl (Or.inl rfl) (pe_callTy call_list_of (by rfl) T.list (by decide +kernel) (pa_cons (pv 5) pa_nil)))
      (pss_cons (ps_for PassesOwn.never rfl (pi_list (pe_lst (pa_cons (pv 4) (pa_cons (pe_op op_add (pv 4) pe_int) (pa_cons (pe_op op_sub (pv 4) pe_int) (pa_cons pe_int (pa_cons pe_int pa_nil))))))) (pg_name (i := 8) scLaw.nd rfl (Or.inl rfl)) (pss_one (ps_if (pt_not (pt_val (pe_call GR hr (by rfl) gR FR.kp bR .nil pass0 (pa_cons (pe_call GW hr (by rfl) gW FW.kp bW .nil pass0 (pa_cons (pv 5) (pa_cons (pv 8) pa_nil))) (pa_cons (pe_and (pv 6) (pe_one (pe_cmpR op_eq (pv 8) (pv 4) (nomark _)))) pa_nil))))) (pss_one (ps_ret pe_bl)) pss_nil)))
      (pss_cons (ps_if (pt_cmpR op_ne (pe_callB call_len_seq (by rfl) T.len (by decide +kernel) (pa_cons (pv 5) pa_nil)) (pe_callB call_len_seq (by rfl) T.len (by decide +kernel) (pa_cons (pv 7) pa_nil)) (nomark _)) (pss_one (ps_ret pe_bl)) pss_nil)
      (pss_cons (ps_for PassesOwn.never rfl (pi_range1 (by rfl) T.range (pa_cons (pe_callB call_len_seq (by rfl) T.len (by decide +kernel) (pa_cons (pv 7) pa_nil)) pa_nil)) (pg_name (i := 9) scLaw.nd rfl (Or.inl rfl)) (pss_one (ps_if (PW.pt (pw_or (pt_cmpR op_ne (pe_callB call_isi (by rfl) T.isinstance (by decide +kernel) (pa_cons (pe_ix ix_list (pv 5) (pv 9) (fun _ _ => rfl)) (pa_cons (pe_bltn (v := .ty "bool") (u := .type "bool") (by rfl) T.bool (by decide +kernel) rfl) pa_nil))) (pe_callB call_isi (by rfl) T.isinstance (by decide +kernel) (pa_cons (pe_ix ix_list (pv 7) (pv 9) (fun _ _ => rfl)) (pa_cons (pe_bltn (v := .ty "bool") (u := .type "bool") (by rfl) T.bool (by decide +kernel) rfl) pa_nil))) (nomark _)) (pw_or1 (pt_cmpR (op_neD hr.units) (pe_ix ix_list (pv 5) (pv 9) (fun _ _ => rfl)) (pe_ix ix_list (pv 7) (pv 9) (fun _ _ => rfl)) (nomark _))))) (pss_one (ps_ret pe_bl)) pss_nil)))
      (pss_one (ps_ret (pe_and (pe_call GR hr (by rfl) gR FR.kp bR .nil pass0 (pa_cons (pe_call GW hr (by rfl) gW FW.kp bW .nil pass0 (pa_cons (pe_callTy call_tuple_of (by rfl) T.tuple (by decide +kernel) (pa_cons (pv 5) pa_nil)) (pa_cons (pv 4) pa_nil))) (pa_cons pe_bl pa_nil))) (pe_one (pe_call GR hr (by rfl) gR FR.kp bR .nil pass0 (pa_cons (pe_call GW hr (by rfl) gW FW.kp bW .nil pass0 (pa_cons (pv 3) (pa_cons pe_int pa_nil))) (pa_cons (pe_cmpR (op_eqD hr.units) (pv 3) (pe_lst (pa_cons pe_int pa_nil)) (nomark _)) pa_nil))))))))))))))))))))), ?_⟩
    refine q_call (ea_cons (ev_var rfl) ea_nil) fun H2 e2 => ⟨a, ns, rfl, ex_l e2 hS, hlen, fun p H3 ts hp e3 h3 hg hl => ?_⟩
    have e03 := e2.trans e3
    have cc : ∀ {H1 : Hp} {z : Int} {σ : L2.St} {tk : TE} (j : Nat), Ex H3 H1 → z = (j : Int) → σ[1]? = some (some (.ref p)) → Ev tk σ H1 (.int z) → Ev (tCall (spCel K) [] E0 (tCons (tVar 1) (tCons tk tNil))) σ H1 (.int (cellv ts j)) :=
      fun j e ez h0 hk => ev_call (ea_cons (ev_var h0) (ea_cons hk ea_nil)) (sv_cell (sq_of (e _ _ h3)) ez)
    have g0 := hg.cell 0
    have g1 := hg.cell 1
    have g2 := hg.cell 2
    have g60 := hg.cell 60
    -- cell
    refine q_asg ev_c fun H4 e4 => ?_
    refine q_cut (M := fun σ2 H5 => ∃ z : Int, σ2 = [some (.ref a), some (.ref p), some (.int z), none, none, none, none, none, none, none] ∧ Ex H3 H5) ?_ ?_
    · refine s_when (et_test (ev_op (ev_len (ev_var rfl) (ex_l (e03.trans e4) hS)) ev_c rv_I0)) (fun hb H5 e5 => ?_) (fun _ H5 e5 => ⟨_, rfl, e4.trans e5⟩)
      have hb' := of_decide_eq_true hb
      rw [List.length_map] at hb'
      exact s_asg (ev_op (ev_var rfl) ev_c (rv_ixL (ex_l ((e03.trans e4).trans e5) hS) (at_of (j := 0) rfl (cellv_in (by omega))))) fun H6 e6 => ⟨_, rfl, (e4.trans e5).trans e6⟩
    · rintro σ2 H5 ⟨z, rfl, e5⟩
      -- value
      refine q_call (vs := [.int z, .int (cellv ts 0)]) (ea_cons (ev_var rfl) (ea_cons (cc 0 e5 rfl rfl ev_c) ea_nil)) fun H6 e6 => ⟨z, _, rfl, g0.1, fun v H7 e7 hv => ?_⟩
      have e57 := e6.trans e7
      obtain ⟨n, d, k1, k2, k3, k4, k5⟩ := id hv
      refine q_when (b := false) (et_is (et_not (et_B (ev_call (vs := [.bl (wd v), .bl (wd v)]) (ea_cons (ev_call (vs := [v]) (ea_cons (ev_var rfl) ea_nil) (sv_iw k1)) (ea_cons (ev_call (vs := [v]) (ea_cons (ev_var rfl) ea_nil) (sv_iw k1)) ea_nil)) sv_right))) rfl) (fun h => by cases h) (fun _ H8 e8 => ?_)
      have e58 := e57.trans e8
      -- many
      refine q_asg (ev_op (cc 1 (e5.trans e58) rfl rfl ev_c) ev_c (rv_I (by show (0 : Int) < 41; decide))) fun H9 e9 => ?_
      have e59 := e58.trans e9
      refine q_cut (M := fun σ2 H10 => ∃ many : Nat, σ2 = [some (.ref a), some (.ref p), some (.int z), some v, some (.int (many : Int)), none, none, none, none, none] ∧ Ex H5 H10 ∧ many ≤ 40 ∧ Ex H7 H10) ?_ ?_
      · refine s_when (et_test (ev_op (ev_op (cc 1 (e5.trans e59) rfl rfl ev_c) ev_c (rv_I (by show (0 : Int) < 4; decide))) ev_c (rv_eq rfl))) (fun _ H10 e10 => ?_) (fun _ H10 e10 => ?_)
        · have cs : cellv ts 2 % 4 = 0 ∨ cellv ts 2 % 4 = 1 ∨ cellv ts 2 % 4 = 2 ∨ cellv ts 2 % 4 = 3 := by omega
          have mk : ∀ (j : Nat) (y : Nat), cellv ts 2 % 4 = (j : Int) → ([.int 8, .int 32, .int 0, .int 1] : List V)[j]? = some (.int (y : Int)) → y ≤ 40 → tAsg (tOp (rIxL K) (tLst (tCons (tC (.int 8)) (tCons (tC (.int 32)) (tCons (tC (.int 0)) (tCons (tC (.int 1)) tNil))))) (tOp (rI (fun _ j => 0 < j) fun i j => .int (i % j)) (tCall (spCel K) [] E0 (tCons (tVar 1) (tCons (tC (.int 2)) tNil))) (tC (.int 4)))) (gName 4)
              { nx := fun σ2 H10 => ∃ many : Nat, σ2 = [some (.ref a), some (.ref p), some (.int z), some v, some (.int (many : Int)), none, none, none, none, none] ∧ Ex H5 H10 ∧ many ≤ 40 ∧ Ex H7 H10, rt := Q } [some (.ref a), some (.ref p), some (.int z), some v, some (.int (cellv ts 1 % 41)), none, none, none, none, none] H10 :=
            fun j y hj hy h40 => s_asg (ev_opL1 (xs := [.int 8, .int 32, .int 0, .int 1]) (y := .int (cellv ts 2 % 4)) (el_lst (ea_cons ev_c (ea_cons ev_c (ea_cons ev_c (ea_cons ev_c ea_nil)))) (by simp)) (fun H1 f1 => ev_op (cc 2 ((e5.trans e59).trans (e10.trans f1)) rfl rfl ev_c) ev_c (rv_I (by show (0 : Int) < 4; decide))) (fun pp H1 hpp f1 => rv_ixL (sq_of hpp) (at_of hj hy))) fun H11 e11 => ⟨y, rfl, (e59.trans e10).trans e11, h40, ((e8.trans e9).trans e10).trans e11⟩
          rcases cs with h | h | h | h
          · exact mk 0 8 h rfl (by decide)
          · exact mk 1 32 h rfl (by decide)
          · exact mk 2 0 h rfl (by decide)
          · exact mk 3 1 h rfl (by decide)
        · refine ⟨(cellv ts 1 % 41).toNat, ?_, e59.trans e10, by omega, (e8.trans e9).trans e10⟩
          rw [← nat_of (show 0 ≤ cellv ts 1 % 41 by omega)]
          rfl
      · rintro σ2 H10 ⟨many, rfl, e510, hm, e710⟩
        have v10 := hv.mono e710
        -- values
        refine q_asgL (xs := given ((many : Int)).toNat (fun _ => true) (fun i => .int (cellv ts (3 + i)))) (el_lcR1 (fun _ => true) (fun i => .int (cellv ts (3 + i))) (ea_cons (ev_var rfl) ea_nil) ⟨by omega, by omega⟩ (fun _ => rfl) (fun i H1 _ _ H2 _ Q q => q H2 (Ex.refl _))
          (fun i H1 f1 hi _ => cc (3 + i) ((e5.trans e510).trans f1) (by omega) rfl (ev_op ev_c (ev_var rfl) rv_I0))) fun la H11 hla e11 h11 => ?_
        have hgv : given ((many : Int)).toNat (fun _ => true) (fun i => V.int (cellv ts (3 + i))) = (List.range many).map fun i => V.int (cellv ts (3 + i)) := by
          unfold given
          rw [Int.toNat_natCast, List.filter_eq_self.mpr fun _ _ => rfl]
        rw [hgv] at h11
        have w0 : Vals3 K H11 la many ((List.range many).map fun i => V.int (cellv ts (3 + i))) := ⟨h11, by simp, fun x hx => by
          obtain ⟨i, _, rfl⟩ := List.mem_map.mp hx
          exact vv_int _⟩
        have a0 : ((List.range many).map fun i => V.int (cellv ts (3 + i))).all wd = true := List.all_eq_true.mpr fun x hx => by
          obtain ⟨i, _, rfl⟩ := List.mem_map.mp hx
          exact decide_eq_true (hg.cell _).1
        generalize ((List.range many).map fun i => V.int (cellv ts (3 + i))) = xs0 at w0 a0
        refine q_asg ev_c fun H12 e12 => ?_
        have v12 := v10.mono (e11.trans e12)
        have hlaH : H10 la = none := hla
        have e512 := (e510.trans e11).trans e12
        refine q_cut (M := fun σ2 H13 => ∃ (xs : List V), σ2 = [some (.ref a), some (.ref p), some (.int z), some v, some (.int (many : Int)), some (.ref la), some (.bl (xs.all wd)), none, none, none] ∧ Ex H10 H13 ∧ Vals3 K H13 la many xs) ?_ ?_
        · refine s_when (et_and (et_test (ev_op (ev_var rfl) ev_c rv_I0)) (fun _ => et_test (ev_op (ev_op (cc 2 (e5.trans e512) rfl rfl ev_c) ev_c (rv_I (by show (0 : Int) < 2; decide))) ev_c (rv_eq rfl)))) (fun hb H13 e13 => ?_) (fun _ H13 e13 => ?_)
          · have hpos : (0 : Int) < (many : Int) := of_decide_eq_true (Bool.and_eq_true_iff.mp hb).1
            have j1 := Int.emod_nonneg (cellv ts 60) (show (many : Int) ≠ 0 by omega)
            have j2 := Int.emod_lt_of_pos (cellv ts 60) hpos
            obtain ⟨j, hj⟩ := Int.eq_ofNat_of_zero_le j1
            have hjl : j < xs0.length := by have := w0.2.1; omega
            refine q_setL (v := v) (j := j) ((e12.trans e13) _ _ w0.1) (ev_var rfl) (ev_var rfl) (ev_is (ev_op (cc 60 ((e5.trans e512).trans e13) rfl rfl ev_c) (ev_var rfl) (rv_I hpos)) (congrArg V.int hj)) hjl fun H14 e14 => ?_
            have kv := (k1.mono e710).mono (((e11.trans e12).trans e13).trans e14)
            have f1 := ((e11.trans e12).trans e13).trans e14
            have f2 : Ex H10 (upd H14 la (.lst (xs0.set j v))) := f1.mut hlaH
            refine s_asg (ev_call (vs := [v]) (z := .bl (wd v)) (ea_cons (ev_var rfl) ea_nil) (sv_iw ((k1.mono e710).mono f2))) fun H15 e15 => ⟨xs0.set j v, ?_, f2.trans e15, e15 _ _ upd_same, by rw [List.length_set]; exact w0.2.1, fun x hx => ?_⟩
            · rw [all_set a0 hjl]
              rfl
            · rcases List.mem_or_eq_of_mem_set hx with hq | hq
              · have hi : ∃ i, x = V.int i := by
                  have hw := List.all_eq_true.mp a0 x hq
                  cases x with
                  | int i => exact ⟨i, rfl⟩
                  | _ => cases hw
                obtain ⟨i, rfl⟩ := hi
                exact vv_int i
              · rw [hq]
                exact v10.mono (f2.trans e15)
          · refine ⟨xs0, ?_, (e11.trans e12).trans e13, (e12.trans e13) _ _ w0.1, w0.2.1, fun x hx => (w0.2.2 x hx).mono (e12.trans e13)⟩
            rw [a0]
            rfl
        · rintro σ2 H13 ⟨xs, rfl, e1013, w1, w2, w3⟩
          have v13 := v10.mono e1013
          have t13 : Tab H13 Pt := hTab.mono (((e03.trans e5).trans e510).trans e1013)
          -- kept
          refine q_asgL (el_list (ev_var rfl) (sq_of w1)) fun ka H14 hka e14 h14 => ?_
          have av : ∀ {H1 : Hp} (y : Int), Ex H13 H1 → SpV (spAre Pt) [.ref la, .int y] H1 (.bl (decide ((xs.length : Int) = y) && xs.all wd)) := fun y f H2 f2 Q' q' E' => ⟨t13.mono (f.trans f2), .inl ⟨la, xs, y, rfl, (f.trans f2) _ _ w1, fun x hx => let ⟨n, d, g, _⟩ := w3 x hx; ⟨n, g.mono (f.trans f2)⟩, q'⟩⟩
          -- for size in [..]
          refine q_forNLn (xs := [.int (many : Int), .int ((many : Int) + 1), .int ((many : Int) - 1), .int 8, .int 32]) (el_lst (ea_cons (ev_var rfl) (ea_cons (ev_op (ev_var rfl) ev_c rv_I0) (ea_cons (ev_op (ev_var rfl) ev_c rv_I0) (ea_cons ev_c (ea_cons ev_c ea_nil))))) (by simp))
            (fun pp i σ' H' => ∃ y8, σ' = [some (.ref a), some (.ref p), some (.int z), some v, some (.int (many : Int)), some (.ref la), some (.bl (xs.all wd)), some (.ref ka), y8, none] ∧ Ex H14 H' ∧ H' pp = some (.lst [.int (many : Int), .int ((many : Int) + 1), .int ((many : Int) - 1), .int 8, .int 32]))
            (fun pp H15 hpp e15 h15 => ⟨none, rfl, e15, h15⟩) (fun pp i σ' H' _ ⟨_, _, _, h⟩ => sq_of h) ?_ ?_
          · rintro pp i x σ' H' hx ⟨y8, rfl, f1, f2⟩
            have hxi : ∃ y : Int, x = .int y := by
              have hm2 := List.mem_of_getElem? hx
              simp only [List.mem_cons, List.not_mem_nil, or_false] at hm2
              rcases hm2 with h | h | h | h | h <;> exact ⟨_, h⟩
            obtain ⟨y, rfl⟩ := hxi
            have eqb : (xs.all wd && decide (V.int y = V.int (many : Int))) = (decide ((xs.length : Int) = y) && xs.all wd) := by
              rw [Bool.and_comm, w2]
              congr 1
              exact decide_eq_decide.mpr ⟨fun h => (V.int.inj h).symm, fun h => congrArg V.int h.symm⟩
            refine s_when (b := false) (et_is (et_not (et_B (ev_call (vs := [.bl (decide ((xs.length : Int) = y) && xs.all wd), .bl (decide ((xs.length : Int) = y) && xs.all wd)]) (ea_cons (ev_call (vs := [.ref la, .int y]) (ea_cons (ev_var rfl) (ea_cons (ev_var rfl) ea_nil)) (av y (e14.trans f1))) (ea_cons (ev_is (ev_andV (ev_var rfl) (fun _ => ev_op (ev_var rfl) (ev_var rfl) (rv_eq rfl))) (congrArg V.bl eqb)) ea_nil)) sv_right))) rfl) (fun h => by cases h) (fun _ H16 f3 => ⟨_, rfl, f1.trans f3, f3 _ _ f2⟩)
          · rintro pp σ' H15 ⟨y8, rfl, f1, _⟩
            have f0 := e14.trans f1
            refine q_when (b := false) (et_is (et_test (ev_op (ev_len (ev_var rfl) (sq_of (f0 _ _ w1))) (ev_len (ev_var rfl) (sq_of (f1 _ _ h14))) (rv_ne rfl))) (by simp)) (fun h => by cases h) (fun _ H16 f2 => ?_)
            have f02 := f0.trans f2
            refine q_forR1 (n := (xs.length : Int)) (ea_cons (ev_len (ev_var rfl) (sq_of ((f1.trans f2) _ _ h14))) ea_nil) ⟨by omega, by omega⟩
              (fun i σ' H' => ∃ y9, σ' = [some (.ref a), some (.ref p), some (.int z), some v, some (.int (many : Int)), some (.ref la), some (.bl (xs.all wd)), some (.ref ka), y8, y9] ∧ Ex H16 H') (fun H1 f3 => ⟨none, rfl, f3⟩) ?_ ?_
            · rintro i σ' H' hi ⟨y9, rfl, f3⟩
              have hi' : i < xs.length := by omega
              have hgx := List.getElem?_eq_getElem hi'
              obtain ⟨n', d', p1, p2, p3, _⟩ := w3 _ (List.mem_of_getElem? hgx)
              generalize xs[i] = x at hgx p1 p2
              have ff := f02.trans f3
              have gl : Ev (tOp (rIxL K) (tVar 5) (tVar 9)) [some (.ref a), some (.ref p), some (.int z), some v, some (.int (many : Int)), some (.ref la), some (.bl (xs.all wd)), some (.ref ka), y8, some (.int (i : Int))] H' x := ev_op (ev_var rfl) (ev_var rfl) (rv_ixL (sq_of (ff _ _ w1)) (atI_nat hgx))
              have gk : Ev (tOp (rIxL K) (tVar 7) (tVar 9)) [some (.ref a), some (.ref p), some (.int z), some v, some (.int (many : Int)), some (.ref la), some (.bl (xs.all wd)), some (.ref ka), y8, some (.int (i : Int))] H' x := ev_op (ev_var rfl) (ev_var rfl) (rv_ixL (sq_of (((f1.trans f2).trans f3) _ _ h14)) (atI_nat hgx))
              exact s_when (b := false) (et_is (et_or (et_test (ev_op (ev_isk gl ev_c (p1.mono ff) (kd_bool p1)) (ev_isk gk ev_c (p1.mono ff) (kd_bool p1)) (rv_ne rfl))) (fun _ => et_test (ev_op gl gk (rv_neD (dp_mono ff _ p2) (dp_mono ff _ p2) p3 (by decide))))) (by simp)) (fun h => by cases h) (fun _ H17 f4 => ⟨_, rfl, f3.trans f4⟩)
            · rintro σ' H17 ⟨y9, rfl, f3⟩
              have ff := f02.trans f3
              have eA := (((e03.trans e5).trans e510).trans e1013).trans ff
              have v17 := v13.mono ff
              obtain ⟨n', d', p1, p2, p3, p4, p5⟩ := id v17
              have tupv : EvU (tCB (fun xs H Q => ∃ p ys, xs = [V.ref p] ∧ ((SqL K H p ys ∧ ∀ l, H l = none → Q (.ref l) (upd H l (.tup ys))) ∨ (SqT K H p ys ∧ Q (.ref p) H))) (tCons (tVar 5) tNil)) [some (.ref a), some (.ref p), some (.int z), some v, some (.int (many : Int)), some (.ref la), some (.bl (xs.all wd)), some (.ref ka), y8, y9] H17 xs := fun H1 f Q' q' =>
                (ea_cons (ev_var (i := 5) (v := .ref la) rfl) ea_nil) H1 f _ fun H2 f2 => ⟨la, xs, rfl, .inl ⟨sq_of (((ff.trans f).trans f2) _ _ w1), fun l hl => q' l _ (fresh_back f2 hl) (f2.trans (Ex.new hl)) upd_same⟩⟩
              refine s_ret (ev_is (ev_andV (a := true) (b := true) (ev_call (vs := [.bl false, .bl false]) (ea_cons (ev_callU1 (vs := [.int (many : Int)]) (z := .bl false) tupv (ea_cons (ev_var rfl) ea_nil) (fun pp H1 hpp f H2 f2 Q' q' E' => ⟨t13.mono ((ff.trans f).trans f2), .inr ⟨_, "tuple", _, rfl, .tup (f2 _ _ hpp), by decide, q'⟩⟩)) (ea_cons ev_c ea_nil)) sv_right)
                (fun _ => ev_call (vs := [.bl (decide (n' = "list")), .bl (decide (n' = "list"))]) (ea_cons (ev_call (vs := [v, .int 1]) (z := .bl (decide (n' = "list"))) (ea_cons (ev_var rfl) (ea_cons ev_c ea_nil)) (fun H1 f Q' q' E' => ⟨t13.mono (ff.trans f), ?_⟩)) (ea_cons (ev_is (ev_opL (xs := [.int 1]) (ev_var rfl) (el_lst (ea_cons ev_c ea_nil) (by simp)) (fun pp H1 hpp f => rv_eqDD (dp_mono f _ p2) (.lst (sq_of hpp) (.cons (.int 1) .nil)) p3 (sh_lst (sh_ints [1])) (by decide))) (congrArg V.bl p4)) ea_nil)) sv_right)) rfl) fun H18 f4 => q H18 (eA.trans f4)
              by_cases hn : n' = "list"
              · obtain ⟨b, rfl, hb⟩ := p5 hn
                refine .inl ⟨b, [.int 1], 1, rfl, f _ _ hb, fun x hx => ?_, ?_⟩
                · rw [List.mem_singleton.mp hx]
                  exact ⟨"int", .int 1⟩
                · rw [decide_eq_true hn] at q'
                  exact q'
              · rw [decide_eq_false hn] at q'
                exact .inr ⟨v, n', 1, rfl, p1.mono f, hn, q'⟩
end
end K03

set_option Elab.async false
set_option linter.all false
set_option maxRecDepth 100000
set_option maxHeartbeats 4000000
namespace K03
open PySem PySem.Spec PyProof.Rows L2 Evl LK LT LG LS LQ
theorem all_mk {l : PySem.W.OpenLaw} {w : World} {K : PySem.W.Frag} {h : Heap} {mg : Str → Option Value} {fa f1 f2 f3 f4 f5 f6 f7 f8 : Addr} (X : K.In h) (G : h.Ns mainGlobals mg) (hfa : mg "law" = some (.ref fa))
    {od1 an1 od2 an2 od3 an3 od4 an4 od5 an5 od6 an6 od7 an7 od8 an8 : Option Addr} {sl1 sl2 sl3 sl4 sl5 sl6 sl7 sl8 : Array (Option Value)} {oc1 kV1 dc1 pm1 ct1 cd1 oc2 kV2 dc2 pm2 ct2 oc3 kV3 dc3 pm3 ct3 cd3 oc4 kV4 dc4 pm4 ct4 cd4 oc5 kV5 dc5 pm5 ct5 cd5 oc6 kV6 dc6 pm6 ct6 cd6 oc7 kV7 dc7 pm7 ct7 cd7 oc8 kV8 dc8 pm8 ct8 cd8 : Value}
    {c1_ P1_ : Addr} {e1_ : Value} {dd1_ : Option Addr} {vs1_ : Array Value} {sl1_ : Array (Option Value)}
    (a1 : PySem.W.nsIn K mainGlobals "is_word" = some (some (.ref f1))) (l1 : K.lookup f1 = some ⟨oc1, od1, .func (PySem.W.fnOf "is_word" "is_word" (defArgs sIw) (defBody sIw) (defScope sIw) .none kV1 dc1 pm1 an1 cd1 ct1), sl1⟩) (c1 : PySem.W.codeIn K cd1 "is_word" = true) (k1 : PySem.W.keepIn K (.ref f1) = true)
    (a2 : PySem.W.nsIn K mainGlobals "are_words" = some (some (.ref f2))) (l2 : K.lookup f2 = some ⟨oc2, od2, .func (PySem.W.fnOf "are_words" "are_words" (defArgs sAre) (defBody sAre) (defScope sAre) .none kV2 dc2 pm2 an2 (.ref c1_) ct2), sl2⟩) (c2 : PySem.W.codeIn K (.ref c1_) "are_words" = true) (k2 : PySem.W.keepIn K (.ref f2) = true)
    (a3 : PySem.W.nsIn K mainGlobals "_law_tape" = some (some (.ref f3))) (l3 : K.lookup f3 = some ⟨oc3, od3, .func (PySem.W.fnOf "_law_tape" "_law_tape" (defArgs sTape) (defBody sTape) (defScope sTape) .none kV3 dc3 pm3 an3 cd3 ct3), sl3⟩) (c3 : PySem.W.codeIn K cd3 "_law_tape" = true) (k3 : PySem.W.keepIn K (.ref f3) = true)
    (a4 : PySem.W.nsIn K mainGlobals "_law_at" = some (some (.ref f4))) (l4 : K.lookup f4 = some ⟨oc4, od4, .func (PySem.W.fnOf "_law_at" "_law_at" (defArgs sAt) (defBody sAt) (defScope sAt) .none kV4 dc4 pm4 an4 cd4 ct4), sl4⟩) (c4 : PySem.W.codeIn K cd4 "_law_at" = true) (k4 : PySem.W.keepIn K (.ref f4) = true)
    (a5 : PySem.W.nsIn K mainGlobals "_law_value" = some (some (.ref f5))) (l5 : K.lookup f5 = some ⟨oc5, od5, .func (PySem.W.fnOf "_law_value" "_law_value" (defArgs sValue) (defBody sValue) (defScope sValue) .none kV5 dc5 pm5 an5 cd5 ct5), sl5⟩) (c5 : PySem.W.codeIn K cd5 "_law_value" = true) (k5 : PySem.W.keepIn K (.ref f5) = true)
    (a6 : PySem.W.nsIn K mainGlobals "_law_is_word" = some (some (.ref f6))) (l6 : K.lookup f6 = some ⟨oc6, od6, .func (PySem.W.fnOf "_law_is_word" "_law_is_word" (defArgs sLiw) (defBody sLiw) (defScope sLiw) .none kV6 dc6 pm6 an6 cd6 ct6), sl6⟩) (c6 : PySem.W.codeIn K cd6 "_law_is_word" = true) (k6 : PySem.W.keepIn K (.ref f6) = true)
    (a7 : PySem.W.nsIn K mainGlobals "_law_right" = some (some (.ref f7))) (l7 : K.lookup f7 = some ⟨oc7, od7, .func (PySem.W.fnOf "_law_right" "_law_right" (defArgs sRight) (defBody sRight) (defScope sRight) .none kV7 dc7 pm7 an7 cd7 ct7), sl7⟩) (c7 : PySem.W.codeIn K cd7 "_law_right" = true) (k7 : PySem.W.keepIn K (.ref f7) = true)
    (a8 : PySem.W.nsIn K mainGlobals "law" = some (some (.ref f8))) (l8 : K.lookup f8 = some ⟨oc8, od8, .func (PySem.W.fnOf "law" "law" (defArgs sLaw) (defBody sLaw) (defScope sLaw) .none kV8 dc8 pm8 an8 cd8 ct8), sl8⟩) (c8 : PySem.W.codeIn K cd8 "law" = true) (k8 : PySem.W.keepIn K (.ref f8) = true)
    (z1 : PySem.W.nsIn K mainGlobals "len" = some none)
    (z2 : PySem.W.nsIn K mainGlobals "range" = some none)
    (z3 : PySem.W.nsIn K mainGlobals "abs" = some none)
    (z4 : PySem.W.nsIn K mainGlobals "int" = some none)
    (z5 : PySem.W.nsIn K mainGlobals "isinstance" = some none)
    (z6 : PySem.W.nsIn K mainGlobals "bool" = some none)
    (z7 : PySem.W.nsIn K mainGlobals "list" = some none)
    (z8 : PySem.W.nsIn K mainGlobals "tuple" = some none)
    (z9 : PySem.W.nsIn K mainGlobals "all" = some none)
    (t1 : K.lookup c1_ = some ⟨e1_, dd1_, .fields vs1_, sl1_⟩) (v1 : vs1_[11]? = some (.ref P1_)) (u1 : K.lookup P1_ = none)
    : ∃ (fd : FuncData) (cs : List (Str × Addr × Addr)) (sp : Sp), (∀ p ∈ cs, p.1 ∈ (["are_words"] : List Str) ∧ PySem.W.tabIn K p.1 = some p.2 ∧ K.lookup p.2.2 = none) ∧ (∀ (s : Shared) (v : Value), BindsTo s fd ⟨[v], []⟩ [("script", v)]) ∧ (∀ (H : Hp) (a : Addr) (ns : List Int), ns.length ≤ 63 → (∀ p ∈ cs, LT.Tab H p.2.2) → SqL K H a (ns.map V.int) → ∀ Q : VK, (∀ H', Ex H H' → Q (.bl true) H') → sp [.ref a] H Q fun _ _ _ => False) ∧ ∀ base : Heap, K.In base → base.Ns mainGlobals mg → (∀ p ∈ cs, LamX.TabB base mg p.2.1 p.2.2) → FnOk l.prog w K mg base CX0 2 fa fd ["script"] sp := by
  have e := hfa.symm.trans (PySem.W.mg_of X G a8)
  cases e
  have F1 := fun_mk (st := sIw) l1 c1 k1
  have b1 := F1.binds (ps := ["value"]) fun _ _ _ _ _ _ us hl => match us, hl with | [_], _ => rfl
  have m1 := PySem.W.mg_of X G a1
  have t1' : PySem.W.tabIn K "are_words" = some (c1_, P1_) := LS.tab_mk a2 l2 t1 v1
  have F2 : FunC K "are_words" "are_words" sAre f2 _ c1_ := LS.funC_mk a2 l2 c2 k2 t1'
  have b2 := F2.fun.binds (ps := ["values", "many"]) fun _ _ _ _ _ _ us hl => match us, hl with | [_, _], _ => rfl
  have m2 := PySem.W.mg_of X G a2
  have F3 := fun_mk (st := sTape) l3 c3 k3
  have b3 := F3.binds (ps := ["script"]) fun _ _ _ _ _ _ us hl => match us, hl with | [_], _ => rfl
  have m3 := PySem.W.mg_of X G a3
  have F4 := fun_mk (st := sAt) l4 c4 k4
  have b4 := F4.binds (ps := ["tape", "k"]) fun _ _ _ _ _ _ us hl => match us, hl with | [_, _], _ => rfl
  have m4 := PySem.W.mg_of X G a4
  have F5 := fun_mk (st := sValue) l5 c5 k5
  have b5 := F5.binds (ps := ["cell", "number"]) fun _ _ _ _ _ _ us hl => match us, hl with | [_, _], _ => rfl
  have m5 := PySem.W.mg_of X G a5
  have F6 := fun_mk (st := sLiw) l6 c6 k6
  have b6 := F6.binds (ps := ["value"]) fun _ _ _ _ _ _ us hl => match us, hl with | [_], _ => rfl
  have m6 := PySem.W.mg_of X G a6
  have F7 := fun_mk (st := sRight) l7 c7 k7
  have b7 := F7.binds (ps := ["told", "due"]) fun _ _ _ _ _ _ us hl => match us, hl with | [_, _], _ => rfl
  have m7 := PySem.W.mg_of X G a7
  have F8 := fun_mk (st := sLaw) l8 c8 k8
  have m8 := PySem.W.mg_of X G a8
  have T : Txt mg := ⟨PySem.W.mg_none_of X G z1, PySem.W.mg_none_of X G z2, PySem.W.mg_none_of X G z3, PySem.W.mg_none_of X G z4, PySem.W.mg_none_of X G z5, PySem.W.mg_none_of X G z6, PySem.W.mg_none_of X G z7, PySem.W.mg_none_of X G z8, PySem.W.mg_none_of X G z9⟩
  refine ⟨PySem.W.fnOf "law" "law" (defArgs sLaw) (defBody sLaw) (defScope sLaw) .none kV8 dc8 pm8 an8 cd8 ct8, [("are_words", c1_, P1_)], spLaw K P1_, fun p hp => ?_, fun s v => .of_eq rfl, fun H a ns hl hT hS Q q => ⟨a, ns, rfl, hS, hl, hT ("are_words", c1_, P1_) (by simp), q⟩, fun base _ _ hTB => ?_⟩
  · simp only [List.mem_cons, List.not_mem_nil, or_false] at hp
    subst hp
    exact ⟨by simp, t1', u1⟩
  · have B1 : LamX.TabB base mg c1_ P1_ := hTB ("are_words", c1_, P1_) (by simp)
    exact ok_law F8 F1 F2 F3 F4 F5 F6 F7 T B1 b1 b2 b3 b4 b5 b6 b7 m1 m2 m3 m4 m5 m6 m7
end K03
open PySem PySem.W PyProof.Rows
set_option maxHeartbeats 0 in
theorem PySem.Challenge.cw_laminae_k03_words_holds : PySem.Challenge.rw_laminae_k03_words.Holds := by
  w_on; o_law; k_head; (case hw => w_witness2)
  k_fill
  refine LT.walk_tabs (l := PySem.Challenge.rw_laminae_k03_words) (n := 63) (k := 2) (x := "script") ["are_words"] rfl (by decide) rfl ⟨rfl, by decide, by decide⟩ (by decide +kernel) (fun w h Y => PySem.W.kIn_of Y) ?F
  case F =>
    intro w mg fa h KX G hmg
    refine' K03.all_mk KX G hmg ?a1 ?l1 ?c1 ?k1 ?a2 ?l2 ?c2 ?k2 ?a3 ?l3 ?c3 ?k3 ?a4 ?l4 ?c4 ?k4 ?a5 ?l5 ?c5 ?k5 ?a6 ?l6 ?c6 ?k6 ?a7 ?l7 ?c7 ?k7 ?a8 ?l8 ?c8 ?k8 ?z1 ?z2 ?z3 ?z4 ?z5 ?z6 ?z7 ?z8 ?z9 ?t1 ?v1 ?u1
    (case a1 => k_is); (case l1 => k_is); (case c1 => k_is); (case k1 => k_is); (case a2 => k_is); (case l2 => k_is); (case c2 => k_is); (case k2 => k_is); (case a3 => k_is); (case l3 => k_is); (case c3 => k_is); (case k3 => k_is); (case a4 => k_is); (case l4 => k_is); (case c4 => k_is); (case k4 => k_is); (case a5 => k_is); (case l5 => k_is); (case c5 => k_is); (case k5 => k_is); (case a6 => k_is); (case l6 => k_is); (case c6 => k_is); (case k6 => k_is); (case a7 => k_is); (case l7 => k_is); (case c7 => k_is); (case k7 => k_is); (case a8 => k_is); (case l8 => k_is); (case c8 => k_is); (case k8 => k_is); (case z1 => k_is); (case z2 => k_is); (case z3 => k_is); (case z4 => k_is); (case z5 => k_is); (case z6 => k_is); (case z7 => k_is); (case z8 => k_is); (case z9 => k_is); (case t1 => k_is); (case v1 => rfl); (case u1 => rfl)

