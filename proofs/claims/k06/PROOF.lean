import PyProof.Rows.All
import Wide.All
import OpenK.AllK
import Wide.FinOn
import HandS.ForMost
import HandS.Evl
import HandS.TupLe
import HandS.IsInst
import HandS.AnyAll
import HandS.EndOwn
import HandS.StrMore
import HandS.Conv
import HandS.Sort
import HandS.Star
import HandS.WordsExc
import HandS.ExcIs
import HandS.Wide
import HandS.ExcOwn
import HandS.TryOnly
import HandS.GenList
import HandS.HotCalls
import HandS.Walk
import PyProof.WalksPairs
import KE.KStateDown
import Lean
import HandS.Defaults
import HandS.Head0
import HandS.Head1
import HandS.Head2
import HandS.Head3
import HandS.HeadEnd
import HandS.HeadHook1
import HandS.HeadHook2
import HandS.HeadHook3
import HandS.HeadHook4
import HandS.HeadWalk
import HandS.Lambda
import HandS.EndTab
import PySem.Challenge.RW_laminae_k06_disk_from_image
set_option Elab.async false
set_option linter.all false
set_option maxRecDepth 100000
set_option maxHeartbeats 4000000
namespace LT
open PySem PySem.Spec PyProof.Rows L2 Evl
/-! ### the table of a code object: whatever it holds -/
def TabPhi (P : Addr) (h : Heap) : Prop := ∃ ps : Array Value, h.get? P = some { cls := .none, data := .fields ps } ∧ TriplesOk ps.toList
def Tab (H : Hp) (P : Addr) : Prop := H P = some (.ext (TabPhi P))
theorem tab_stab (P : Addr) : ∀ h1 h2 : Heap, TabPhi P h1 → (∀ o, h1.get? P = some o → h2.get? P = some o) → TabPhi P h2 := fun _ _ ⟨ps, e, t⟩ k => ⟨ps, k _ e, t⟩
theorem tab_ok {p : Program} {w : World} {H : Hp} {h : Heap} {P : Addr} (t : TabPhi P h) : ObjOk p w H h P (.ext (TabPhi P)) := ⟨t, ⟨_, t.choose_spec.1⟩, tab_stab P⟩
theorem Tab.of_ok {p : Program} {w : World} {H : Hp} {h : Heap} {P : Addr} (t : Tab H P) (ok : HOk p w H h) : TabPhi P h := (ok P _ t).1
theorem Tab.mono {H H' : Hp} {P : Addr} (e : Ex H H') (t : Tab H P) : Tab H' P := e _ _ t
open Classical in
def extH (Ps : List Addr) (H : Hp) : Hp := fun b => if b ∈ Ps then some (.ext (TabPhi b)) else H b
theorem extH_in {Ps : List Addr} {H : Hp} {b : Addr} (h : b ∈ Ps) : extH Ps H b = some (.ext (TabPhi b)) := if_pos h
theorem extH_out {Ps : List Addr} {H : Hp} {b : Addr} (h : b ∉ Ps) : extH Ps H b = H b := if_neg h
/-- a promise over heaps whose tables are opaque, for a caller whose tables are all empty -/
def spExt (Ps : List Addr) (sp : Sp) : Sp := fun vs H Q E => (∀ p ∈ Ps, H p = some (.tbl #[])) ∧ sp vs (extH Ps H) (fun v H' => (∀ p ∈ Ps, Tab H' p) ∧ ∀ H2, Q v H2) E
section
variable {P : Program} {w : World} {K : PySem.W.Frag} {mg : Str → Option Value} {base : Heap}
theorem ok_ext {Ps : List Addr} {k : Nat} {f : Addr} {fd : FuncData} {ps : List Str} {sp : Sp} (F : FnOk P w K mg base CX0 k f fd ps sp) : FnOk P w K mg base CX0 k f fd ps (spExt Ps sp) := by
  refine ⟨fun vs H Q E h => F.len _ _ _ _ h.2, fun A outer s H args us vs Q E hr e0 hb hv ⟨hT, hs⟩ => ?_⟩
  have none_ : ∀ {b : Addr}, H b = none → extH Ps H b = none := fun {b} n => by
    rw [extH_out fun hb => by rw [hT b hb] at n; cases n]
    exact n
  have same : ∀ {b : Addr} {u : HO}, H b = some u → (∀ q, u ≠ .tbl q) → extH Ps H b = some u := fun {b u} e n => by
    rw [extH_out fun hb => by rw [hT b hb] at e; exact n _ (Option.some.inj e).symm]
    exact e
  have ok1 : HOk P w (extH Ps H) s.heap := fun b u e => by
    by_cases hb : b ∈ Ps
    · rw [extH_in hb] at e
      cases e
      exact tab_ok ⟨#[], e0.hok b _ (hT b hb), by simp [TriplesOk]⟩
    · rw [extH_out hb] at e
      exact (e0.hok b u e).stay (fun _ _ _ q => q) (fun c q => same q (fun z y => by cases y)) fun c xs q => same q (fun z y => by cases y)
  have e1 : Env0 P w K mg base A outer s (extH Ps H) := ⟨e0.frames, e0.mod, fun b o e => ⟨(e0.bs b o e).1, none_ (e0.bs b o e).2⟩, e0.bsz, e0.funs, fun b hb => none_ (e0.frf b hb), ok1, e0.bare⟩
  refine codeAny_mono (F.run A outer s (extH Ps H) args us vs _ E hr e1 hb hv hs) fun r s' h => ?_
  cases r with
  | error e => exact h.elim
  | ok fl =>
    cases fl with
    | next => exact h
    | brk => exact h
    | cont => exact h
    | ret u =>
      obtain ⟨v, H', os, bare, un, ok', rv, hTab, q⟩ := h
      have more : ∀ p ∈ Ps, TabPhi p s'.heap := fun p hp => (hTab p hp).of_ok ok'
      let H2 : Hp := fun b => if hb : b ∈ Ps then some (.tbl (more b hb).choose) else H' b
      have hin : ∀ {b : Addr} (hb : b ∈ Ps), H2 b = some (.tbl (more b hb).choose) := fun {b} hb => dif_pos hb
      have hout : ∀ {b : Addr}, b ∉ Ps → H2 b = H' b := fun {b} hb => dif_neg hb
      have keepH : ∀ {b : Addr} {u : HO}, H' b = some u → (∀ φ, u ≠ .ext φ) → H2 b = some u := fun {b u} e n => by
        rw [hout fun hb => by rw [hTab b hb] at e; exact n _ (Option.some.inj e).symm]
        exact e
      refine ⟨v, H2, os, bare, ⟨fun b o e n => un.keep b o e (none_ n), fun b o e n => un.slot b o e (none_ n), fun b o e n hx => ?_, un.there, fun b xs e => ?_, fun b o x e => ?_, fun b q e => ?_⟩, fun b y e => ?_, rv, q H2⟩
      · have n' := none_ n
        rw [hout fun hb => by rw [hT b hb] at n; cases n]
        exact un.free b o e n' hx
      · exact keepH (un.tups b xs (same e (fun z y => by cases y))) (fun z y => by cases y)
      · exact keepH (un.frzs b o x (same e (fun z y => by cases y))) (fun z y => by cases y)
      · by_cases hb : b ∈ Ps
        · rw [hT b hb] at e
          cases e
          exact ⟨(more b hb).choose, by rw [hin hb, Array.empty_append]⟩
        · obtain ⟨m, z⟩ := un.tbls b q (by rw [extH_out hb]; exact e)
          exact ⟨m, by rw [hout hb]; exact z⟩
      · by_cases hb : b ∈ Ps
        · rw [hin hb] at e
          cases e
          exact (more b hb).choose_spec.1
        · rw [hout hb] at e
          exact (ok' b y e).stay (fun _ _ _ q => q) (fun c q => keepH q (fun z y => by cases y)) fun c xs q => keepH q (fun z y => by cases y)
end
/-- the law's walk where top-level defs (names) hold generator expressions: their tables are empty at the start -/
theorem walk_tabs {l : PySem.W.OpenLaw} {n k : Nat} {q : Program} {loose : List Str} {XP : (Str → Option Value) → Heap → Prop} {YP : World → Heap → Prop} {d : DefRec} {K : Params → PySem.W.Frag} {x : Str} (names : List Str)
    (hn : l.most = some n) (hn2 : n ≤ sizeLine) (hdf : d.params.defaults = []) (hr : Room k callerA) (hrec : ∀ y ∈ names, ((recsOf q).find? fun e => e.name == y).isSome = true) (hY : ∀ (w : World) (h : Heap), YP w h → (K w.params).In h)
    (F : ∀ (w : World) (mg : Str → Option Value) (fa : Addr) (h : Heap), (K w.params).In h → h.Ns mainGlobals mg → mg d.name = some (.ref fa) →
      ∃ (fd : FuncData) (cs : List (Str × Addr × Addr)) (sp : Sp), (∀ p ∈ cs, p.1 ∈ names ∧ PySem.W.tabIn (K w.params) p.1 = some p.2 ∧ (K w.params).lookup p.2.2 = none) ∧ (∀ (s : Shared) (u : Value), BindsTo s fd ⟨[u], []⟩ [(x, u)]) ∧
        (∀ (H : Hp) (a : Addr) (ns : List Int), ns.length ≤ n → (∀ p ∈ cs, Tab H p.2.2) → SqL (K w.params) H a (ns.map V.int) → ∀ Q : VK, (∀ H', Ex H H' → Q (.bl true) H') → sp [.ref a] H Q fun _ _ _ => False) ∧
        ∀ base : Heap, (K w.params).In base → base.Ns mainGlobals mg → (∀ p ∈ cs, LamX.TabB base mg p.2.1 p.2.2) → FnOk l.prog w (K w.params) mg base CX0 k fa fd [x] sp) :
    PySem.W.WalkO q loose XP YP l.row.toRowW d [] (fun f vs => PySem.call f vs) := by
  refine Att.attach_callB hn hdf fun w s₀ s₁ mg mb fa o pm cd doc a vs ns G Y ho hd hcd hmg hobj hints hlen hbits hg => ?_
  have KX := hY w _ Y
  obtain ⟨fd, cs, sp, hcs, hb, hsp, hF⟩ := F w mg fa _ KX G.T.g hmg
  have two : ∀ p ∈ cs, PySem.W.CodeHd s₁.heap p.2.1 p.2.2 ∧ s₁.heap.get? p.2.2 = some { cls := .none, data := .fields #[] } := fun p hp => by
    obtain ⟨h1, h2, _⟩ := hcs p hp
    obtain ⟨e, he⟩ := Option.isSome_iff_exists.mp (hrec _ h1)
    exact PySem.W.tab_of G.T KX he h2
  have mem : ∀ y ∈ cs.map (fun p => (p.2.1, p.2.2)), ∃ p ∈ cs, p.2 = y := fun y hy => by
    obtain ⟨p, hp, e⟩ := List.mem_map.mp hy
    exact ⟨p, hp, by rw [← e]⟩
  have lim : ∀ b ∈ cs.map (fun p => p.2.2), ∃ p ∈ cs, p.2.2 = b := fun b hb => by
    obtain ⟨p, hp, e⟩ := List.mem_map.mp hb
    exact ⟨p, hp, e⟩
  refine LamX.law_callTs (cs := cs.map fun p => (p.2.1, p.2.2)) (CX := CX0) (sp := spExt (cs.map fun p => p.2.2) sp) KX G.T.g G.T.b G.T.builtins G.T.nolimit hg (fun y hy => ?_) (fun y hy => ?_) (fun y hy => ?_) G.T.bmain hobj hints (Nat.le_trans hlen hn2) hr
    (fun base h1 h2 h3 => ok_ext (hF base h1 h2 fun p hp => h3 (p.2.1, p.2.2) (List.mem_map.mpr ⟨p, hp, rfl⟩))) hb (fun H hH hS => ?_) fun H e s' z => z
  · obtain ⟨p, hp, rfl⟩ := mem y hy
    exact (two p hp).2
  · obtain ⟨p, hp, rfl⟩ := mem y hy
    exact (hcs p hp).2.2
  · obtain ⟨p, hp, rfl⟩ := mem y hy
    exact (two p hp).1
  · refine ⟨fun b hb => ?_, ?_⟩
    · obtain ⟨p, hp, rfl⟩ := lim b hb
      exact hH (p.2.1, p.2.2) (List.mem_map.mpr ⟨p, hp, rfl⟩)
    · have hnt : ∀ p ∈ cs, extH (cs.map fun p => p.2.2) H p.2.2 = some (.ext (TabPhi p.2.2)) := fun p hp => extH_in (List.mem_map.mpr ⟨p, hp, rfl⟩)
      refine hsp _ a ns hlen hnt ?_ _ fun H' e => ⟨fun b hb => ?_, fun _ => rfl⟩
      · rcases hS with (h | ⟨o, h⟩) | h
        · refine .inl (.inl ?_)
          rw [extH_out fun hb => ?_]
          · exact h
          · obtain ⟨p, hp, rfl⟩ := lim a hb
            rw [hH (p.2.1, p.2.2) (List.mem_map.mpr ⟨p, hp, rfl⟩)] at h
            cases h
        · refine .inl (.inr ⟨o, ?_⟩)
          rw [extH_out fun hb => ?_]
          · exact h
          · obtain ⟨p, hp, rfl⟩ := lim a hb
            rw [hH (p.2.1, p.2.2) (List.mem_map.mpr ⟨p, hp, rfl⟩)] at h
            cases h
        · exact .inr h
      · obtain ⟨p, hp, rfl⟩ := lim b hb
        exact e _ _ (hnt p hp)
end LT

set_option Elab.async false
set_option linter.all false
set_option maxRecDepth 100000
set_option maxHeartbeats 4000000
namespace LG
open PySem PySem.Spec PyProof.Rows L2 Evl LT
/-! ### generator expressions whose elements leave everything as it stands -/
theorem kp_tok (s : Shared) (k : Nat) : Keeps s { s with toks := k } := ⟨s.heap, k, rfl, fun _ _ e => e⟩
theorem kp_refl (s : Shared) : Keeps s s := kp_tok s s.toks
theorem kp_trans {s s1 s2 : Shared} (a : Keeps s s1) (b : Keeps s1 s2) : Keeps s s2 := by
  obtain ⟨h1, t1, rfl, k1⟩ := a
  obtain ⟨h2, t2, rfl, k2⟩ := b
  exact ⟨h2, t2, rfl, fun c o e => k2 c o (k1 c o e)⟩
theorem kp_at {s s1 : Shared} (a : Keeps s s1) : ∀ b o, s.heap.get? b = some o → s1.heap.get? b = some o := by
  obtain ⟨h1, t1, rfl, k1⟩ := a
  exact k1
def but (P : Addr) (H : Hp) : Hp := fun b => if b = P then none else H b
theorem but_ne {P b : Addr} {H : Hp} (h : b ≠ P) : but P H b = H b := if_neg h
/-- in the frame of a generator expression, at one turn: its name x holds u -/
structure Fc (X : Cx) (σ : L2.St) (H : Hp) (P : Addr) (scope : Scope) (x : Str) (u : Value) (cenv : Env) (A' : Around) (s₂ : Shared) (m₂ : Str → Option Value) : Prop where
  hd : A'.handled = none
  dp : A'.depth ≤ X.A.depth + 1
  un : A'.units ≤ X.A.units + 8
  sc : cenv.scope = scope
  gl : cenv.globals = mainGlobals
  bi : cenv.builtins = builtinsNs
  ns : s₂.heap.Ns cenv.locals m₂
  mx : m₂ x = some u
  base : ∀ b o, X.base.get? b = some o → s₂.heap.get? b = some o
  md : L2.Mod X.K X.mg X.base
  hok : HOk X.prog X.w (but P H) s₂.heap
  cap : ∀ (i : Nat) (y : Str) (v : V), X.N[i]? = some y → σ[i]? = some (some v) → (X.env.kindOf y = some .cell ∨ X.env.kindOf y = some .free) → scope.names.lookup y = some .free → ∃ r c, RelV v r ∧ cenv.cells.lookup y = some c ∧ s₂.heap.IsCell c (some r)
section
variable {X : Cx} {σ : L2.St} {H : Hp} {P : Addr} {scope : Scope} {x : Str} {u : Value} {cenv : Env} {A' : Around} {s₂ s₃ : Shared} {m₂ : Str → Option Value}
theorem Fc.keeps (F : Fc X σ H P scope x u cenv A' s₂ m₂) (k : Keeps s₂ s₃) : Fc X σ H P scope x u cenv A' s₃ m₂ :=
  have k' := kp_at k
  ⟨F.hd, F.dp, F.un, F.sc, F.gl, F.bi, (let ⟨o, es, ep, e, r⟩ := F.ns; ⟨o, es, ep, k' _ _ e, r⟩), F.mx, fun b o e => k' b o (F.base b o e), F.md, F.hok.kept k', fun i y v h1 h2 h3 h4 => by
    obtain ⟨r, c, a1, a2, o, a3, a4⟩ := F.cap i y v h1 h2 h3 h4
    exact ⟨r, c, a1, a2, o, k' _ _ a3, a4⟩⟩
theorem Fc.kin (F : Fc X σ H P scope x u cenv A' s₂ m₂) : X.K.In s₂.heap := F.md.kin.keeps F.base
theorem Fc.list (F : Fc X σ H P scope x u cenv A' s₂ m₂) (hT : Tab H P) {a : Addr} {xs : List V} (h : SqL X.K H a xs) : ∃ its : List Value, Vals xs its ∧ PlainL s₂.heap a its.toArray ∧ xs.length ≤ sizeLine := by
  have rd : ∀ {o : HO}, H a = some o → (∀ φ, o ≠ .ext φ) → but P H a = some o := fun {o} e n => by
    rw [but_ne fun z => by rw [z, hT] at e; exact n _ (Option.some.inj e).symm]
    exact e
  rcases h with (h | ⟨o, h⟩) | ⟨o, its, n, hk, hc, hd, hs, hz, r⟩
  · obtain ⟨z, its, n, r, e⟩ := F.hok a _ (rd h (fun φ z => by cases z))
    exact ⟨its, r, ⟨_, n, e, rfl, rfl, rfl⟩, z⟩
  · obtain ⟨_, z, its, n, r, e⟩ := F.hok a _ (rd h (fun φ z => by cases z))
    exact ⟨its, r, ⟨_, n, e, rfl, rfl, rfl⟩, z⟩
  · refine ⟨its.toList, r, ⟨o, n, F.kin a o hk, hc, hd, by simpa using hs⟩, ?_⟩
    have e := r.length
    simp only [Array.length_toList] at e
    omega
theorem Fc.tuple (F : Fc X σ H P scope x u cenv A' s₂ m₂) (hT : Tab H P) {a : Addr} {xs : List V} (h : SqT X.K H a xs) : ∃ its : List Value, Vals xs its ∧ IsTup s₂.heap a its.toArray ∧ xs.length ≤ sizeLine := by
  have rd : ∀ {o : HO}, H a = some o → (∀ φ, o ≠ .ext φ) → but P H a = some o := fun {o} e n => by
    rw [but_ne fun z => by rw [z, hT] at e; exact n _ (Option.some.inj e).symm]
    exact e
  rcases h with (h | ⟨o, h⟩) | ⟨o, its, n, hk, hc, hs, hz, r⟩
  · obtain ⟨z, its, r, p⟩ := F.hok a _ (rd h (fun φ z => by cases z))
    exact ⟨its, r, p, z⟩
  · obtain ⟨_, z, its, r, p⟩ := F.hok a _ (rd h (fun φ z => by cases z))
    exact ⟨its, r, p, z⟩
  · refine ⟨its.toList, r, ⟨o, F.kin a o hk, hc, n, by simpa using hs⟩, ?_⟩
    have e := r.length
    simp only [Array.length_toList] at e
    omega
end
/-- the expression has the value z there -/
def QV (X : Cx) (σ : L2.St) (H : Hp) (P : Addr) (scope : Scope) (x : Str) (u : Value) (e : Expr) (z : V) : Prop :=
  ∀ (cenv : Env) (A' : Around) (E' : Value → Shared → Prop) (s₂ : Shared) (m₂ : Str → Option Value), Fc X σ H P scope x u cenv A' s₂ m₂ → wpAny (model X.prog X.w) A' (eval e cenv) (fun y s₃ => RelV z y ∧ Keeps s₂ s₃) E' s₂
section
variable {X : Cx} {σ : L2.St} {H : Hp} {P : Addr} {scope : Scope} {x : Str} {u : Value} {a b : Expr} {za zb z : V} {pos : Pos}
theorem qv_x (hk : scope.kind = .function) (hl : scope.names.lookup x = some .local) (r : RelV z u) (hd : (x == ("__debug__" : Str)) = false := by decide) : QV X σ H P scope x u (.Name x pos) z := fun cenv A' E' s m F =>
  wpAny_Name (wpAny_loadName_local (by rw [F.sc]; exact hk) (show cenv.scope.names.lookup x = some .local by rw [F.sc]; exact hl) F.ns F.mx ⟨r, kp_refl _⟩) hd
theorem qv_cap {i : Nat} {y : Str} (hk : scope.kind = .function) (hl : scope.names.lookup y = some .free) (hN : X.N[i]? = some y) (hs : σ[i]? = some (some z)) (hv : X.env.kindOf y = some .cell ∨ X.env.kindOf y = some .free := by first | exact Or.inl rfl | exact Or.inr rfl) (hd : (y == ("__debug__" : Str)) = false := by decide) (hcd : (y == ("__classdict__" : Str)) = false := by decide) :
    QV X σ H P scope x u (.Name y pos) z := fun cenv A' E' s m F => by
  obtain ⟨r, c, h1, h2, h3⟩ := F.cap i y z hN hs hv hl
  exact wpAny_Name (wpAny_loadName_free (by rw [F.sc]; exact hk) (show cenv.scope.names.lookup y = some .free by rw [F.sc]; exact hl) h2 h3 ⟨h1, kp_refl _⟩ hcd) hd
theorem qv_glob {y : Str} {r : Value} (hk : scope.kind = .function) (hl : scope.names.lookup y = some .globalImplicit) (hm : X.mg y = some r) (h : RelV z r) (hd : (y == ("__debug__" : Str)) = false := by decide) :
    QV X σ H P scope x u (.Name y pos) z := fun cenv A' E' s m F =>
  Calls.Name_function_global (by rw [F.sc]; exact hk) (show cenv.scope.names.lookup y = some .globalImplicit by rw [F.sc]; exact hl) (Calls.loadGlobal_global (by rw [F.gl]; exact F.md.glob.keeps F.base) hm ⟨h, kp_refl _⟩) hd
theorem qv_int {i : Int} {j : Nat} : QV X σ H P scope x u (.Constant (.int i) j pos) (.int i) := fun cenv A' E' s m F => wpAny_Constant_int ⟨⟨_, rfl⟩, kp_tok _ _⟩
theorem qv_str {i : Str} {j : Nat} : QV X σ H P scope x u (.Constant (.str i) j pos) (.str i) := fun cenv A' E' s m F => Calls.Constant_str ⟨⟨_, rfl⟩, kp_tok _ _⟩
/-- an operation on two values -/
def QR (X : Cx) (σ : L2.St) (H : Hp) (P : Addr) (scope : Scope) (x : Str) (u : Value) (f : Value → Value → Sem Value) (za zb z : V) : Prop :=
  ∀ (cenv : Env) (A' : Around) (E' : Value → Shared → Prop) (s₂ : Shared) (m₂ : Str → Option Value) (v w : Value), Fc X σ H P scope x u cenv A' s₂ m₂ → RelV za v → RelV zb w → wpAny (model X.prog X.w) A' (f v w) (fun y s₃ => RelV z y ∧ Keeps s₂ s₃) E' s₂
theorem qv_two {f : Value → Value → Sem Value} (ha : QV X σ H P scope x u a za) (hb : QV X σ H P scope x u b zb) (hr : QR X σ H P scope x u f za zb z) (cenv : Env) (A' : Around) (E' : Value → Shared → Prop) (s : Shared) (m : Str → Option Value) (F : Fc X σ H P scope x u cenv A' s m) :
    wpAny (model X.prog X.w) A' (eval a cenv) (fun v s₁ => wpAny (model X.prog X.w) A' (eval b cenv) (fun w s₂ => wpAny (model X.prog X.w) A' (f v w) (fun y s₃ => RelV z y ∧ Keeps s s₃) E' s₂) E' s₁) E' s :=
  wpAny_mono (ha cenv A' E' s m F) (fun v s1 r1 => wpAny_mono (hb cenv A' E' s1 m (F.keeps r1.2)) (fun w s2 r2 => wpAny_mono (hr cenv A' E' s2 m v w ((F.keeps r1.2).keeps r2.2) r1.1 r2.1)
    (fun y s3 r3 => ⟨r3.1, kp_trans (kp_trans r1.2 r2.2) r3.2⟩) fun _ _ e => e) fun _ _ e => e) fun _ _ e => e
theorem qv_cmp {op : CmpOp} (hr : QR X σ H P scope x u (compareOp op) za zb z) (ha : QV X σ H P scope x u a za) (hb : QV X σ H P scope x u b zb) (hm : behindInMarks op b = false) : QV X σ H P scope x u (.Compare a [op] [b] pos) z := fun cenv A' E' s m F =>
  wpAny_Compare1 (qv_two ha hb hr cenv A' E' s m F) hm
theorem qv_op {op : Operator} (hr : QR X σ H P scope x u (binaryOp op) za zb z) (ha : QV X σ H P scope x u a za) (hb : QV X σ H P scope x u b zb) : QV X σ H P scope x u (.BinOp a op b pos) z := fun cenv A' E' s m F =>
  wpAny_BinOp (qv_two ha hb hr cenv A' E' s m F)
theorem qv_ix (hr : ∀ value slice, subscripted slice false = subscripted slice false → QR X σ H P scope x u (fun v w => subscriptTail value slice v w) za zb z) (ha : QV X σ H P scope x u a za) (hb : QV X σ H P scope x u b zb) : QV X σ H P scope x u (.Subscript a b pos) z := fun cenv A' E' s m F =>
  Subscript_ (qv_two ha hb (hr a b rfl) cenv A' E' s m F)
theorem qr_add {i j : Int} : QR X σ H P scope x u (binaryOp .Add) (.int i) (.int j) (.int (i + j)) := fun cenv A' E' s m v w F r1 r2 => by
  obtain ⟨t, rfl⟩ := r1
  obtain ⟨t', rfl⟩ := r2
  exact add_int ⟨⟨_, rfl⟩, kp_tok _ _⟩
theorem qr_ne_int {i j : Int} : QR X σ H P scope x u (compareOp .NotEq) (.int i) (.int j) (.bl (i != j)) := fun cenv A' E' s m v w F r1 r2 => by
  obtain ⟨t, rfl⟩ := r1
  obtain ⟨t', rfl⟩ := r2
  exact ne_int ⟨rfl, kp_refl _⟩
theorem qr_le_int {i j : Int} : QR X σ H P scope x u (compareOp .LtE) (.int i) (.int j) (.bl (decide (i ≤ j))) := fun cenv A' E' s m v w F r1 r2 => by
  obtain ⟨t, rfl⟩ := r1
  obtain ⟨t', rfl⟩ := r2
  exact le_int ⟨rfl, kp_refl _⟩
theorem qr_ne_str {i j : Str} : QR X σ H P scope x u (compareOp .NotEq) (.str i) (.str j) (.bl (i.cps.toList != j.cps.toList)) := fun cenv A' E' s m v w F r1 r2 => by
  obtain ⟨t, rfl⟩ := r1
  obtain ⟨t', rfl⟩ := r2
  exact PySem.P.ne_str ⟨rfl, kp_refl _⟩
theorem qr_in_sign {c : Nat} {j : Str} : QR X σ H P scope x u (compareOp .In) (.str ⟨#[c]⟩) (.str j) (.bl (decide (c ∈ j.cps.toList))) := fun cenv A' E' s m v w F r1 r2 => by
  obtain ⟨t, rfl⟩ := r1
  obtain ⟨t', rfl⟩ := r2
  exact PyProof.Rows.in_str ⟨(PySem.StrLaws.found_one j c).symm ▸ rfl, kp_refl _⟩
end

/-! ### what is walked -/
def SrcV (K : PySem.W.Frag) (H : Hp) (v : V) (n : Nat) (xs : Nat → V) : Prop :=
  (∃ (a : Addr) (l : List V), v = .ref a ∧ SqL K H a l ∧ n = l.length ∧ ∀ i, xs i = l.getD i .non) ∨
  (∃ z : Str, v = .str z ∧ n = z.cps.size ∧ ∀ i c, z.cps[i]? = some c → xs i = .str ⟨#[c]⟩) ∨
  (∃ (a : Addr) (lo hi : Int), v = .ref a ∧ H a = some (.rng lo hi) ∧ n = (hi - lo).toNat ∧ -(2 ^ 62) ≤ lo ∧ lo < 2 ^ 62 ∧ -(2 ^ 62) ≤ hi ∧ hi < 2 ^ 62 ∧ ∀ i : Nat, xs i = .int (lo + i))
section
variable {X : Cx} {pins : List (Addr × Obj)} {σ : L2.St} {H : Hp} {s : Shared}
theorem src_iter {v : V} {xv : Value} {n : Nat} {xs : Nat → V} {P : Addr} {Q : Value → Shared → Prop} {E : Value → Shared → Prop} (S : SrcV X.K H v n xs) (I : Inv X pins σ H s) (r : RelV v xv) (hT : Tab H P)
    (h : ∀ (o : Obj) (fp : List Addr) (Pf : Nat → Value → Prop) (St : Nat → Heap → Prop), (∀ i u, Pf i u → i < n → RelV (xs i) u) → (∀ A' : Around, A'.handled = none → Walks X.prog X.w A' s.heap.objs.size fp [s.heap.objs.size] n Pf St) →
      St 0 (s.heap.push o) → (∀ b ∈ fp, b ≤ s.heap.objs.size ∧ b ≠ P) → Q (.ref s.heap.objs.size) { s with heap := s.heap.push o }) : wpAny (model X.prog X.w) X.A (pyIter xv) Q E s := by
  have Plt : P < s.heap.objs.size := Heap.lt_size (hT.of_ok I.hok).choose_spec.1
  have szP : s.heap.objs.size ≠ P := fun z => Nat.lt_irrefl _ (z ▸ Plt : s.heap.objs.size < s.heap.objs.size)
  rcases S with ⟨a, l, rfl, hl, rfl, hx⟩ | ⟨z, rfl, rfl, hx⟩ | ⟨a, lo, hi, rfl, ha, rfl, b1, b2, b3, b4, hx⟩
  · cases r
    obtain ⟨its, rv, pl, _⟩ := I.list hl
    have hal : a < s.heap.objs.size := let ⟨_, e, _⟩ := pl.isList; Heap.lt_size e
    have naP : a ≠ P := fun e => by
      obtain ⟨ps, e1, _⟩ := hT.of_ok I.hok
      obtain ⟨o, n, e2, e3, _, e4⟩ := pl
      rw [e, e1] at e2
      cases e2
      cases e3
    refine wpAny_pyIter_list pl.isList ?_
    have hne : a ≠ s.heap.objs.size := Nat.ne_of_lt hal
    have en : its.toArray.size = l.length := by rw [List.size_toArray]; exact rv.length.symm
    refine h _ [s.heap.objs.size, a] (fun i v => its.toArray[i]? = some v) (fun i h => h.IsListIter s.heap.objs.size a i ∧ h.IsList a its.toArray) (fun i u hu hi => ?_) (fun A' hA => by rw [← en]; exact Walks.list hA _ a hne its.toArray) ⟨⟨_, Heap.get?_push_size _ rfl, rfl, rfl⟩, pl.isList.at fun o e => Heap.get?_push_of_some _ e⟩ fun b hb => ?_
    · obtain ⟨w, ew, rw'⟩ := rv.get (List.getElem?_eq_getElem hi)
      have e2 : its.toArray[i]? = some w := by simpa using ew
      rw [e2] at hu
      cases hu
      rw [hx, List.getD_eq_getElem?_getD, List.getElem?_eq_getElem hi]
      exact rw'
    · rcases List.mem_cons.mp hb with e | hb
      · rw [e]
        exact ⟨Nat.le_refl _, szP⟩
      · rw [List.mem_singleton.mp hb]
        exact ⟨Nat.le_of_lt hal, naP⟩
  · obtain ⟨t, rfl⟩ := r
    refine wpAny_pyIter_str fun o St W hst => ?_
    refine h o [s.heap.objs.size] (SignAt z) St (fun i u hu hi => ?_) W hst fun b hb => ?_
    · obtain ⟨c, t', hc, rfl⟩ := hu
      rw [hx i c hc]
      exact ⟨_, rfl⟩
    · rw [List.mem_singleton.mp hb]
      exact ⟨Nat.le_refl _, szP⟩
  · cases r
    obtain ⟨t, t1, t2, e⟩ := I.hok a _ ha
    refine wpAny_pyIter_range (a := lo) (b := hi) (c := 1) e (small_one b1 b2 b3 b4) ?_
    have en : ((Builtin.Range.rangeSize lo hi 1 : Int)) = (((hi - lo).toNat : Nat) : Int) := by
      unfold Builtin.Range.rangeSize
      simp
      omega
    refine h _ [s.heap.objs.size] (fun i v => ∃ t, v = .int (lo + i * 1) t) _ (fun i u hu hi => ?_) (fun A' hA => Walks.range hA _ lo 1 _) ?_ fun b hb => ?_
    · obtain ⟨t, rfl⟩ := hu
      rw [hx]
      exact ⟨t, by rw [Int.mul_one]⟩
    · rw [en]
      show IsRangeIter _ _ (lo + ((0 : Nat) : Int) * 1) ((((hi - lo).toNat : Nat) : Int) - ((0 : Nat) : Int)) 1
      rw [show lo + ((0 : Nat) : Int) * 1 = lo by simp, show (((hi - lo).toNat : Nat) : Int) - ((0 : Nat) : Int) = (((hi - lo).toNat : Nat) : Int) by simp]
      exact Heap.get?_push_size _ rfl
    · rw [List.mem_singleton.mp hb]
      exact ⟨Nat.le_refl _, szP⟩
end
theorem lookup_mem' {α : Type} : ∀ {l : List (Str × α)} {n : Str} {c : α}, l.lookup n = some c → (n, c) ∈ l
  | [], _, _, h => by cases h
  | (k, v) :: r, n, c, h => by
    rw [List.lookup_cons] at h
    cases hb : n == k with
    | true =>
      rw [hb] at h
      cases h
      rw [beq_iff_eq.mp hb]
      exact List.mem_cons_self
    | false =>
      rw [hb] at h
      exact List.mem_cons_of_mem _ (lookup_mem' h)
theorem walks_lt {prog : Program} {w : World} {A : Around} {I : Addr} {fp wr : List Addr} {n : Nat} {Pf : Nat → Value → Prop} {St : Nat → Heap → Prop} (W : Walks prog w A I fp wr n Pf St) : Walks prog w A I fp wr n (fun i u => i < n ∧ Pf i u) St where
  sub := W.sub
  frame := W.frame
  item := fun i s Q E hi st hQ => W.item i s Q E hi st fun v h' tk hp => hQ v h' tk ⟨hi, hp⟩
  done := W.done
  self := W.self
theorem clo_lookup {cells : List (Str × Addr)} {names : List (Str × NameKind)} {y : Str} {c : Addr} (hy : (y, NameKind.free) ∈ names) (hc : cells.lookup y = some c) : (cloFrom cells names []).lookup y = some c := by
  obtain ⟨c', h⟩ := mem_lookup (cloFrom_has (cells := cells) (acc := []) hy)
  rcases cloFrom_mem (lookup_mem' h) with z | ⟨_, z⟩
  · cases z
  · rw [h, z, hc]
    rfl
section
variable {X : Cx} {pins : List (Addr × Obj)} {σ : L2.St} {H : Hp} {s : Shared}
/-- the table has grown: nothing that is tracked changes -/
theorem inv_grown {P : Addr} {s' : Shared} (I : Inv X pins σ H s) (hT : Tab H P) (k : ∀ b o, b ≠ P → s.heap.get? b = some o → s'.heap.get? b = some o) (hP : TabPhi P s'.heap) (ho : s'.os = s.os) (hg : AllBare s'.gens) : Inv X pins σ H s' := by
  have nN : ∀ b, H b = none → b ≠ P := fun b e z => by
    rw [z, hT] at e
    cases e
  have J := I.step (h' := s'.heap) (H' := H) (g' := s'.gens) (t' := s'.toks) (d' := s'.drawn) (ch := []) (fun b hb => absurd hb (by simp)) (fun b o _ _ _ e n => k b o (nN b n) e) (fun b o _ _ _ e n => ⟨o.slots, k b o (nN b n) e⟩) (fun b o _ _ n => n)
    (fun b o _ e => by
      by_cases hb : b = P
      · rw [hb]
        exact ⟨_, hP.choose_spec.1⟩
      · exact ⟨o, k b o hb e⟩)
    (fun b xs e => e) (fun b o u e => e) (fun b ps e => ⟨#[], by rw [e]; simp⟩) (fun m ⟨ob, es, ep, e, r⟩ => ⟨ob, es, ep, k _ ob (nN _ I.free) e, r⟩)
    (fun b u e => by
      by_cases hb : b = P
      · subst hb
        rw [hT] at e
        cases e
        exact tab_ok hP
      · refine (I.hok b u e).stay (fun d v hd q => k d v ?_ q) (fun d q => q) fun d xs q => q
        rcases hd with z | z
        · rw [z]
          exact hb
        · intro e2
          rw [e2, hT] at z
          cases z) hg
  have e : ({ s with heap := s'.heap, gens := s'.gens, drawn := s'.drawn, toks := s'.toks } : Shared) = s' := by
    cases s'
    cases ho
    rfl
  rw [e] at J
  exact J
/-- the generator g, ready to be walked -/
def RdyG (X : Cx) (pins : List (Addr × Obj)) (σ : L2.St) (H : Hp) (n : Nat) (f : Nat → Bool) (g : Addr) (s5 : Shared) : Prop :=
  ∃ (fp wr : List Addr) (G : Array GenState → Array GenState → Prop) (F : Nat → Value → Prop) (St : Nat → Shared → Prop), WalksS X.prog X.w X.A.in1 g fp wr G n F St ∧ St 0 s5 ∧ TruthOf X.prog X.w X.A.in1 F f ∧ ∀ s', Moved wr G s5 s' → Inv X pins σ H s'
theorem gen_make {c P : Addr} {elt iter : Expr} {x : Str} {px gpos : Pos} {scope : Scope} {te : TE} {k : Nat} {Q' : Value → Shared → Prop} {R : Nat → (Nat → Bool) → Hp → Prop}
    (hr : Room k X.A) (TB : LamX.TabB X.base X.mg c P) (hcode : X.env.code = .ref c) (S : GxR.GenS X.env scope x) (hi : PE X iter te) (hs : ∀ v, genFold iter X.env v = pure v) (I : Inv X pins σ H s)
    (h : te σ H fun v H1 => Tab H1 P ∧ ∃ (n : Nat) (xs : Nat → V) (f : Nat → Bool), SrcV X.K H1 v n xs ∧ (∀ i u, i < n → RelV (xs i) u → QV X σ H1 P scope x u elt (.bl (f i))) ∧ R n f H1)
    (hQ : ∀ n f H1 g s5, R n f H1 → RdyG X pins σ H1 n f g s5 → Q' (.ref g) s5) :
    wpAny (model X.prog X.w) X.A (eval (.GeneratorExp elt [⟨.Name x px, iter, [], 0⟩] scope gpos) X.env) Q' X.xe s := by
  refine wpAny_GeneratorExp_walksQD hr.hd S.co (closure_ok S.free) S.cell S.dot S.loc S.kind hr.depth ?_ hs
  refine thn (hi.run pins s σ H _ I h) fun xv s1 ⟨v, H1, I1, r1, hT, n, xs, f, hsrc, hel, hR⟩ => ?_
  refine src_iter hsrc I1 r1 hT fun o fp Pf St hPf hW hst hfp => ?_
  obtain ⟨ps, hPs, ht⟩ := hT.of_ok I1.hok
  have hPlt : P < s1.heap.objs.size := Heap.lt_size hPs
  have hP2 : (s1.heap.push o).get? P = some { cls := .none, data := .fields ps } := Heap.get?_push_of_some _ hPs
  have cd : PySem.W.CodeHd (s1.heap.push o) c P := TB.code.keeps fun b u e => Heap.get?_push_of_some _ (I1.bk b u e)
  have lim2 : (s1.heap.push o).NoLimit := I1.nolimit.push o
  have hcP : cStatics ≠ P := fun e => by
    obtain ⟨_, ⟨o', es, ep, ho, hd, _⟩, _⟩ := I1.nolimit
    rw [e, hPs] at ho
    cases ho
    cases hd
  have hcl : cStatics < s1.heap.objs.size := let ⟨_, hns, _⟩ := I1.nolimit; hns.lt
  have sz2 : (s1.heap.push o).objs.size = s1.heap.objs.size + 1 := Heap.size_push ..
  have nTb : ∀ b, H1 b = none → b ≠ P := fun b e z => by
    rw [z, hT] at e
    cases e
  -- what is left once the code object is known
  have go : ∀ (code : Value) (h3 : Heap) (tk : Nat) (ps' : Array Value), Heap.ExtBut P (s1.heap.push o) h3 → (s1.heap.push o).objs.size ≤ h3.objs.size → h3.get? P = some { cls := .none, data := .fields ps' } → TriplesOk ps'.toList →
      wpAny (model X.prog X.w) X.A (builtinsFor X.env.globals X.env.builtins) (fun bi s₄ => ∃ I fp wr n₀ Pg St₀ pz F, Value.ref s1.heap.objs.size = .ref I ∧ (∀ A' : Around, A'.handled = none → Walks X.prog X.w A' I fp wr n₀ Pg St₀) ∧ St₀ 0 s₄.heap ∧ (∀ b ∈ fp, b < s₄.heap.objs.size) ∧ s₄.heap.NoLimit ∧ cStatics ∉ wr ∧
          (∀ href : Heap, (∀ b o, s₄.heap.get? b = some o → href.get? b = some o) → QuietGenD X.prog X.w (genEnv scope (cloFrom X.env.cells scope.names []) s₄.heap.objs.size code bi X.env) x [] elt (List.range s₄.heap.objs.size) wr Pg pz F href (X.A.depth + 1) (X.A.units + 8)) ∧
          (∀ a h₅ tk gs, gs.bare = true → s₄.heap.objs.size < a → h₅.objs.size = a + 1 → (∀ b o, s₄.heap.get? b = some o → h₅.get? b = some o) →
            WalksS X.prog X.w X.A.in4 a (a :: s₄.heap.objs.size :: List.range s₄.heap.objs.size) (s₄.heap.objs.size :: wr) (GenOnlyQ s₄.gens.size) (passing pz n₀ 0).length (fun j y => ∃ i, (passing pz n₀ 0)[j]? = some i ∧ F i y) (GenAt X.prog X.w X.A.in4 a s₄.gens.size s₄.heap.objs.size (List.range s₄.heap.objs.size) wr pz n₀ F) →
            GenAt X.prog X.w X.A.in4 a s₄.gens.size s₄.heap.objs.size (List.range s₄.heap.objs.size) wr pz n₀ F 0 { s₄ with gens := s₄.gens.push gs, toks := tk, heap := h₅ } →
            Q' (.ref a) { s₄ with gens := s₄.gens.push gs, toks := tk, heap := h₅ })) X.xe { s1 with heap := h3, toks := tk } := by
    intro code h3 tk ps' hx hsz hP3 ht3
    obtain ⟨bm, ob, e1, e2, e3, e4, e5, e6, e7, e8⟩ := TB.bm
    have keep3 : ∀ b u, b ≠ P → s1.heap.get? b = some u → h3.get? b = some u := fun b u hb e => hx b u hb (Heap.get?_push_of_some _ e)
    refine wpAny_builtinsFor (m := X.mg) (by rw [I1.ok.glob]; exact ((I1.mod.glob.keeps I1.bk).push o).extBut hx TB.gP) e1 e2 (keep3 _ _ e4 (I1.bk _ _ e5)) e6 e7 e8 ?_
    have hsz3 : s1.heap.objs.size < h3.objs.size := by omega
    refine ⟨s1.heap.objs.size, fp, [s1.heap.objs.size], n, fun i u => i < n ∧ Pf i u, St, fun _ => true, fun i y => y = .bool (f i), rfl, fun A' hA => walks_lt (hW A' hA), ?_, fun b hb => Nat.lt_of_le_of_lt (hfp b hb).1 hsz3, lim2.extBut hx hcP, ?_, ?_, ?_⟩
    · exact (hW X.A hr.hd).frame _ _ _ hst fun b hb u e => hx b u (hfp b hb).2 e
    · intro z
      rw [List.mem_singleton.mp z] at hcl
      exact Nat.lt_irrefl _ hcl
    · intro href hhref
      refine ⟨fun A' E' i v s₂ m₂ hA hD hU hPv hn hm hk => ?_, fun A' E' i v s₂ m₂ hA hD hU hPv hp hn hm hk => ?_⟩
      · simp only [List.forIn_nil]
        exact wpAny_pure ⟨rfl, kp_refl _⟩
      · have kept : ∀ b u, b ≠ P → s1.heap.get? b = some u → s₂.heap.get? b = some u := fun b u hb e => by
          have hlt := Heap.lt_size e
          refine hk b (List.mem_range.mpr ?_) (fun z => ?_) u (hhref b u (keep3 b u hb e))
          · show b < h3.objs.size
            exact Nat.lt_trans hlt hsz3
          · rw [List.mem_singleton.mp z] at hlt
            exact Nat.lt_irrefl _ hlt
        refine wpAny_mono (hel i v hPv.1 (hPf i v hPv.2 hPv.1) _ A' E' s₂ m₂ ⟨hA, hD, hU, rfl, I1.ok.glob, rfl, hn, hm, fun b u e => kept b u (nTb b (I1.bs b u e).2) (I1.bk b u e), I1.mod, fun b u e => ?_, fun j y w hN hσ hv hfr => ?_⟩) (fun y s3 r => ⟨r.1, r.2⟩) fun _ _ e => e
        · have hb : b ≠ P := fun z => by
            rw [z] at e
            unfold but at e
            rw [if_pos rfl] at e
            cases e
          rw [but_ne hb] at e
          refine (I1.hok b u e).stay (fun d w hd q => kept d w ?_ q) (fun d q => ?_) fun d ys q => ?_
          · rcases hd with z | z
            · rw [z]
              exact hb
            · intro e2
              rw [e2, hT] at z
              cases z
          · rw [but_ne fun e2 => by rw [e2, hT] at q; cases q]
            exact q
          · rw [but_ne fun e2 => by rw [e2, hT] at q; cases q]
            exact q
        · obtain ⟨m, hn1, hl⟩ := I1.loc
          obtain ⟨r, rv, l⟩ := hl j y w hN hσ (hv.elim (fun z => Or.inr (Or.inl z)) (fun z => Or.inr (Or.inr z)))
          rcases l with ⟨z, _⟩ | ⟨_, cc, hc, oc, he, hd⟩
          · rcases hv with z2 | z2
            · rw [z] at z2; cases z2
            · rw [z] at z2; cases z2
          · exact ⟨r, cc, rv, clo_lookup (lookup_mem' hfr) hc, oc, kept cc oc (nTb cc (I1.freeC y cc hc)) he, hd⟩
    · intro g h5 tk5 gs hgb hag hsz5 hk5 W5 hat
      simp only [GxR.passing_true, List.length_range] at W5
      refine hQ n f H1 g _ hR ⟨_, _, _, _, _, W5.in4_1, hat, fun j y sj Qj Ej hy hQj => ?_, fun s' hm => ?_⟩
      · obtain ⟨i, hij, rfl⟩ := hy
        obtain ⟨hj, ej⟩ := List.getElem?_eq_some_iff.mp hij
        rw [List.getElem_range] at ej
        subst ej
        exact wpAny_truthy_bool hQj
      · have nwr : ∀ b u, s1.heap.get? b = some u → b ∉ h3.objs.size :: [s1.heap.objs.size] := fun b u e hb => by
          have hl := Heap.lt_size e
          rcases List.mem_cons.mp hb with z | z
          · rw [z] at hl
            exact Nat.lt_irrefl _ (Nat.lt_trans hl hsz3)
          · rw [List.mem_singleton.mp z] at hl
            exact Nat.lt_irrefl _ hl
        exact inv_grown I1 hT (fun b u hb e => hm.heap b u (nwr b u e) (hk5 b u (keep3 b u hb e))) ⟨ps', hm.heap P _ (nwr P _ hPs) (hk5 P _ hP3), ht3⟩ hm.os (AllBare.movedS (I1.bare.push hgb) hm)
  refine ⟨lim2, ?_⟩
  cases hf : codeAmong gpos ps.toList with
  | some cv => exact wpAny_genexprCode_hit hcode (cd.code hP2 ht) hf (go cv (s1.heap.push o) s1.toks ps (Heap.ExtBut.refl _ _) (Nat.le_refl _) hP2 ht)
  | none =>
    refine wpAny_genexprCodeX hcode (cd.code hP2 ht) (cd.tab hP2) hf fun c' h' tk hx hge hlt hco' _ htab' _ => ?_
    obtain ⟨_, _, _, _, _, _, _, _, _, _, _, _, _, _, _, _, _, _, _, htr, _⟩ := hco'
    exact go _ h' tk _ hx (Nat.le_trans hge (Nat.le_of_lt hlt)) htab'.2 htr
/-- all(.. for x in e), any(.. for x in e) -/
def tGen (X : Cx) (P : Addr) (scope : Scope) (x : Str) (elt : Expr) (fin : Nat → (Nat → Bool) → Bool) (te : TE) : TE := fun σ H Q => te σ H fun v H1 => Tab H1 P ∧ ∃ (n : Nat) (xs : Nat → V) (f : Nat → Bool), SrcV X.K H1 v n xs ∧ (∀ i u, i < n → RelV (xs i) u → QV X σ H1 P scope x u elt (.bl (f i))) ∧ Q (.bl (fin n f)) H1
def allF (n : Nat) (f : Nat → Bool) : Bool := (List.range n).all f
def anyF (n : Nat) (f : Nat → Bool) : Bool := (List.range n).any f
theorem pe_all {c P : Addr} {elt iter : Expr} {x : Str} {px p pos gpos : Pos} {scope : Scope} {te : TE} {k : Nat} (hr : Room k X.A) (hg : Gl X "all") (hm : X.mg "all" = none) (hb : bootBuiltins "all" = some (.builtin "all")) (TB : LamX.TabB X.base X.mg c P) (hcode : X.env.code = .ref c) (S : GxR.GenS X.env scope x)
    (hi : PE X iter te) (hs : ∀ v, genFold iter X.env v = pure v)
    (he : starEach [.GeneratorExp elt [⟨.Name x px, iter, [], 0⟩] scope gpos] X.env = (false, eval (.GeneratorExp elt [⟨.Name x px, iter, [], 0⟩] scope gpos) X.env) :: starEach [] X.env := by rfl) :
    PE X (.Call (.Name "all" p) [.GeneratorExp elt [⟨.Name x px, iter, [], 0⟩] scope gpos] [] pos) (tGen X P scope x elt allF te) := by
  refine ⟨fun pins s σ H Q I h => wpAny_Call_Name_kw (ld_blt I hg hm hb (PyProof.Rows.callWith_builtin1 ?_ he (by rfl)))⟩
  rw [he]
  show wpAny _ _ (spliced ((false, eval (.GeneratorExp elt [⟨.Name x px, iter, [], 0⟩] scope gpos) X.env) :: backTo pos (starEach [] X.env))) _ _ s
  refine Calls.spliced_cons (gen_make (R := fun n f H1 => Q (.bl (allF n f)) H1) hr TB hcode S hi hs I h fun n f H1 g s5 hR ⟨fp, wr, G, F, St₁, W, hst, htr, hI⟩ => Calls.spliced_nil ?_)
  exact call_all_walkS (W.self 0 _ _ _ hst ⟨g, fp, wr, G, _, F, St₁, _, rfl, W, hst, htr, fun s' hmv => ⟨.bl _, H1, hI s' hmv, rfl, hR⟩⟩)
theorem pe_any {c P : Addr} {elt iter : Expr} {x : Str} {px p pos gpos : Pos} {scope : Scope} {te : TE} {k : Nat} (hr : Room k X.A) (hg : Gl X "any") (hm : X.mg "any" = none) (TB : LamX.TabB X.base X.mg c P) (hcode : X.env.code = .ref c) (S : GxR.GenS X.env scope x)
    (hi : PE X iter te) (hs : ∀ v, genFold iter X.env v = pure v)
    (he : starEach [.GeneratorExp elt [⟨.Name x px, iter, [], 0⟩] scope gpos] X.env = (false, eval (.GeneratorExp elt [⟨.Name x px, iter, [], 0⟩] scope gpos) X.env) :: starEach [] X.env := by rfl) :
    PE X (.Call (.Name "any" p) [.GeneratorExp elt [⟨.Name x px, iter, [], 0⟩] scope gpos] [] pos) (tGen X P scope x elt anyF te) := by
  refine ⟨fun pins s σ H Q I h => wpAny_Call_Name_kw (ld_blt I hg hm boot_any (PyProof.Rows.callWith_builtin1 ?_ he (by rfl)))⟩
  rw [he]
  show wpAny _ _ (spliced ((false, eval (.GeneratorExp elt [⟨.Name x px, iter, [], 0⟩] scope gpos) X.env) :: backTo pos (starEach [] X.env))) _ _ s
  refine Calls.spliced_cons (gen_make (R := fun n f H1 => Q (.bl (anyF n f)) H1) hr TB hcode S hi hs I h fun n f H1 g s5 hR ⟨fp, wr, G, F, St₁, W, hst, htr, hI⟩ => Calls.spliced_nil ?_)
  exact call_any_walkS (W.self 0 _ _ _ hst ⟨g, fp, wr, G, _, F, St₁, _, rfl, W, hst, htr, fun s' hmv => ⟨.bl _, H1, hI s' hmv, rfl, hR⟩⟩)
end
end LG

set_option Elab.async false
set_option linter.all false
set_option maxRecDepth 100000
set_option maxHeartbeats 4000000
namespace LS
open PySem PySem.Spec PyProof.Rows L2 Evl LT LG
/-! ### texts -/
section
variable {K : PySem.W.Frag} {σ : L2.St} {H : Hp} {ta tb tc te to : TE} {x y z v : V} {D : Ends} {tu tz : TS}
theorem rv_addS {i j : Str} (h : i.length + j.length ≤ sizeLine) : RV (fun x y H Q => ∃ i j, x = .str i ∧ y = .str j ∧ i.length + j.length ≤ sizeLine ∧ Q (.str (i ++ j)) H) (.str i) (.str j) H (.str (i ++ j)) := rv_val fun _ _ Q q => ⟨i, j, rfl, rfl, h, q⟩
theorem ev_lenS {z : Str} {ta : TE} (h : Ev ta σ H (.str z)) (hz : z.length ≤ sizeLine) : Ev (tCB (fun xs H Q => ∃ x, xs = [.str x] ∧ x.length ≤ sizeLine ∧ Q (.int x.length) H) (tCons ta tNil)) σ H (.int (z.length : Int)) := ev_cb (ea_cons h ea_nil) fun H1 _ Q q => ⟨z, rfl, hz, q H1 (Ex.refl H1)⟩
theorem ev_isi {x : V} {n : String} {t : Value} {b : Bool} (h : Ev ta σ H x) (hn : Ev tb σ H (.ty n)) (ht : ∀ H1, Ex H H1 → TyX K H1 x t) (hk : PySem.W.kitOne K t (.type n) = some b) : Ev (tCB (rIsi K) (tCons ta (tCons tb tNil))) σ H (.bl b) :=
  ev_cb (ea_cons h (ea_cons hn ea_nil)) fun H1 e Q q => ⟨x, .ty n, t, .type n, b, rfl, .ty n, ht H1 e, hk, q H1 (Ex.refl H1)⟩
/-- a < b < c over ints -/
theorem et_chain {f g : Int → Int → Bool} {i j k : Int} (ha : Ev ta σ H (.int i)) (hb : Ev tb σ H (.int j)) (hc : Ev tc σ H (.int k)) : EvT (tTest (tChain (rI0 fun i j => .bl (f i j)) (rI0 fun i j => .bl (g i j)) ta tb tc)) σ H (f i j && g j k) := fun H1 e Q q =>
  ha H1 e _ fun H2 e2 => hb H2 (e.trans e2) _ fun H3 e3 => ⟨i, j, rfl, rfl, f i j, rfl, by
    cases hf : f i j with
    | true =>
      rw [if_pos rfl]
      refine hc H3 ((e.trans e2).trans e3) _ fun H4 e4 => ⟨j, k, rfl, rfl, g j k, rfl, ?_⟩
      have := q H4 ((e2.trans e3).trans e4)
      rw [hf] at this
      exact this
    | false =>
      rw [if_neg Bool.false_ne_true]
      have := q H3 (e2.trans e3)
      rw [hf] at this
      exact ⟨false, rfl, this⟩⟩
theorem s_forS {zs : Str} {j : Nat} (h : Ev te σ H (.str zs)) (Pv : Nat → L2.St → Hp → Prop) (h0 : ∀ H1, Ex H H1 → Pv 0 σ H1)
    (hs : ∀ i c σ' H', zs.cps.toList[i]? = some c → Pv i σ' H' → tu { D with nx := Pv (i + 1), ct := Pv (i + 1), bk := D.nx } (σ'.set j (some (.str ⟨#[c]⟩))) H') (hd : ∀ σ' H', Pv zs.cps.toList.length σ' H' → D.nx σ' H') : tFor (iStr te) (gName j) tu D σ H :=
  h H (Ex.refl H) _ fun H1 e => ⟨zs, rfl, fun i m σ' H' => m + i = zs.cps.size ∧ Pv i σ' H', ⟨zs.cps.size, by omega, h0 H1 e⟩, fun i m σ' H' ⟨hm, p⟩ => by
    by_cases hi : i < zs.cps.size
    · refine .inr ⟨hi, Pv (i + 1), fun σ2 H2 p2 => ⟨m - 1, by omega, by omega, p2⟩, fun v H2 hy => ?_⟩
      obtain ⟨rfl, c, hc, rfl⟩ := hy
      exact hs i c σ' H2 (by rw [Array.getElem?_toList]; exact hc) p
    · have ei : i = zs.cps.toList.length := by
        rw [Array.length_toList]
        omega
      rw [ei] at p
      exact .inl ⟨Nat.le_of_not_lt hi, hd σ' H' p⟩⟩
theorem q_forS {zs : Str} {j : Nat} (h : Ev te σ H (.str zs)) (Pv : Nat → L2.St → Hp → Prop) (h0 : ∀ H1, Ex H H1 → Pv 0 σ H1)
    (hs : ∀ i c σ' H', zs.cps.toList[i]? = some c → Pv i σ' H' → tu { D with nx := Pv (i + 1), ct := Pv (i + 1), bk := tz D } (σ'.set j (some (.str ⟨#[c]⟩))) H') (hd : ∀ σ' H', Pv zs.cps.toList.length σ' H' → tz D σ' H') : tSeq (tFor (iStr te) (gName j) tu) tz D σ H :=
  s_forS (D := { D with nx := tz D }) h Pv h0 hs hd
theorem q_call {i : Nat} {sp : Sp} {dvs vs : List V} {E : XK} {tr : TA} (h : EvA tr σ H vs) (k : ∀ H1, Ex H H1 → sp (vs ++ dvs) H1 (fun v H2 => tz D (σ.set i (some v)) H2) E) : tSeq (tAsg (tCall sp dvs E tr) (gName i)) tz D σ H := h H (Ex.refl H) _ fun H1 e => k H1 e
/-- a call whose first argument is a new tuple -/
theorem ev_callU1 {sp : Sp} {dvs vs xs : List V} {E : XK} {tr : TA} (h : EvU ta σ H xs) (hr : EvA tr σ H vs) (hs : ∀ p H1, H1 p = some (.tup xs) → Ex H H1 → SpV sp ((.ref p :: vs) ++ dvs) H1 z) : Ev (tCall sp dvs E (tCons ta tr)) σ H z := fun H1 e Q q =>
  h H1 e _ fun p H2 hp e2 h2 => hr H2 (e.trans e2) _ fun H3 e3 => hs p H3 (e3 _ _ h2) ((e.trans e2).trans e3) H3 (Ex.refl _) Q (fun H4 e4 => q H4 ((e2.trans e3).trans e4)) E
theorem ev_index {W : WX} {a b : Str} {k : Nat} {tr : TA} (h : Ev to σ H (.str a)) (hb : EvA tr σ H [.str b]) (hk : Txt.index0 a b = some k) : Ev (tBMS K "str" (rIndexX W) to tr) σ H (.int (k : Int)) := fun H1 e Q q =>
  h H1 e _ fun H2 e2 => ⟨rfl, hb H2 (e.trans e2) _ fun H3 e3 => ⟨a, b, rfl, rfl, fun k' hk' => by
    rw [hk] at hk'
    cases hk'
    exact q H3 (e2.trans e3), fun hn => by
    rw [hk] at hn
    cases hn⟩⟩
theorem ev_find {a b : Str} (h : Ev to σ H (.str a)) (hb : Ev te σ H (.str b)) : Ev (tM1 (fun x xs H Q => ∃ a b, x = .str a ∧ xs = [.str b] ∧ Q (.int (Txt.find a b)) H) to te) σ H (.int (Txt.find a b)) := fun H1 e Q q =>
  h H1 e _ fun H2 e2 => ⟨⟨a, rfl⟩, hb H2 (e.trans e2) _ fun H3 e3 => ⟨a, b, rfl, rfl, q H3 (e2.trans e3)⟩⟩
theorem ev_slS {tl th : TO} {z : Str} {lo hi : Option Int} (h : Ev te σ H (.str z)) (h1 : EvO tl σ H lo) (h2 : EvO th σ H hi) (hz : z.length ≤ sizeLine) : Ev (tSl rSlS te tl th) σ H (.str (cutS z lo hi)) := fun H1 e Q q =>
  h H1 e _ fun H2 e2 => h1 H2 (e.trans e2) _ fun H3 e3 => h2 H3 ((e.trans e2).trans e3) _ fun H4 e4 => ⟨z, rfl, hz, q H4 ((e2.trans e3).trans e4)⟩
/-- text * int -/
def rMulS : R2 := fun x y H Q => ∃ a n, x = .str a ∧ y = .int n ∧ a.length ≤ 1000 ∧ 0 ≤ n ∧ n ≤ 1000 ∧ Q (.str (Txt.mul a n)) H
theorem rv_mulS {a : Str} {n : Int} (h1 : a.length ≤ 1000) (h2 : 0 ≤ n) (h3 : n ≤ 1000) : RV rMulS (.str a) (.int n) H (.str (Txt.mul a n)) := rv_val fun _ _ Q q => ⟨a, n, rfl, rfl, h1, h2, h3, q⟩
end
theorem mulOk {a : Str} {n : Int} (h1 : a.length ≤ 1000) (h2 : 0 ≤ n) (h3 : n ≤ 1000) : MulOk a n := by
  refine ⟨by simp; omega, fun h h' hh => ?_, fun h h' => ?_⟩
  · have p : (0 : Int) < n := by omega
    have m : (a.length : Int) * n ≤ 1000 * 1000 := Int.mul_le_mul (by omega) h3 h2 (by decide)
    have := (Int.le_ediv_iff_mul_le p).mpr (show (a.length : Int) * n ≤ 2 ^ 63 - 1 by omega)
    omega
  · have m : a.length * n.toNat ≤ 1000 * 1000 := Nat.mul_le_mul h1 (by omega)
    have z : sizeLine = 16777216 := rfl
    show decide (a.length * n.toNat > sizeLine) = false
    exact decide_eq_false (by omega)
theorem op_mul_str {X : Cx} : OpR X (binaryOp .Mult) rMulS := by
  intro pins s σ H x y v u Q I rx ry h
  obtain ⟨a, n, rfl, rfl, h1, h2, h3, q⟩ := h
  obtain ⟨t, rfl⟩ := rx
  obtain ⟨t', rfl⟩ := ry
  exact SB.mul (mulOk h1 h2 h3) fun t'' k => ⟨.str (Txt.mul a n), H, I.tok _, ⟨_, rfl⟩, q⟩
section
variable {X : Cx} {σ : L2.St} {H : Hp} {P : Addr} {scope : Scope} {x : Str} {elt : Expr} {te : TE} {fin : Nat → (Nat → Bool) → Bool}
theorem ev_gen {v : V} {n : Nat} {xs : Nat → V} {f : Nat → Bool} (h : Ev te σ H v) (hT : Tab H P) (hs : ∀ H1, Ex H H1 → SrcV X.K H1 v n xs) (he : ∀ H1, Ex H H1 → ∀ i u, i < n → RelV (xs i) u → QV X σ H1 P scope x u elt (.bl (f i))) :
    Ev (tGen X P scope x elt fin te) σ H (.bl (fin n f)) := fun H1 e Q q => h H1 e _ fun H2 e2 => ⟨hT.mono (e.trans e2), n, xs, f, hs H2 (e.trans e2), he H2 (e.trans e2), q H2 e2⟩
end
theorem allF_list {α : Type} (l : List α) (d : α) (p : α → Bool) : allF l.length (fun i => p (l.getD i d)) = l.all p := by
  unfold allF
  rw [Bool.eq_iff_iff, List.all_eq_true, List.all_eq_true]
  constructor
  · intro h y hy
    obtain ⟨i, hi, rfl⟩ := List.getElem_of_mem hy
    have q := h i (List.mem_range.mpr hi)
    rw [List.getD_eq_getElem?_getD, List.getElem?_eq_getElem hi] at q
    exact q
  · intro h i hi
    have hi' := List.mem_range.mp hi
    rw [List.getD_eq_getElem?_getD, List.getElem?_eq_getElem hi']
    exact h _ (List.getElem_mem hi')
theorem anyF_list {α : Type} (l : List α) (d : α) (p : α → Bool) : anyF l.length (fun i => p (l.getD i d)) = l.any p := by
  unfold anyF
  rw [Bool.eq_iff_iff, List.any_eq_true, List.any_eq_true]
  constructor
  · rintro ⟨i, hi, h⟩
    have hi' := List.mem_range.mp hi
    rw [List.getD_eq_getElem?_getD, List.getElem?_eq_getElem hi'] at h
    exact ⟨_, List.getElem_mem hi', h⟩
  · rintro ⟨y, hy, h⟩
    obtain ⟨i, hi, rfl⟩ := List.getElem_of_mem hy
    refine ⟨i, List.mem_range.mpr hi, ?_⟩
    rw [List.getD_eq_getElem?_getD, List.getElem?_eq_getElem hi]
    exact h
theorem src_str {K : PySem.W.Frag} {H : Hp} (z : Str) : SrcV K H (.str z) z.cps.toList.length (fun i => .str ⟨#[z.cps.toList.getD i 0]⟩) := .inr (.inl ⟨z, rfl, Array.length_toList, fun i c hc => by
  have e : z.cps.toList[i]? = some c := by rw [Array.getElem?_toList]; exact hc
  show V.str ⟨#[z.cps.toList.getD i 0]⟩ = V.str ⟨#[c]⟩
  rw [List.getD_eq_getElem?_getD, e]
  rfl⟩)
/-! ### a def whose code object is known -/
structure FunC (K : PySem.W.Frag) (x qual : Str) (st : Stmt) (f : Addr) (fd : FuncData) (c : Addr) : Prop where
  ex : ∃ (oc : Value) (od : Option Addr) (kV doc pm : Value) (an : Option Addr) (ct : Value) (osl : Array (Option Value)), fd = PySem.W.fnOf x qual (defArgs st) (defBody st) (defScope st) .none kV doc pm an (.ref c) ct ∧ K.lookup f = some ⟨oc, od, .func fd, osl⟩ ∧ PySem.W.codeIn K (.ref c) qual = true
  kp : PySem.W.keepIn K (.ref f) = true
section
variable {P : Program} {w : World} {K : PySem.W.Frag} {mg : Str → Option Value} {base : Heap}
theorem FunC.ok {x qual : Str} {st : Stmt} {f c : Addr} {fd : FuncData} {N ps : List Str} {k : Nat} {sp : Sp} (F : FunC K x qual st f fd c) (S : FnScope N ps (defScope st)) (len : ∀ vs H Q E, sp vs H Q E → vs.length = ps.length)
    (hbody : ∀ (A : Around) (outer : List Env) (s : Shared) (H : Hp) (vs : List V) (Q : VK) (E : XK), Room k (A.deeper (envOfC qual (defScope st) s.heap.objs.size f (.ref c))) → sp vs H Q E →
      ∃ t, PSs (cxOf CX0 P w K mg base N qual (defScope st) f (.ref c) A outer s H E).nox (defBody st) t ∧ t { nx := fun _ H' => Q .non H', rt := Q } (start N vs) H) : FnOk P w K mg base CX0 (k + 1) f fd ps sp := by
  obtain ⟨oc, od, kV, doc, pm, an, ct, osl, rfl, lk, hcd⟩ := F.ex
  exact fn_of lk hcd S len fun A outer s H vs Q E hr hsp => let ⟨t, h, q⟩ := hbody A outer s H vs Q E hr hsp; ⟨t, h.nox, q⟩
theorem FunC.fun {x qual : Str} {st : Stmt} {f c : Addr} {fd : FuncData} (F : FunC K x qual st f fd c) : Fun K x qual st f fd := let ⟨oc, od, kV, doc, pm, an, ct, osl, e, lk, hcd⟩ := F.ex; ⟨⟨oc, od, kV, doc, pm, an, .ref c, ct, osl, e, lk, hcd⟩, F.kp⟩
theorem tab_mk {x : Str} {f c T : Addr} {oc e : Value} {od dd : Option Addr} {osl sl : Array (Option Value)} {fd : FuncData} {vs : Array Value} (a : PySem.W.nsIn K mainGlobals x = some (some (.ref f))) (l : K.lookup f = some ⟨oc, od, .func fd, osl⟩)
    (h : K.lookup c = some ⟨e, dd, .fields vs, sl⟩) (hv : vs[11]? = some (.ref T)) (hc : fd.code = .ref c := by rfl) : PySem.W.tabIn K x = some (c, T) := by
  unfold PySem.W.tabIn
  rw [a]
  dsimp only
  rw [l]
  dsimp only
  rw [hc]
  dsimp only
  rw [h]
  dsimp only
  rw [hv]
theorem funC_mk {x qual : Str} {st : Stmt} {f c T : Addr} {oc : Value} {od an : Option Addr} {osl : Array (Option Value)} {kV doc pm cdv ct : Value} (a : PySem.W.nsIn K mainGlobals x = some (some (.ref f))) (l : K.lookup f = some ⟨oc, od, .func (PySem.W.fnOf x qual (defArgs st) (defBody st) (defScope st) .none kV doc pm an cdv ct), osl⟩)
    (cd : PySem.W.codeIn K cdv qual = true) (k : PySem.W.keepIn K (.ref f) = true) (ht : PySem.W.tabIn K x = some (c, T)) : FunC K x qual st f (PySem.W.fnOf x qual (defArgs st) (defBody st) (defScope st) .none kV doc pm an cdv ct) c := by
  have e : cdv = .ref c := by
    unfold PySem.W.tabIn at ht
    rw [a] at ht
    dsimp only at ht
    rw [l] at ht
    dsimp only [PySem.W.fnOf] at ht
    cases cdv with
    | ref c' =>
      dsimp only at ht
      split at ht
      · split at ht
        · cases ht
          rfl
        · cases ht
      · cases ht
    | _ => cases ht
  subst e
  exact ⟨⟨oc, od, kV, doc, pm, an, ct, osl, rfl, l, cd⟩, k⟩
end
end LS

set_option Elab.async false
set_option linter.all false
set_option maxRecDepth 100000
set_option maxHeartbeats 4000000
namespace LQ
open PySem PySem.Spec PyProof.Rows L2 Evl LT LG LS
/-! ### calls within the elements of a generator expression -/
section
variable {X : Cx} {σ : L2.St} {H : Hp} {P : Addr} {scope : Scope} {x : Str} {u : Value} {a b : Expr} {za zb z : V} {pos p : Pos}
theorem fc_blt {y : Str} {r : Value} {cenv : Env} {A' : Around} {E' : Value → Shared → Prop} {s : Shared} {m : Str → Option Value} {Q : Value → Shared → Prop} (F : Fc X σ H P scope x u cenv A' s m) (hk : scope.kind = .function) (hl : scope.names.lookup y = some .globalImplicit) (hm : X.mg y = none) (hv : bootBuiltins y = some r) (h : Q r s)
    (hn : y ≠ "__name__" := by decide) (hd : (y == ("__debug__" : Str)) = false := by decide) : wpAny (model X.prog X.w) A' (eval (.Name y p) cenv) Q E' s := by
  obtain ⟨mb, h1, h2⟩ := F.md.blt
  exact Calls.Name_function_global (by rw [F.sc]; exact hk) (show cenv.scope.names.lookup y = some .globalImplicit by rw [F.sc]; exact hl) (Calls.loadGlobal_builtin (by rw [F.gl]; exact F.md.glob.keeps F.base) hm (by rw [F.bi]; exact h1.keeps F.base) ((h2 y hn).trans hv) h) hd
theorem qv_blt {y : Str} {r : Value} (hk : scope.kind = .function) (hl : scope.names.lookup y = some .globalImplicit) (hm : X.mg y = none) (hv : bootBuiltins y = some r) (hz : RelV z r) (hn : y ≠ "__name__" := by decide) (hd : (y == ("__debug__" : Str)) = false := by decide) :
    QV X σ H P scope x u (.Name y p) z := fun cenv A' E' s m F => fc_blt F hk hl hm hv ⟨hz, kp_refl _⟩ hn hd
/-- a built-in function of two arguments -/
theorem qv_blt2 {y : Str} {id : String} (hk : scope.kind = .function) (hl : scope.names.lookup y = some .globalImplicit) (hm : X.mg y = none) (hv : bootBuiltins y = some (.builtin id)) (ha : QV X σ H P scope x u a za) (hb : QV X σ H P scope x u b zb) (hr : QR X σ H P scope x u (fun v w => call (.builtin id) [v, w]) za zb z)
    (he : ∀ env, starEach [a, b] env = (false, eval a env) :: starEach [b] env := by intro _; rfl) (h2 : ∀ env, starEach [b] env = [(false, eval b env)] := by intro _; rfl) (hn : y ≠ "__name__" := by decide) (hd : (y == ("__debug__" : Str)) = false := by decide) :
    QV X σ H P scope x u (.Call (.Name y p) [a, b] [] pos) z := fun cenv A' E' s m F => by
  refine wpAny_Call_Name_kw (fc_blt F hk hl hm hv ?_ hn hd)
  refine PyProof.Rows.callWith_builtin1 ?_ (he cenv) (by rw [h2 cenv]; rfl)
  rw [he cenv, h2 cenv]
  show wpAny _ _ (spliced [(false, eval a cenv), (false, eval b cenv)]) _ _ s
  refine Calls.spliced_cons (wpAny_mono (ha cenv A' E' s m F) (fun v s1 r1 => ?_) fun _ _ e => e)
  refine Calls.spliced_cons (wpAny_mono (hb cenv A' E' s1 m (F.keeps r1.2)) (fun w s2 r2 => ?_) fun _ _ e => e)
  exact Calls.spliced_nil (wpAny_mono (hr cenv A' E' s2 m v w ((F.keeps r1.2).keeps r2.2) r1.1 r2.1) (fun y s3 r3 => ⟨r3.1, kp_trans (kp_trans r1.2 r2.2) r3.2⟩) fun _ _ e => e)
/-- what isinstance asks of a value -/
theorem kit_fc {cenv : Env} {A' : Around} {s : Shared} {m : Str → Option Value} {v : Value} {t : Value} (F : Fc X σ H P scope x u cenv A' s m) (hT : Tab H P) (r : RelV z v) (ty : TyOf X.K H z t) (no : ∀ a C dx fs, H a = some (.ins C dx fs) → z ≠ .ref a) :
    ∃ Pz : Heap → Prop, PySem.W.KitX X.K v t Pz ∧ Pz s.heap ∧ v ≠ .builtin "__main__.__loader__#opaque" := by
  have rd : ∀ {a : Addr} {o : HO}, H a = some o → (∀ φ, o ≠ .ext φ) → but P H a = some o := fun {a o} e n => by
    rw [but_ne fun z => by rw [z, hT] at e; exact n _ (Option.some.inj e).symm]
    exact e
  cases ty with
  | non => cases (show v = Value.none from r); exact ⟨_, PySem.W.kitx_none, True.intro, fun z => nomatch z⟩
  | bl y => cases (show v = Value.bool y from r); exact ⟨_, PySem.W.kitx_bool, True.intro, fun z => nomatch z⟩
  | int i => obtain ⟨t, q⟩ := (show ∃ t, v = Value.int i t from r); cases q; exact ⟨_, PySem.W.kitx_int, True.intro, fun z => nomatch z⟩
  | str y => obtain ⟨t, q⟩ := (show ∃ t, v = Value.str y t from r); cases q; exact ⟨_, PySem.W.kitx_str, True.intro, fun z => nomatch z⟩
  | flt y => obtain ⟨t, q⟩ := (show ∃ t, v = Value.float y t from r); cases q; exact ⟨_, PySem.W.kitx_float, True.intro, fun z => nomatch z⟩
  | @lst a xs ea =>
    cases (show v = Value.ref a from r)
    obtain ⟨_, _, n, _, h1⟩ := (show ObjOk X.prog X.w (but P H) s.heap a (.lst xs) from F.hok a _ (rd ea (fun φ z => by cases z)))
    exact ⟨_, PySem.W.kitx_list, ⟨_, h1, rfl⟩, fun z => nomatch z⟩
  | @frz a ob xs ea =>
    cases (show v = Value.ref a from r)
    obtain ⟨_, _, _, n, _, h1⟩ := (show ObjOk X.prog X.w (but P H) s.heap a (.frz ob (.lst xs)) from F.hok a _ (rd ea (fun φ z => by cases z)))
    exact ⟨_, PySem.W.kitx_list, ⟨_, h1, rfl⟩, fun z => nomatch z⟩
  | @tup a xs ea =>
    cases (show v = Value.ref a from r)
    obtain ⟨_, _, _, o, h1, h2, _⟩ := (show ObjOk X.prog X.w (but P H) s.heap a (.tup xs) from F.hok a _ (rd ea (fun φ z => by cases z)))
    exact ⟨_, PySem.W.kitx_tuple, ⟨o, h1, h2⟩, fun z => nomatch z⟩
  | @dK a kvs ea =>
    cases (show v = Value.ref a from r)
    obtain ⟨_, _, vs, _, o, es, ep, h1, h2, _⟩ := F.hok a _ (rd ea (fun φ z => by cases z))
    exact ⟨_, PySem.W.kitx_dict, ⟨o, h1, h2.1⟩, fun z => nomatch z⟩
  | @dT a kvs ea =>
    cases (show v = Value.ref a from r)
    obtain ⟨_, _, xs, _, o, es, ep, h1, h2, _⟩ := F.hok a _ (rd ea (fun φ z => by cases z))
    exact ⟨_, PySem.W.kitx_dict, ⟨o, h1, h2.1⟩, fun z => nomatch z⟩
  | @ins a C dx fs ea cl ha hn htk hm => exact absurd rfl (no a C dx fs ea)
theorem qr_isi {T : String} {t : Value} {b : Bool} (hT : Tab H P) (ty : TyOf X.K H z t) (no : ∀ a C dx fs, H a = some (.ins C dx fs) → z ≠ .ref a) (hk : PySem.W.kitOne X.K t (.type T) = some b) : QR X σ H P scope x u (fun v w => call (.builtin "isinstance") [v, w]) z (.ty T) (.bl b) := fun cenv A' E' s m v w F r1 r2 => by
  cases (show w = Value.type T from r2)
  obtain ⟨Pz, Z, p, hx⟩ := kit_fc F hT r1 ty no
  exact PySem.W.kia_one Z F.kin p hk hx fun tk => ⟨rfl, kp_tok _ _⟩
theorem qv_is {z' : V} (h : QV X σ H P scope x u a z) (e : z = z') : QV X σ H P scope x u a z' := e ▸ h
theorem qv_not {c : Bool} (ha : QV X σ H P scope x u a (.bl c)) : QV X σ H P scope x u (.UnaryOp .Not a pos) (.bl (!c)) := fun cenv A' E' s m F => by
  refine UnaryOp_ (wpAny_mono (ha cenv A' E' s m F) (fun v s1 r1 => ?_) fun _ _ e => e)
  obtain ⟨rfl, k⟩ := r1
  exact not_of (wpAny_truthy_bool ⟨rfl, k⟩)
theorem qv_one {op : BoolOp} (ha : QV X σ H P scope x u a z) : QV X σ H P scope x u (.BoolOp op [a] pos) z := fun cenv A' E' s m F => BoolOp_one (ha cenv A' E' s m F)
theorem qv_and {rest : List Expr} {c d : Bool} (ha : QV X σ H P scope x u a (.bl c)) (hb : c = true → QV X σ H P scope x u (.BoolOp .And (b :: rest) pos) (.bl d)) : QV X σ H P scope x u (.BoolOp .And (a :: b :: rest) pos) (.bl (c && d)) := fun cenv A' E' s m F => by
  refine BoolOp_and (wpAny_mono (ha cenv A' E' s m F) (fun v s1 r1 => ?_) fun _ _ e => e)
  obtain ⟨rfl, k⟩ := r1
  refine wpAny_truthy_bool ?_
  cases c with
  | true => exact wpAny_mono (hb rfl cenv A' E' s1 m (F.keeps k)) (fun y s3 r3 => ⟨r3.1, kp_trans k r3.2⟩) fun _ _ e => e
  | false => exact ⟨rfl, k⟩
theorem qr_ge_int {i j : Int} : QR X σ H P scope x u (compareOp .GtE) (.int i) (.int j) (.bl (decide (j ≤ i))) := fun cenv A' E' s m v w F r1 r2 => by
  obtain ⟨t, rfl⟩ := r1
  obtain ⟨t', rfl⟩ := r2
  exact ge_int ⟨rfl, kp_refl _⟩
/-- an own def of one argument whose body is one return -/
theorem qv_call1 {nm pn qual : Str} {st : Stmt} {f : Addr} {fd : FuncData} {N : List Str} {e : Expr} {rp : Pos} {k : Nat} (hr : Room k X.A) (hk : scope.kind = .function) (hl : scope.names.lookup nm = some .globalImplicit) (hm : X.mg nm = some (.ref f)) (F : Fun X.K nm qual st f fd) (hbody : defBody st = [.Return (some e) rp]) (S : FnScope N [pn] (defScope st)) (hloc : (defScope st).names.lookup pn = some .local)
    (hb : Binds X.K fd [pn] []) (ha : QV X σ H P scope x u a za) (he : ∀ (A0 : Around) (v : Value), RelV za v → QV { X with A := A0 } σ H P (defScope st) pn v e z) (hs : ∀ env, starEach [a] env = (false, eval a env) :: starEach [] env := by intro _; rfl) (hd : (nm == ("__debug__" : Str)) = false := by decide) :
    QV X σ H P scope x u (.Call (.Name nm p) [a] [] pos) z := fun cenv A' E' s m Fc0 => by
  refine wpAny_Call_Name_kw (Calls.Name_function_global (by rw [Fc0.sc]; exact hk) (show cenv.scope.names.lookup nm = some .globalImplicit by rw [Fc0.sc]; exact hl) (Calls.loadGlobal_global (by rw [Fc0.gl]; exact Fc0.md.glob.keeps Fc0.base) hm ?_) hd)
  refine PySem.W.callWith_K (h₀ := X.base) Fc0.md.kin F.kp ?_ (hs cenv) (by rfl)
  rw [hs cenv]
  show wpAny _ _ (spliced ((false, eval a cenv) :: [])) _ _ s
  refine Calls.spliced_cons (wpAny_mono (ha cenv A' E' s m Fc0) (fun v s1 r1 => Calls.spliced_nil ?_) fun _ _ e => e)
  have F1 := Fc0.keeps r1.2
  refine ⟨F1.kin, ?_⟩
  obtain ⟨oc, od, kV, doc, pm, an, cdv, ct, osl, rfl, lk, hcd⟩ := F.ex
  refine wpAny_call (Att.call_fn (binds := [(pn, v)]) F1.kin (F1.md.nolimit.keeps F1.base) lk hcd (by have := hr.dp; have := Fc0.dp; omega) (hb s1 [v] F1.kin rfl) ?_ (fun s2 IC => ?_) S.co S.gen S.kind)
  · simp only [List.all_cons, List.all_nil, Bool.and_true, Bool.or_eq_true, beq_iff_eq]
    exact .inl hloc
  · obtain ⟨h2, tk2, rfl⟩ := IC.toInCall.same
    have kk : ∀ b o, s1.heap.get? b = some o → h2.get? b = some o := IC.toInCall.keep
    rw [hbody]
    have Fn : Fc { X with A := A' } σ H P (defScope st) pn v (envOfC qual (defScope st) s1.heap.objs.size f cdv) (A'.deeper (envOfC qual (defScope st) s1.heap.objs.size f cdv)) { s1 with heap := h2, toks := tk2 } _ :=
      ⟨Fc0.hd, Nat.le_refl _, by show A'.units + 3 ≤ A'.units + 8; omega, rfl, rfl, rfl, IC.toInCall.ns, by
        show bindL _ [(pn, v)] _ pn = some v
        unfold bindL
        have hkd : (envOfC qual (defScope st) s1.heap.objs.size f cdv).kindOf pn = some .local := hloc
        rw [hkd]
        simp [bindL], fun b o e => kk b o (F1.base b o e), F1.md, F1.hok.kept kk, fun i y w h1 h2 h3 h4 => absurd rfl (S.nofree (y, .free) (lookup_mem' h4))⟩
    refine wpAny_execs_cons (wpAny_Return_some (wpAny_mono (he A' v r1.1 _ _ _ _ _ Fn) (fun y s3 r3 => ⟨r3.1, kp_trans (kp_trans r1.2 ⟨h2, tk2, rfl, kk⟩) r3.2⟩) fun _ _ e => e))
end
end LQ

set_option Elab.async false
set_option linter.all false
set_option maxRecDepth 100000
set_option maxHeartbeats 4000000
namespace LX
open PySem PySem.Spec PyProof.Rows L2 Evl LT LG LS
/-! ### own exceptions without arguments -/
abbrev veTail : List Value := [.type "ValueError", .type "Exception", .type "BaseException", .type "object"]
/-- an exception class of the text: its name, what the written part says of it -/
structure Xc (K : PySem.W.Frag) (mg : Str → Option Value) (nm : Str) (C : Addr) : Prop where
  g : mg nm = some (.ref C)
  x : PySem.W.excIn K C veTail "ValueError.__new__" = true
  k : PySem.W.keepIn K (.ref C) = true
  b : PySem.W.subIn K (.ref C) (.type "BaseException") = some true
  t : PySem.W.typeIn K (.ref C) = some (.type "type")
  d : PySem.W.hasDictIn K C = true
section
variable {X : Cx} {C D : Addr} {nm : Str}
theorem pmk_own0 {p pos : Pos} (T : Xc X.K X.mg nm C) (hg : Gl X nm) (hdb : (nm == ("__debug__" : Str)) = false := by decide) : PMk X (.Call (.Name nm p) [] [] pos) (fun _ H Q => Q (.ref C) none H) := by
  intro pins s σ H Q I h
  refine wpAny_Call_Name_kw (ld_glob I hg T.g ?_ hdb)
  refine PySem.W.callWith_K0 I.kIn T.k ?_
  show wpAny _ _ (call (.ref C) []) _ _ _
  obtain ⟨_, _, _, _, _, _, _, _, _, _, _, _, _, _, _, _, _, hC, hN, hni, TT⟩ := exc_obj I.kIn T.x
  refine wpAny_call_exc_subT PySem.F.excBase_ValueError TT hC hN hni (fun h' e hm => ?_) (Nat.zero_le _)
  exact mk_of I hm (raises_own T.b T.t) h (I.hok.gone hm.new)
theorem ps_raise0 {W : WX} {p pos pos2 : Pos} (hc : X.calm = true) (T : Xc X.K X.mg nm C) (tk : Takes X W) (hg : Gl X nm) (hdb : (nm == ("__debug__" : Str)) = false := by decide) : PS X (.Raise (some (.Call (.Name nm p) [] [] pos)) none pos2) (fun _ σ H => W (.ref C) none σ H) := ps_raise hc tk (pmk_own0 T hg hdb)
/-- isinstance(e, c), e what the suite holds -/
def rIsX (K : PySem.W.Frag) (D a : Addr) (cls : Value) (d : Option Addr) : List V → Hp → VK → Prop := fun xs H Q => cls = .ref D ∧ d = none ∧ rIsE K D a xs H Q
theorem call_isX {a : Addr} {oe : Obj} {cls : Value} {d : Option Addr} {pn : List (Addr × Obj)} (C : ExcC X.K D) (hz : Zc cls d oe) (hf : ∃ vs, oe.data = .fields vs) : CallR (X.suite a ((a, oe) :: pn)) (.builtin "isinstance") (rIsX X.K D a cls d) := by
  intro pins s σ H xs us Q I r h
  obtain ⟨rfl, rfl, h⟩ := h
  exact call_isE C hz hf pins s σ H xs us Q I r h
end
section
variable {K : PySem.W.Frag} {mg : Str → Option Value} {C D : Addr} {nm : Str} {b : Bool}
theorem Xc.exm (T : Xc K mg nm C) {cls : Value} (h : PySem.W.subIn K cls (.ref C) = some b) : PySem.W.exmOne K cls (.ref C) = some b := PySem.W.exm_ref T.b T.d T.t h
theorem Xc.kit (T : Xc K mg nm C) {cls : Value} (h : PySem.W.subIn K cls (.ref C) = some b) (hn : cls = .ref C → b = true) : PySem.W.kitOne K cls (.ref C) = some b := by
  have e := T.exm h
  unfold PySem.W.exmOne at e
  rw [T.b] at e
  unfold PySem.W.kitOne
  by_cases q : cls = .ref C
  · rw [hn q, q]
    simp
  · rw [if_neg (by simpa using q)]
    simpa using e
end
/-- a try whose suite returns: what the body's calls that return do, what the suite does -/
theorem ev_isX {K : PySem.W.Frag} {D a C : Addr} {σ : L2.St} {H : Hp} {ta tb : TE} {b : Bool} (h : Ev ta σ H (.ref a)) (hn : Ev tb σ H (.ref C)) (hk : PySem.W.kitOne K (.ref D) (.ref C) = some b) : Ev (tCB (rIsX K D a (.ref D) none) (tCons ta (tCons tb tNil))) σ H (.bl b) :=
  ev_cb (ea_cons h (ea_cons hn ea_nil)) fun H1 e Q q => ⟨rfl, rfl, .ref C, .ref C, b, rfl, fun u hu => hu, hk, q H1 (Ex.refl H1)⟩
theorem pass_own {X : Cx} {E : XK} (tk : Takes X (fun cls d _ H => E cls d H)) : Passes (L2.CX X.prog X.w) X E := passes_call tk fun _ _ _ _ h => h
end LX

set_option Elab.async false
set_option linter.all false
set_option maxRecDepth 100000
set_option maxHeartbeats 4000000
namespace LH
open PySem PySem.Spec PyProof.Rows L2 Evl LT LG
/-! ### generator expressions, whatever their elements do -/
/-- the context of a generator's frame: its own stack, what stands at its start -/
abbrev gnb (X : Cx) (A' : Around) (s : Shared) (H : Hp) (cenv : Env) (fp : List Addr) : Cx :=
  { X with A := A', s_0 := s, H_0 := H, env := cenv, outer := X.stack, stack := cenv :: X.stack, ex := fp, fn := fun _ => false, calm := true, pn := [], xe := fun _ _ => False }
/-- the frame's own environment -/
abbrev gnE (X : Cx) (scope : Scope) (C : Addr) (code : Value) : Env := genEnv scope (cloFrom X.env.cells scope.names []) C code builtinsNs X.env
section
variable {X : Cx} {pins : List (Addr × Obj)} {σ : L2.St} {H : Hp} {s : Shared}
theorem clo_back {cells : List (Str × Addr)} {scope : Scope} (hfree : ∀ y ∈ scope.names, y.2 = .free → ∃ c, cells.lookup y.1 = some c) {y : Str} {c : Addr} (e : (cloFrom cells scope.names []).lookup y = some c) : (y, NameKind.free) ∈ scope.names ∧ cells.lookup y = some c := by
  rcases cloFrom_mem (PySem.mem_of_lookup e) with h | ⟨h1, h2⟩
  · cases h
  · obtain ⟨d, hd⟩ := hfree _ h1 rfl
    have hd' : cells.lookup y = some d := hd
    rw [hd'] at h2
    exact ⟨h1, by rw [hd', h2]; rfl⟩
theorem gen_begin {A' : Around} {scope : Scope} {own : List (Str × Nat)} {fp : List Addr} {code : Value} {m : Str → Option Value} {h' : Heap} {g' : Array GenState} {t' : Nat} (I : Inv X pins σ H s) (ok : BlkOk X.N X.env.scope scope own) (hcell : ∀ y ∈ scope.names, y.2 ≠ .cell) (hN : X.N.Nodup)
    (hfp : ∀ b ∈ fp, FpOk X pins H b ∧ b < s.heap.objs.size) (hA : A'.handled = none) (hfr : A'.frames = some (gnE X scope s.heap.objs.size code :: X.stack)) (hk : ∀ b o, s.heap.get? b = some o → h'.get? b = some o) (hn : h'.Ns s.heap.objs.size m) (hg : AllBare g') :
    Inv (gnb X A' s H (gnE X scope s.heap.objs.size code) fp) [] (wipe σ (own.map (·.2))) H { s with heap := h', gens := g', toks := t' } := by
  have hfree : ∀ y ∈ scope.names, y.2 = .free → ∃ c, X.env.cells.lookup y.1 = some c := fun y hy e => (ok.free y hy e).elim (fun k => I.ok.has _ (.inl k)) fun k => I.ok.has _ (.inr k)
  have back : ∀ {y : Str} {c : Addr}, (gnE X scope s.heap.objs.size code).cells.lookup y = some c → (y, NameKind.free) ∈ scope.names ∧ X.env.cells.lookup y = some c := fun {y c} e => clo_back hfree e
  have clt : ∀ {y : Str} {c : Addr}, X.env.cells.lookup y = some c → c < s.heap.objs.size := fun {y c} e => let ⟨_, z⟩ := I.cell _ _ e; z.lt
  have fwd : ∀ {y : Str}, scope.names.lookup y = some .free → ∃ c, (gnE X scope s.heap.objs.size code).cells.lookup y = some c ∧ X.env.cells.lookup y = some c := fun {y} hl =>
    let ⟨c, hc⟩ := hfree _ (PySem.mem_of_lookup hl) rfl
    ⟨c, clo_lookup (PySem.mem_of_lookup hl) hc, hc⟩
  have okG : (gnb X A' s H (gnE X scope s.heap.objs.size code) fp).Ok := by
    refine ⟨I.ok.mod, ok.kind, I.ok.glob, rfl, Nat.le_refl _, fun y z c e1 e2 => I.ok.inj y z c (back e1).2 (back e2).2, fun y hy => ?_, fun y c z => (Bool.noConfusion (show false = true from z)), fun _ => hA, hfr, .inr ⟨rfl, rfl⟩, fun b hb => ⟨Nat.ne_of_lt (hfp b hb).2, fun y c e z => (hfp b hb).1.2.2.2.2.1 y c (back e).2 z⟩, I.bs, Nat.le_trans I.ok.bsz I.sz, fun b o e hb => ?_, fun b hb z => ?_, I.stack, I.stkFree⟩
    · rcases hy with hy | hy
      · exact absurd rfl (hcell _ (PySem.mem_of_lookup (show scope.names.lookup y = some .cell from hy)))
      · obtain ⟨c, h1, _⟩ := fwd (show scope.names.lookup y = some .free from hy)
        exact ⟨c, h1⟩
    · rcases (hfp b hb).1.2.2.2.1 with z | z
      · exact I.ok.noex b o e z
      · exact Nat.lt_irrefl _ (Nat.lt_of_lt_of_le (Nat.lt_of_lt_of_le (Heap.lt_size e) I.ok.bsz) z)
    · rcases List.mem_cons.mp (I.stkSub b z) with z | z
      · exact (hfp b hb).1.2.1 z
      · exact (hfp b hb).1.2.2.1 z
  refine ⟨okG, rfl, hg, Un.kept hk, ⟨m, hn, fun i y av e1 e2 e3 => ?_⟩, fun y c e => ?_, I.hok.fresh (Nat.le_refl _), fun y c e => I.freeC y c (back e).2, fun p hp => absurd (show p ∈ ([] : List (Addr × Obj)) ++ [] from hp) (by simp), I.hok.kept hk, by rw [wipe_length]; exact I.len⟩
  · obtain ⟨e2, hne⟩ := wipe_some e2
    have hfr : scope.names.lookup y = some .free := by
      have no : ∀ k, scope.names.lookup y = some k → ¬ (k = .local ∨ k = .cell) := fun k hk hh => by
        rcases ok.own _ (PySem.mem_of_lookup hk) hh with e' | e'
        · obtain ⟨p, hp, hpy⟩ := List.mem_map.mp e'
          have e4 := ok.ix p hp
          have : p.1 = y := hpy
          rw [this] at e4
          exact hne (List.mem_map.mpr ⟨p, hp, nodup_ix hN e4 e1⟩)
        · exact e' (List.mem_of_getElem? e1)
      rcases (show Vis scope y from e3) with e3 | e3 | e3
      · exact absurd (.inl rfl) (no _ e3)
      · exact absurd (.inr rfl) (no _ e3)
      · exact e3
    obtain ⟨m0, _, hl⟩ := I.loc
    have hvis : Vis X.env.scope y := (ok.free _ (PySem.mem_of_lookup hfr) rfl).elim (fun k => .inr (.inl k)) fun k => .inr (.inr k)
    obtain ⟨w, r, q⟩ := hl i y av e1 e2 hvis
    obtain ⟨c, h1, h2⟩ := fwd hfr
    refine ⟨w, r, .inr ⟨.inr hfr, c, h1, ?_⟩⟩
    rcases q with ⟨k, _⟩ | ⟨_, c', e', z⟩
    · have k : X.env.scope.names.lookup y = some .local := k
      rcases ok.free _ (PySem.mem_of_lookup hfr) rfl with k' | k' <;> rw [show X.env.scope.names.lookup y = _ from k'] at k <;> cases k
    · rw [h2] at e'; cases e'
      exact z.keeps hk
  · obtain ⟨w, z⟩ := I.cell y c (back e).2
    exact ⟨w, z.keeps hk⟩
/-! ### turns -/
/-- what stands between two turns: i taken -/
def Btw (Y : Cx) (a : Addr) (oa : Obj) (τ : L2.St) (fp : List Addr) (tn : Nat → Heap → Prop) (W : Nat → Hp → Prop) (Sp : List Addr) (i : Nat) (s : Shared) : Prop :=
  ∃ (H' : Hp) (ps : List (Addr × Obj)), ps.map (·.1) = Sp ∧ Inv Y ((a, oa) :: ps) τ H' s ∧ tn i s.heap ∧ (∀ b ∈ fp, FpOk Y ((a, oa) :: ps) H' b) ∧ W i H'
/-- the end -/
def Gone (Y : Cx) (a : Addr) (oa : Obj) (τ : L2.St) (W : Nat → Hp → Prop) (n : Nat) (Sp : List Addr) (s : Shared) : Prop :=
  ∃ (H' : Hp) (ps : List (Addr × Obj)) (i : Nat), i ≤ n ∧ ps.map (·.1) = Sp ∧ Inv Y ((a, oa) :: ps) τ H' s ∧ W i H'
def Same (Sp : List Addr) (s s' : Shared) : Prop := ∀ b ∈ Sp, ∃ o, s.heap.get? b = some o ∧ s'.heap.get? b = some o
theorem Same.trans {Sp : List Addr} {s s1 s2 : Shared} (a : Same Sp s s1) (b : Same Sp s1 s2) : Same Sp s s2 := fun x hx => by
  obtain ⟨o, h1, h2⟩ := a x hx
  obtain ⟨o', h3, h4⟩ := b x hx
  rw [h2] at h3
  cases h3
  exact ⟨o, h1, h4⟩
theorem same_pins {Y : Cx} {p : Addr × Obj} {ps q1 q2 : List (Addr × Obj)} {τ τ' : L2.St} {H H' : Hp} {s s' : Shared} (I : Inv Y (p :: ps ++ q1) τ H s) (I' : Inv Y (p :: ps ++ q2) τ' H' s') : Same (ps.map (·.1)) s s' := fun b hb => by
  obtain ⟨x, hx, rfl⟩ := List.mem_map.mp hb
  have m : ∀ q, x ∈ Y.pn ++ (p :: ps ++ q) := fun q => List.mem_append_right _ (List.mem_append_left _ (List.mem_cons_of_mem _ hx))
  exact ⟨x.2, (I.pin x (m _)).1, (I'.pin x (m _)).1⟩
theorem same_pins0 {Y : Cx} {p : Addr × Obj} {ps : List (Addr × Obj)} {τ τ' : L2.St} {H H' : Hp} {s s' : Shared} (I : Inv Y (p :: ps) τ H s) (I' : Inv Y (p :: ps) τ' H' s') : Same (ps.map (·.1)) s s' :=
  same_pins (q1 := []) (q2 := []) (by simpa using I) (by simpa using I')
/-- what is handed out -/
def GPr (vals : Nat → V) (n : Nat) (Sp : List Addr) (J : Nat → Shared → Prop) : Protocol := fun m s₀ v s kap =>
  ∃ i, i + m + 1 = n ∧ RelV (vals i) v ∧ Same Sp s₀ s ∧ J (i + 1) s ∧ ∀ s'', J (i + 1) s'' → kap (.send .none) s''
theorem seg_turns {A₁ : Around} {elt tg iter : Expr} {scope : Scope} {pos : Pos} {it a : Addr} {oa : Obj} {cenv : Env} {Y : Cx} {fp : List Addr} {tn : Nat → Heap → Prop} {J : It} {W : Nat → Hp → Prop} {Sp : List Addr} {n : Nat} {vals : Nat → V} {g : TG} {te : TE} {vs : List Nat} {σ : L2.St}
    (hYA : Y.A = A₁.over (.compLoop (.GeneratorExp elt [⟨tg, iter, [], 0⟩] scope pos) 0 (.ref it) .none cenv) []) (hYe : Y.env = cenv) (hc : Y.calm = true) (hxe : Y.xe = fun _ _ => False) (hco : cenv.scope.isCoroutine = false) (T : Turn Y.prog Y.w Y.K tg J fp it tn) (pg : PG Y tg g) (pe : PE Y elt te)
    (turn : ∀ i H', i < n → W i H' → J.go i H' ∧ ∀ x H2, J.yld i H' x H2 → g x (wipe σ vs) H2 fun σ2 H3 => wipe σ2 vs = wipe σ vs ∧ te σ2 H3 fun y H4 => y = vals i ∧ W (i + 1) H4) (stop : ∀ H', W n H' → J.stop n H') :
    ∀ (k i : Nat) (s₀ s : Shared), n - i = k → i ≤ n → Same Sp s₀ s → Btw Y a oa (wipe σ vs) fp tn W Sp i s →
      Seg (model Y.prog Y.w) A₁ (fun m s₀ r s₁ => r = .ok .next ∧ (m = 0 ∧ (Same Sp s₀ s₁ ∧ Gone Y a oa (wipe σ vs) W n Sp s₁))) (GPr vals n Sp (Btw Y a oa (wipe σ vs) fp tn W Sp)) (n - i) s₀
        (.compLoop (.GeneratorExp elt [⟨tg, iter, [], 0⟩] scope pos) 0 (.ref it) .none cenv) ((model Y.prog Y.w).den (.compLoop (.GeneratorExp elt [⟨tg, iter, [], 0⟩] scope pos) 0 (.ref it) .none cenv)) [] s := by
  intro k
  induction k with
  | zero =>
    intro i s₀ s hk hi hS ⟨H', ps, hps, I, st, hf, w⟩
    obtain rfl : i = n := by omega
    show Seg _ A₁ _ _ _ s₀ _ ((compTurn (.GeneratorExp elt [⟨tg, iter, [], 0⟩] scope pos) 0 (.ref it) .none cenv).onRaise (leaving cenv)) [] s
    rw [compTurn_gen, Sem.onRaise_eq_wrap]
    refine seg_bind_wrap (wpAny_standAt (seg_bind_wrap ?_))
    have td := T.done Y rfl rfl rfl hc i _ s _ H' (fun _ _ => False) I hf st (stop _ w)
    rw [hYA] at td
    refine thnF td fun r s1 ⟨hr, I1⟩ => ?_
    subst hr
    exact seg_end (.ok .next) ⟨rfl, by omega, hS.trans (hps ▸ same_pins0 I I1), H', ps, i, Nat.le_refl _, hps, I1, w⟩
  | succ k ih =>
    intro i s₀ s hk hi hS ⟨H', ps, hps, I, st, hf, w⟩
    have hlt : i < n := by omega
    obtain ⟨m, hm⟩ : ∃ m, n - i = m + 1 := ⟨n - i - 1, by omega⟩
    show Seg _ A₁ _ _ _ s₀ _ ((compTurn (.GeneratorExp elt [⟨tg, iter, [], 0⟩] scope pos) 0 (.ref it) .none cenv).onRaise (leaving cenv)) [] s
    rw [compTurn_gen, Sem.onRaise_eq_wrap]
    refine seg_bind_wrap (wpAny_standAt (seg_bind_wrap ?_))
    obtain ⟨go, step⟩ := turn i H' hlt w
    have ti := T.item Y rfl rfl rfl hc i _ s _ H' (fun _ _ => False) I hf st go
    rw [hYA] at ti
    refine thnF ti fun r s6 ⟨u, hr, h6⟩ => ?_
    subst hr
    refine seg_bind_wrap (thnF h6 fun _ s7 ⟨x, H7, I7, r7, y7, st7, n7⟩ => ?_)
    have hf7 : ∀ b ∈ fp, FpOk Y ((a, oa) :: ps) H7 b := fun b hb => ⟨n7 b hb, (hf b hb).2⟩
    have I7' := I7.pinned hf7 (T.obj _ _ st7)
    have pgr := pg.run _ s7 _ H7 x u _ I7' r7 (step x H7 y7)
    rw [hYA, hYe, hxe] at pgr
    refine seg_bind_wrap (thnF pgr fun _ s8 ⟨σ8, H8, I8, hw8, q8⟩ => ?_)
    refine seg_bind_wrap (wpAny_tests_nil ?_)
    simp only [if_true]
    have hy : ∀ v, yieldOut cenv v = yieldValue v := fun v => by simp only [yieldOut, hco, Bool.false_eq_true, if_false]
    simp only [hy]
    rw [Sem.bind_eq_wrap', Sem.bind_eq_wrap', Sem.wrap_wrap, Sem.wrap_wrap, hm]
    have per := pe.run _ s8 σ8 H8 _ I8 q8
    rw [hYA, hYe, hxe] at per
    refine seg_wrap (thnF per fun v s9 ⟨y, H9, I9, r9, ey, w9⟩ => ?_)
    subst ey
    have keep : ∀ b ∈ fp, ∀ o, s7.heap.get? b = some o → s9.heap.get? b = some o ∧ H9 b = none := fun b hb o e =>
      let z := I9.pin (b, o) (List.mem_append_right _ (List.mem_append_right _ (mem_pinsAt hb e)))
      ⟨z.1, z.2.1⟩
    have hl : (wipe σ vs).length = σ8.length := by rw [← hw8, wipe_length]
    have B9 : Btw Y a oa (wipe σ vs) fp tn W Sp (i + 1) s9 := ⟨H9, ps, hps, (I9.unpinned).weak hl fun j v e => by
        rw [← hw8] at e
        exact (wipe_some e).1, T.keep _ _ _ st7 fun b hb o e => (keep b hb o e).1, fun b hb => by
        obtain ⟨o, e, _⟩ := T.obj _ _ st7 b hb
        exact ⟨(keep b hb o e).2, (hf b hb).2⟩, w9⟩
    have S9 : Same Sp s₀ s9 := hS.trans (hps ▸ same_pins (q1 := []) (by simpa using I) I9)
    refine seg_at (seg_yield rfl rfl rfl ⟨i, by omega, r9, S9, B9, fun s'' B'' => ?_⟩)
    have e1 : m = n - (i + 1) := by omega
    rw [e1]
    exact seg_again rfl (ih (i + 1) s'' s'' (by omega) hlt (fun b hb => by
      obtain ⟨H2, ps2, hps2, I2, _⟩ := B''
      rw [← hps2] at hb
      obtain ⟨z, hz, rfl⟩ := List.mem_map.mp hb
      exact ⟨z.2, (I2.pin z (List.mem_append_right _ (List.mem_cons_of_mem _ hz))).1, (I2.pin z (List.mem_append_right _ (List.mem_cons_of_mem _ hz))).1⟩) B'')
end
end LH
namespace LH
open PySem PySem.Spec PyProof.Rows L2 Evl LT LG
section
variable {prog : Program} {w : World} {A : Around} {E : Value → Shared → Prop} {s : Shared}
/-- the generator number g, j of its n items taken -/
def GSt (prog : Program) (w : World) (A : Around) (g n : Nat) (vals : Nat → V) (Sp : List Addr) (J : Nat → Shared → Prop) (Fn : Shared → Prop) (j : Nat) (s : Shared) : Prop :=
  J j s ∧ ∃ gs, s.gens[g]? = some gs ∧ ∀ s'', J j s'' → gs.Goes (model prog w) A.in1 (fun m s₀ r s₁ => r = .ok .next ∧ (m = 0 ∧ (Same Sp s₀ s₁ ∧ Fn s₁))) (GPr vals n Sp J) (n - j) (.send .none) s''
structure JOk (a : Addr) (g : Nat) (J : Nat → Shared → Prop) (Fn : Shared → Prop) : Prop where
  gen : ∀ j s, J j s → s.heap.IsGen a g
  lim : ∀ j s, J j s → s.heap.NoLimit
  set : ∀ j s x, x.bare = true → J j s → J j (s.setGen g x)
  fin : ∀ s h', Fn s → (∀ b o, s.heap.get? b = some o → h'.get? b = some o) → Fn { s.setGen g .finished with heap := h' }
/-- what a consumer may do with the iterator at a -/
structure WG (prog : Program) (w : World) (A : Around) (a : Addr) (n : Nat) (vals : Nat → V) (Sp : List Addr) (St : Nat → Shared → Prop) (Fin : Shared → Prop) : Prop where
  item : ∀ i (s : Shared) (Q : Option Value → Shared → Prop) (E : Value → Shared → Prop), i < n → St i s → (∀ v s', RelV (vals i) v → St (i + 1) s' → Same Sp s s' → Q (some v) s') → wpAny (model prog w) A (pyNext (.ref a)) Q E s
  done : ∀ (s : Shared) (Q : Option Value → Shared → Prop) (E : Value → Shared → Prop), St n s → (∀ s', Fin s' → Same Sp s s' → Q none s') → wpAny (model prog w) A (pyNext (.ref a)) Q E s
  self : ∀ i (s : Shared) (Q : Value → Shared → Prop) (E : Value → Shared → Prop), St i s → Q (.ref a) s → wpAny (model prog w) A (pyIter (.ref a)) Q E s
  fin : ∀ i s, i ≤ n → St i s → Fin s
  upd : ∀ i (s : Shared) h' tk, St i s → (∀ b o, b ∉ Sp → s.heap.get? b = some o → h'.get? b = some o) → (∀ b ∈ Sp, ∃ o, h'.get? b = some o ∧ ∀ v, o.data ≠ .cell v) → St i { s with heap := h', toks := tk }
  finU : ∀ (s : Shared) h' tk, Fin s → (∀ b o, b ∉ Sp → s.heap.get? b = some o → h'.get? b = some o) → (∀ b ∈ Sp, ∃ o, h'.get? b = some o ∧ ∀ v, o.data ≠ .cell v) → Fin { s with heap := h', toks := tk }
theorem WG.of_in1 {a : Addr} {n : Nat} {vals : Nat → V} {Sp : List Addr} {St : Nat → Shared → Prop} {Fin : Shared → Prop} (W : WG prog w A.in1 a n vals Sp St Fin) : WG prog w A a n vals Sp St Fin :=
  ⟨fun i s Q E hi st hQ => wpAny_of_in1 (W.item i s Q E hi st hQ), fun s Q E st hQ => wpAny_of_in1 (W.done s Q E st hQ), fun i s Q E st hQ => wpAny_of_in1 (W.self i s Q E st hQ), W.fin, W.upd, W.finU⟩
theorem gst_item {a : Addr} {g n j : Nat} {vals : Nat → V} {Sp : List Addr} {J : Nat → Shared → Prop} {Fn : Shared → Prop} {Q : Option Value → Shared → Prop} (hh : A.handled = none) (hroom : A.depth < recursionLimit) (K : JOk a g J Fn) (hj : j < n) (st : GSt prog w A g n vals Sp J Fn j s)
    (hQ : ∀ v s', RelV (vals j) v → GSt prog w A g n vals Sp J Fn (j + 1) s' → Same Sp s s' → Q (some v) s') : wpAny (model prog w) A (pyNext (.ref a)) Q E s := by
  obtain ⟨hJ, gs, hgs, hgo⟩ := st
  obtain ⟨m, hm⟩ : ∃ m, n - j = m + 1 := ⟨n - j - 1, by omega⟩
  rw [hm] at hgo
  refine GenW.wpAny_gsz (Nat.le_refl s.gens.size) (wpAny_pyNext_genexpQ (P := fun k s₀ s₁ => k = 0 ∧ (Same Sp s₀ s₁ ∧ Fn s₁)) hh (K.lim _ _ hJ) hroom (K.gen _ _ hJ) hgs (hgo _ (K.set _ _ _ rfl hJ)) (fun v s₁ gs' hb hv => ?_) (fun s₁ hp h' hk => absurd hp.1 (Nat.succ_ne_zero m)))
  obtain ⟨i, hi, hr, hS, hJ1, hkap⟩ := hv
  intro hsz
  obtain rfl : i = j := by omega
  have hgl : g < s₁.gens.size := by
    rw [GenW.setGen_size] at hsz
    exact Nat.lt_of_lt_of_le (Array.getElem?_eq_some_iff.mp hgs).1 hsz
  refine hQ v _ hr ⟨K.set _ _ _ hb hJ1, gs', by simp [Shared.setGen, hgl], fun s'' hs => ?_⟩ hS
  have e : n - (i + 1) = m := by omega
  rw [e]
  exact hkap s'' hs
theorem gst_done {a : Addr} {g n : Nat} {vals : Nat → V} {Sp : List Addr} {J : Nat → Shared → Prop} {Fn : Shared → Prop} {Q : Option Value → Shared → Prop} (hh : A.handled = none) (hroom : A.depth < recursionLimit) (K : JOk a g J Fn) (st : GSt prog w A g n vals Sp J Fn n s)
    (hQ : ∀ s', Fn s' → Same Sp s s' → Q none s') : wpAny (model prog w) A (pyNext (.ref a)) Q E s := by
  obtain ⟨hJ, gs, hgs, hgo⟩ := st
  rw [Nat.sub_self] at hgo
  refine wpAny_pyNext_genexpQ (P := fun k s₀ s₁ => k = 0 ∧ (Same Sp s₀ s₁ ∧ Fn s₁)) hh (K.lim _ _ hJ) hroom (K.gen _ _ hJ) hgs (hgo _ (K.set _ _ _ rfl hJ)) (fun v s₁ gs' hb hv => ?_) (fun s₁ hp h' hk => ?_)
  · obtain ⟨i, _, _, _, hJ1, hkap⟩ := hv
    exact (hkap s₁ hJ1).elim
  · exact hQ _ (K.fin _ _ hp.2.2 hk) fun b hb => let ⟨o, h1, h2⟩ := hp.2.1 b hb; ⟨o, h1, hk _ _ h2⟩
end
/-! ### consumers -/
section
variable {prog : Program} {w : World} {A : Around} {E : Value → Shared → Prop} {R : Result → Shared → Prop} {s : Shared} {a : Addr} {n : Nat} {vals : Nat → V} {St : Nat → Shared → Prop} {Fin : Shared → Prop}
theorem drop_at {n i : Nat} (h : i < n) : (List.range n).drop i = i :: (List.range n).drop (i + 1) := by
  rw [List.drop_eq_getElem_cons (by rw [List.length_range]; exact h), List.getElem_range]
theorem all_turns {f : Nat → Bool} (W : WG prog w A.in1 a n vals [] St Fin) (hv : ∀ i, vals i = .bl (f i)) : ∀ (k i : Nat) (s : Shared), n - i = k → i ≤ n → St i s → (∀ s', Fin s' → R (.ok (.ret (.bool (((List.range n).drop i).all f)))) s') → codeAny (model prog w) A (.builtin "all.loop" ⟨[.ref a], []⟩) R s := by
  intro k
  induction k with
  | zero =>
    intro i s hk hi st hR
    obtain rfl : i = n := by omega
    refine codeAny_builtin F.entry_all_loop (by
      rw [Around.under_plainId F.plain_all_loop _]
      show wpAny _ A.in1 (pyNext (.ref a) >>= _) _ _ s
      refine wpAny_bind (W.done s _ _ st fun s' hF _ => wpAny_bind (wpAny_rule (wpAny_pure ?_)))
      have q := hR s' hF
      rw [List.drop_of_length_le (by rw [List.length_range] <;> exact Nat.le_refl _)] at q
      exact q)
  | succ k ih =>
    intro i s hk hi st hR
    have hlt : i < n := by omega
    refine codeAny_builtin F.entry_all_loop (by
      rw [Around.under_plainId F.plain_all_loop _]
      show wpAny _ A.in1 (pyNext (.ref a) >>= _) _ _ s
      refine wpAny_bind (W.item i s _ _ hlt st fun v s' r st' _ => wpAny_bind (wpAny_holding ?_))
      rw [hv i] at r
      obtain rfl : v = .bool (f i) := r
      rw [drop_at hlt, List.all_cons] at hR
      refine wpAny_truthy_bool (wpAny_bind (wpAny_letGo ?_))
      cases hb : f i with
      | true =>
        rw [hb] at hR
        exact wpAny_pure ⟨plainId_quiet F.plain_all_loop _, ih (i + 1) s' (by omega) hlt st' hR⟩
      | false =>
        rw [hb] at hR
        exact wpAny_bind (wpAny_rule (wpAny_pure (hR s' (W.fin _ _ hlt st')))))
theorem any_turns {f : Nat → Bool} (W : WG prog w A.in1 a n vals [] St Fin) (hv : ∀ i, vals i = .bl (f i)) : ∀ (k i : Nat) (s : Shared), n - i = k → i ≤ n → St i s → (∀ s', Fin s' → R (.ok (.ret (.bool (((List.range n).drop i).any f)))) s') → codeAny (model prog w) A (.builtin "any.loop" ⟨[.ref a], []⟩) R s := by
  intro k
  induction k with
  | zero =>
    intro i s hk hi st hR
    obtain rfl : i = n := by omega
    refine codeAny_builtin F.entry_any_loop (by
      rw [Around.under_plainId F.plain_any_loop _]
      show wpAny _ A.in1 (pyNext (.ref a) >>= _) _ _ s
      refine wpAny_bind (W.done s _ _ st fun s' hF _ => wpAny_bind (wpAny_rule (wpAny_pure ?_)))
      have q := hR s' hF
      rw [List.drop_of_length_le (by rw [List.length_range] <;> exact Nat.le_refl _)] at q
      exact q)
  | succ k ih =>
    intro i s hk hi st hR
    have hlt : i < n := by omega
    refine codeAny_builtin F.entry_any_loop (by
      rw [Around.under_plainId F.plain_any_loop _]
      show wpAny _ A.in1 (pyNext (.ref a) >>= _) _ _ s
      refine wpAny_bind (W.item i s _ _ hlt st fun v s' r st' _ => wpAny_bind (wpAny_holding ?_))
      rw [hv i] at r
      obtain rfl : v = .bool (f i) := r
      rw [drop_at hlt, List.any_cons] at hR
      refine wpAny_truthy_bool (wpAny_bind (wpAny_letGo ?_))
      cases hb : f i with
      | false =>
        rw [hb] at hR
        exact wpAny_pure ⟨plainId_quiet F.plain_any_loop _, ih (i + 1) s' (by omega) hlt st' hR⟩
      | true =>
        rw [hb] at hR
        exact wpAny_bind (wpAny_rule (wpAny_pure (hR s' (W.fin _ _ hlt st')))))
theorem call_allG {f : Nat → Bool} {Q : Value → Shared → Prop} (W : WG prog w A.in1 a n vals [] St Fin) (hv : ∀ i, vals i = .bl (f i)) (st : St 0 s) (hQ : ∀ s', Fin s' → Q (.bool (allF n f)) s') : wpAny (model prog w) A (call (.builtin "all") [.ref a]) Q E s := by
  refine call_function_tree F.kind_all F.plain_all F.entry_all (F.args_all1 _) (by
    unfold Builtin.«all»
    refine wpAny_bind (m := oneArg "all" _) (wpAny_pure (wpAny_bind (W.self 0 s _ _ st ?_)))
    exact wpAny_pure ⟨plainId_quiet F.plain_all_loop _, all_turns W hv n 0 s rfl (Nat.zero_le _) st fun s' hF => by simpa [allF] using hQ s' hF⟩)
theorem call_anyG {f : Nat → Bool} {Q : Value → Shared → Prop} (W : WG prog w A.in1 a n vals [] St Fin) (hv : ∀ i, vals i = .bl (f i)) (st : St 0 s) (hQ : ∀ s', Fin s' → Q (.bool (anyF n f)) s') : wpAny (model prog w) A (call (.builtin "any") [.ref a]) Q E s := by
  refine call_function_tree F.kind_any F.plain_any F.entry_any (F.args_any1 _) (by
    unfold Builtin.«any»
    refine wpAny_bind (m := oneArg "any" _) (wpAny_pure (wpAny_bind (W.self 0 s _ _ st ?_)))
    exact wpAny_pure ⟨plainId_quiet F.plain_any_loop _, any_turns W hv n 0 s rfl (Nat.zero_le _) st fun s' hF => by simpa [anyF] using hQ s' hF⟩)
end
end LH
namespace LH
open PySem PySem.Spec PyProof.Rows L2 Evl LT LG
section
variable {X : Cx} {pins : List (Addr × Obj)} {σ : L2.St} {H : Hp} {s : Shared}
theorem inv_setGen {g : Nat} {x : GenState} (I : Inv X pins σ H s) (hx : x.bare = true) : Inv X pins σ H (s.setGen g x) :=
  ⟨I.ok, I.os, L2.allBare_setGen I.bare hx, I.base, I.loc, I.cell, I.free, I.freeC, I.pin, I.hok, I.len⟩
theorem pins_map {Sp : List Addr} {h : Heap} (hn : ∀ b ∈ Sp, ∃ o, h.get? b = some o ∧ ∀ v, o.data ≠ .cell v) : (pinsAt Sp h).map (·.1) = Sp := by
  induction Sp with
  | nil => rfl
  | cons b r ih =>
    obtain ⟨o, ho, _⟩ := hn b List.mem_cons_self
    have := ih fun c hc => hn c (List.mem_cons_of_mem _ hc)
    unfold pinsAt at this ⊢
    rw [List.filterMap_cons, ho]
    show b :: _ = _
    rw [this]
theorem inv_spec {Y : Cx} {p : Addr × Obj} {ps : List (Addr × Obj)} {Sp : List Addr} {τ : L2.St} {h' : Heap} {tk : Nat} (hpn : Y.pn = []) (hps : ps.map (·.1) = Sp) (hSp : ∀ b ∈ Sp, Y.s_0.heap.objs.size ≤ b ∧ b ≠ p.1) (I : Inv Y (p :: ps) τ H s)
    (k : ∀ b o, b ∉ Sp → s.heap.get? b = some o → h'.get? b = some o) (hn : ∀ b ∈ Sp, ∃ o, h'.get? b = some o ∧ ∀ v, o.data ≠ .cell v) : Inv Y (p :: pinsAt Sp h') τ H { s with heap := h', toks := tk } := by
  have pin : ∀ b ∈ Sp, H b = none ∧ b ≠ Y.env.locals ∧ b ∉ Y.fs ∧ ∃ o, s.heap.get? b = some o ∧ ∀ v, o.data ≠ .cell v := fun b hb => by
    rw [← hps] at hb
    obtain ⟨z, hz, rfl⟩ := List.mem_map.mp hb
    have y := I.pin z (List.mem_append_right _ (List.mem_cons_of_mem _ hz))
    exact ⟨y.2.1, y.2.2.1, y.2.2.2.1, z.2, y.1, y.2.2.2.2⟩
  have I1 : Inv Y [p] τ H s := I.pins_of fun q hq => I.pin q (List.mem_append_right _ (by rw [List.mem_singleton.mp hq]; exact List.mem_cons_self))
  have I2 := I1.turnedL (t' := tk) (ch := Sp) (h' := h') k fun b hb => ⟨(pin b hb).1, (pin b hb).2.1, (pin b hb).2.2.1, .inr (hSp b hb).1, fun x c e z => by
      obtain ⟨v, o', h1, h2⟩ := I.cell x c e
      obtain ⟨o, h3, h4⟩ := (pin b hb).2.2.2
      rw [z, h3] at h1
      cases h1
      exact h4 _ h2, fun q hq => by
      rw [hpn, List.nil_append] at hq
      rw [List.mem_singleton.mp hq]
      exact (hSp b hb).2.symm⟩
  refine I2.pins_of fun q hq => ?_
  rcases List.mem_cons.mp hq with rfl | hq
  · exact I2.pin _ (List.mem_append_right _ List.mem_cons_self)
  · obtain ⟨hb, e⟩ := of_pinsAt hq
    obtain ⟨o, h1, h2⟩ := hn _ hb
    rw [e] at h1
    cases h1
    exact ⟨e, (pin _ hb).1, (pin _ hb).2.1, (pin _ hb).2.2.1, h2⟩
section
variable {Y : Cx} {a : Addr} {oa : Obj} {τ : L2.St} {fp : List Addr} {tn : Nat → Heap → Prop} {W : Nat → Hp → Prop} {Sp : List Addr} {i n g : Nat} {J : It} {tg : Expr} {it : Addr}
theorem btw_upd {h' : Heap} {tk : Nat} (T : Turn Y.prog Y.w Y.K tg J fp it tn) (hpn : Y.pn = []) (hSp : ∀ b ∈ Sp, Y.s_0.heap.objs.size ≤ b ∧ b ≠ a) (B : Btw Y a oa τ fp tn W Sp i s) (k : ∀ b o, b ∉ Sp → s.heap.get? b = some o → h'.get? b = some o) (hn : ∀ b ∈ Sp, ∃ o, h'.get? b = some o ∧ ∀ v, o.data ≠ .cell v) :
    Btw Y a oa τ fp tn W Sp i { s with heap := h', toks := tk } := by
  obtain ⟨H', ps, hps, I, st, hf, w⟩ := B
  have nf : ∀ b ∈ fp, b ∉ Sp := fun b hb z => by
    rw [← hps] at z
    obtain ⟨q, hq, e⟩ := List.mem_map.mp z
    exact (hf b hb).2.2.2.2.2 q (List.mem_append_right _ (List.mem_cons_of_mem _ hq)) e
  refine ⟨H', _, pins_map hn, inv_spec hpn hps hSp I k hn, T.keep _ _ _ st fun b hb o e => k b o (nf b hb) e, fun b hb => ⟨(hf b hb).1, (hf b hb).2.1, (hf b hb).2.2.1, (hf b hb).2.2.2.1, (hf b hb).2.2.2.2.1, fun q hq e => ?_⟩, w⟩
  rw [hpn, List.nil_append] at hq
  rcases List.mem_cons.mp hq with rfl | hq
  · exact (hf b hb).2.2.2.2.2 (a, oa) (List.mem_append_right _ List.mem_cons_self) e
  · exact nf b hb (e ▸ (of_pinsAt hq).1)
theorem gone_upd {h' : Heap} {tk : Nat} (hpn : Y.pn = []) (hSp : ∀ b ∈ Sp, Y.s_0.heap.objs.size ≤ b ∧ b ≠ a) (B : Gone Y a oa τ W n Sp s) (k : ∀ b o, b ∉ Sp → s.heap.get? b = some o → h'.get? b = some o) (hn : ∀ b ∈ Sp, ∃ o, h'.get? b = some o ∧ ∀ v, o.data ≠ .cell v) :
    Gone Y a oa τ W n Sp { s with heap := h', toks := tk } := by
  obtain ⟨H', ps, i, hi, hps, I, w⟩ := B
  exact ⟨H', _, i, hi, pins_map hn, inv_spec hpn hps hSp I k hn, w⟩
theorem jok (hG : ∀ h : Heap, h.get? a = some oa → h.IsGen a g) : JOk a g (Btw Y a oa τ fp tn W Sp) (Gone Y a oa τ W n Sp) :=
  ⟨fun j s ⟨_, _, _, I, _⟩ => hG _ (I.pin (a, oa) (List.mem_append_right _ List.mem_cons_self)).1, fun j s ⟨_, _, _, I, _⟩ => I.nolimit, fun j s x hx ⟨H', ps, hps, I, r⟩ => ⟨H', ps, hps, inv_setGen I hx, r⟩,
    fun s h' ⟨H', ps, i, hi, hps, I, w⟩ k => by
      have J := (inv_setGen (g := g) (x := .finished) I rfl).kept (t' := s.toks) (h' := h') k
      refine ⟨H', ps, i, hi, hps, ?_, w⟩
      exact J.pins_of fun q hq => by
        have z := I.pin q (List.mem_append_right _ hq)
        exact ⟨k _ _ z.1, z.2⟩⟩
end
/-- the generator at a: for any consumer -/
def RdyX (X : Cx) (pins : List (Addr × Obj)) (σ : L2.St) (n : Nat) (vals : Nat → V) (QF : Hp → Prop) (a : Addr) (s5 : Shared) : Prop :=
  ∃ (St : List Addr → Nat → Shared → Prop) (Fin : List Addr → Shared → Prop), (∀ Sp, (∀ b ∈ Sp, s5.heap.objs.size ≤ b) → WG X.prog X.w X.A.in1 a n vals Sp (St Sp) (Fin Sp)) ∧
    (∀ Sp h' tk, (∀ b ∈ Sp, s5.heap.objs.size ≤ b) → (∀ b o, s5.heap.get? b = some o → h'.get? b = some o) → (∀ b ∈ Sp, ∃ o, h'.get? b = some o ∧ ∀ v, o.data ≠ .cell v) → St Sp 0 { s5 with heap := h', toks := tk }) ∧ ∀ Sp s', Fin Sp s' → ∃ H', Inv X pins σ H' s' ∧ QF H'
/-- (.. for t in e), handed to a consumer that makes r of what comes -/
def tGX (P : Addr) (ok : Nat → (Nat → V) → V → Prop) (wi : TI) (g : TG) (te : TE) (vs : List Nat) : TE := fun σ H Q => wi σ H fun J H1 => Tab H1 P ∧ ∃ (n : Nat) (vals : Nat → V) (r : V) (W : Nat → Hp → Prop), ok n vals r ∧ W 0 H1 ∧
  (∀ i H', i < n → W i H' → J.go i H' ∧ ∀ x H2, J.yld i H' x H2 → g x (wipe σ vs) H2 fun σ2 H3 => wipe σ2 vs = wipe σ vs ∧ te σ2 H3 fun y H4 => y = vals i ∧ W (i + 1) H4) ∧ (∀ H', W n H' → J.stop n H') ∧ ∀ i H', i ≤ n → W i H' → Q r H'
structure GenX (env : Env) (scope : Scope) : Prop where
  co : scope.isCoroutine = false
  cell : ∀ y ∈ scope.names, y.2 ≠ .cell
  dot : scope.names.lookup (".0" : Str) = some NameKind.local
theorem gen_makeX {c P : Addr} {elt tg iter : Expr} {scope : Scope} {own : List (Str × Nat)} {gpos : Pos} {wi : TI} {g : TG} {te : TE} {k : Nat} {Q : VK} {Q' : Value → Shared → Prop} {okc : Nat → (Nat → V) → V → Prop} (hr : Room (k + 1) X.A) (hN : X.N.Nodup) (TB : LamX.TabB X.base X.mg c P) (hcode : X.env.code = .ref c) (S : GenX X.env scope) (ok : BlkOk X.N X.env.scope scope own)
    (hi : PI X tg iter wi) (hs : ∀ v, genFold iter X.env v = pure v) (hg : ∀ (A' : Around) (s : Shared) (H : Hp) (C : Addr) (code : Value) (fp : List Addr), Room k A' → PG (gnb X A' s H (gnE X scope C code) fp) tg g) (he : ∀ (A' : Around) (s : Shared) (H : Hp) (C : Addr) (code : Value) (fp : List Addr), Room k A' → PE (gnb X A' s H (gnE X scope C code) fp) elt te)
    (I : Inv X pins σ H s) (h : tGX P okc wi g te (own.map (·.2)) σ H Q)
    (hQ : ∀ n vals r (W : Nat → Hp → Prop) a s5, okc n vals r → (∀ i H', i ≤ n → W i H' → Q r H') → RdyX X pins σ n vals (fun H' => ∃ i, i ≤ n ∧ W i H') a s5 → Q' (.ref a) s5) :
    wpAny (model X.prog X.w) X.A (eval (.GeneratorExp elt [⟨tg, iter, [], 0⟩] scope gpos) X.env) Q' X.xe s := by
  have hfree : ∀ y ∈ scope.names, y.2 = .free → ∃ c, X.env.cells.lookup y.1 = some c := fun y hy e => (ok.free y hy e).elim (fun k => I.ok.has _ (.inl k)) fun k => I.ok.has _ (.inr k)
  refine wpAny_GeneratorExp_make S.co (closure_ok hfree) S.cell S.dot ok.kind (by have := hr.dp; omega) (thn (hi.run pins s σ H _ I h) fun xv s1 h1 => thn h1 fun itv s2 h2 => ?_) hs
  obtain ⟨it, fp, tn, J, H2, rfl, I2, T, st2, f2, hT, n, vals, r, W, hok, w0, turn, stop, fin⟩ := h2
  refine ⟨I2.nolimit, ?_⟩
  obtain ⟨ps, hPs, ht⟩ := hT.of_ok I2.hok
  have cd : PySem.W.CodeHd s2.heap c P := TB.code.keeps fun b u e => I2.bk b u e
  have fpP : ∀ b ∈ fp, b ≠ P := fun b hb z => by
    have q := (f2 b hb).1
    rw [z, hT] at q
    cases q
  have go : ∀ (code : Value) (h3 : Heap) (tk : Nat) (ps' : Array Value), (∀ b o, b ≠ P → s2.heap.get? b = some o → h3.get? b = some o) → s2.heap.objs.size ≤ h3.objs.size → h3.get? P = some { cls := .none, data := .fields ps' } → TriplesOk ps'.toList →
      wpAny (model X.prog X.w) X.A (builtinsFor X.env.globals X.env.builtins) (fun bi s₄ => ∀ h', h'.Ns s₄.heap.objs.size (fun y => if y = ".0" then some (.ref it) else none) → Heap.SameBut s₄.heap.objs.size (s₄.heap.push { cls := .type "frame", data := .dict #[] }) h' →
          Q' (.ref h'.objs.size) { s₄ with
            gens := s₄.gens.push (.fresh (.compStart (.GeneratorExp elt [⟨tg, iter, [], 0⟩] scope gpos) 0 (.ref it) .none (genEnv scope (cloFrom X.env.cells scope.names []) s₄.heap.objs.size code bi X.env))),
            toks := s₄.toks + 1 + 1 + 1,
            heap := h'.push { cls := .type "generator", data := .fields #[.int s₄.gens.size 0, .str "<genexpr>" (s₄.toks + 1), .str (X.env.qual ++ "<genexpr>") (s₄.toks + 1 + 1)] } }) X.xe { s2 with heap := h3, toks := tk } := by
    intro code h3 tk ps' hx hsz hP3 ht3
    have I3 : Inv X pins σ H2 { s2 with heap := h3, toks := tk } := inv_grown I2 hT hx ⟨ps', hP3, ht3⟩ rfl I2.bare
    obtain ⟨bm, ob, e1, e2, e3, e4, e5, e6, e7, e8⟩ := TB.bm
    refine wpAny_builtinsFor (m := X.mg) (by rw [I3.ok.glob]; exact I3.mod.glob.keeps I3.bk) e1 e2 (hx _ _ e4 (I2.bk _ _ e5)) e6 e7 e8 ?_
    generalize hs3 : ({ s2 with heap := h3, toks := tk } : Shared) = s3 at I3 ⊢
    have hh3 : s3.heap = h3 := by rw [← hs3]
    intro h' hn' hs'
    have hsz' : h'.objs.size = s3.heap.objs.size + 1 := by rw [hs'.1, Heap.size_push]
    have keep' : ∀ b o, s3.heap.get? b = some o → h'.get? b = some o := fun b o e => hs'.extBut b o (Nat.ne_of_lt (Heap.lt_size e)) (Heap.get?_push_of_some _ e)
    generalize hoa : ({ cls := .type "generator", data := .fields #[.int s3.gens.size 0, .str "<genexpr>" (s3.toks + 1), .str (X.env.qual ++ "<genexpr>") (s3.toks + 1 + 1)] } : Obj) = oa
    have keep5 : ∀ b o, s3.heap.get? b = some o → (h'.push oa).get? b = some o := fun b o e => Heap.get?_push_of_some _ (keep' b o e)
    have hG : ∀ h : Heap, h.get? h'.objs.size = some oa → h.IsGen h'.objs.size s3.gens.size := fun h e => ⟨oa, _, _, e, by rw [← hoa], by rw [← hoa], by rw [← hoa]⟩
    have goa : (h'.push oa).get? h'.objs.size = some oa := Heap.get?_push_size _ (by rw [← hoa]; rfl)
    have noC : ∀ v, oa.data ≠ .cell v := fun v => by rw [← hoa]; intro z; cases z
    have nstk : ∀ b, s3.heap.objs.size ≤ b → b ∉ frs X.stack := fun b hb z => by
      rcases List.mem_cons.mp (I3.stkSub b z) with z | z
      · have := I3.lt
        rw [← z] at this
        exact Nat.lt_irrefl _ (Nat.lt_of_lt_of_le this hb)
      · exact I3.nofs hb z
    have f3 : ∀ b ∈ fp, FpOk X pins H2 b ∧ b < s3.heap.objs.size := fun b hb => by
      obtain ⟨o, e, _⟩ := T.obj _ _ st2 b hb
      exact ⟨f2 b hb, by rw [hh3]; exact Heap.lt_size (hx b o (fpP b hb) e)⟩
    have hA1 : (X.A.in4.in1.over (.compLoop (.GeneratorExp elt [⟨tg, iter, [], 0⟩] scope gpos) 0 (.ref it) .none (gnE X scope s3.heap.objs.size code)) []).handled = none := hr.hd
    have hfr1 : (X.A.in4.in1.over (.compLoop (.GeneratorExp elt [⟨tg, iter, [], 0⟩] scope gpos) 0 (.ref it) .none (gnE X scope s3.heap.objs.size code)) []).frames = some (gnE X scope s3.heap.objs.size code :: X.stack) := by
      show pushEnvs [_] (pushEnvs [] X.A.frames) = _
      rw [I3.ok.frames]
      rfl
    have hrm : Room k (X.A.in4.in1.over (.compLoop (.GeneratorExp elt [⟨tg, iter, [], 0⟩] scope gpos) 0 (.ref it) .none (gnE X scope s3.heap.objs.size code)) []) :=
      ⟨hr.hd, by have := hr.dp; show X.A.depth + 0 + 1 + 3 * k + 5 < _; omega, by have := hr.un; show X.A.units + 1 + 1 + 1 + 1 + 1 + 0 + 3 + 16 * k + 200 < _; omega⟩
    generalize hA' : X.A.in4.in1.over (.compLoop (.GeneratorExp elt [⟨tg, iter, [], 0⟩] scope gpos) 0 (.ref it) .none (gnE X scope s3.heap.objs.size code)) [] = A' at hA1 hfr1 hrm
    have pg := hg A' s3 H2 s3.heap.objs.size code fp hrm
    have pe := he A' s3 H2 s3.heap.objs.size code fp hrm
    have turns := fun (Sp : List Addr) => seg_turns (A₁ := X.A.in4.in1) (Y := gnb X A' s3 H2 (gnE X scope s3.heap.objs.size code) fp) (pos := gpos) (iter := iter) (scope := scope) (it := it) (a := h'.objs.size) (oa := oa) (Sp := Sp) (σ := σ) (vs := own.map (·.2)) hA'.symm rfl rfl rfl S.co T pg pe turn stop
    have begin_ : ∀ {h'' : Heap} {g' : Array GenState} {t' : Nat}, (∀ b o, (h'.push oa).get? b = some o → h''.get? b = some o) → AllBare g' → Inv (gnb X A' s3 H2 (gnE X scope s3.heap.objs.size code) fp) [] (wipe σ (own.map (·.2))) H2 { s3 with heap := h'', gens := g', toks := t' } := fun {h'' g' t'} k1 k2 =>
      gen_begin I3 ok S.cell hN f3 hA1 hfr1 (fun b o e => k1 b o (keep5 b o e)) (hn'.keeps fun b o e => k1 b o (Heap.get?_push_of_some _ e)) k2
    refine hQ n vals r W _ _ hok fin ⟨fun Sp => GSt X.prog X.w X.A.in4 s3.gens.size n vals Sp (Btw (gnb X A' s3 H2 (gnE X scope s3.heap.objs.size code) fp) h'.objs.size oa (wipe σ (own.map (·.2))) fp tn W Sp) (Gone (gnb X A' s3 H2 (gnE X scope s3.heap.objs.size code) fp) h'.objs.size oa (wipe σ (own.map (·.2))) W n Sp),
      fun Sp => Gone (gnb X A' s3 H2 (gnE X scope s3.heap.objs.size code) fp) h'.objs.size oa (wipe σ (own.map (·.2))) W n Sp, fun Sp hSp => ?_, fun Sp h'' tk' hSp hk hn => ?_, fun Sp s' hF => ?_⟩
    · have hSp' : ∀ b ∈ Sp, s3.heap.objs.size ≤ b ∧ b ≠ h'.objs.size := fun b hb => by
        have := hSp b hb
        rw [Heap.size_push] at this
        have h1 : s3.heap.objs.size ≤ h'.objs.size := by rw [hsz']; exact Nat.le_succ _
        exact ⟨Nat.le_trans h1 (Nat.le_of_succ_le this), fun e => by rw [e] at this; exact Nat.lt_irrefl _ this⟩
      have W4 : WG X.prog X.w X.A.in4 h'.objs.size n vals Sp (GSt X.prog X.w X.A.in4 s3.gens.size n vals Sp (Btw (gnb X A' s3 H2 (gnE X scope s3.heap.objs.size code) fp) h'.objs.size oa (wipe σ (own.map (·.2))) fp tn W Sp) (Gone (gnb X A' s3 H2 (gnE X scope s3.heap.objs.size code) fp) h'.objs.size oa (wipe σ (own.map (·.2))) W n Sp)) (Gone (gnb X A' s3 H2 (gnE X scope s3.heap.objs.size code) fp) h'.objs.size oa (wipe σ (own.map (·.2))) W n Sp) :=
        ⟨fun i s Q E hi st hQ => gst_item hr.hd (by have := hr.dp; show X.A.depth < _; omega) (jok hG) hi st hQ, fun s Q E st hQ => gst_done hr.hd (by have := hr.dp; show X.A.depth < _; omega) (jok hG) st hQ, fun i s Q E st hQ => wpAny_pyIter_gen ((jok (n := n) hG).gen _ _ st.1) hQ,
          fun i s hi st => let ⟨⟨H', ps, hps, I, _, _, w⟩, _⟩ := st; ⟨H', ps, i, hi, hps, I, w⟩, fun i s h'' tk' st k1 k2 => ⟨btw_upd T rfl hSp' st.1 k1 k2, st.2⟩, fun s h'' tk' st k1 k2 => gone_upd rfl hSp' st k1 k2⟩
      exact (W4.of_in1).of_in1.of_in1
    · have hlt : ∀ b ∈ Sp, s3.heap.objs.size ≤ b ∧ b ≠ h'.objs.size := fun b hb => by
        have := hSp b hb
        rw [Heap.size_push] at this
        have h1 : s3.heap.objs.size ≤ h'.objs.size := by rw [hsz']; exact Nat.le_succ _
        exact ⟨Nat.le_trans h1 (Nat.le_of_succ_le this), fun e => by rw [e] at this; exact Nat.lt_irrefl _ this⟩
      have ale : s3.heap.objs.size ≤ h'.objs.size := by rw [hsz']; exact Nat.le_succ _
      have I5 := begin_ (t' := tk') hk (I3.bare.push (g := .fresh (.compStart (.GeneratorExp elt [⟨tg, iter, [], 0⟩] scope gpos) 0 (.ref it) .none (gnE X scope s3.heap.objs.size code))) rfl)
      have J0 : Btw (gnb X A' s3 H2 (gnE X scope s3.heap.objs.size code) fp) h'.objs.size oa (wipe σ (own.map (·.2))) fp tn W Sp 0 { s3 with heap := h'', gens := s3.gens.push (.fresh (.compStart (.GeneratorExp elt [⟨tg, iter, [], 0⟩] scope gpos) 0 (.ref it) .none (gnE X scope s3.heap.objs.size code))), toks := tk' } := by
        refine ⟨H2, _, pins_map hn, I5.pins_of fun q hq => ?_, T.keep _ _ _ st2 fun b hb o e => hk _ _ (keep5 _ _ (by rw [hh3]; exact hx b o (fpP b hb) e)), fun b hb => ⟨(f2 b hb).1, Nat.ne_of_lt (f3 b hb).2, fun z => ?_, .inl hb, fun y c' e => (f2 b hb).2.2.2.2.1 y c' (clo_back hfree e).2, fun q hq e => ?_⟩, w0⟩
        · rcases List.mem_cons.mp hq with rfl | hq
          · exact ⟨hk _ _ goa, I3.hok.fresh ale, fun z => by
              have : h'.objs.size = s3.heap.objs.size := z
              rw [hsz'] at this
              exact Nat.succ_ne_self _ this, nstk _ ale, noC⟩
          · obtain ⟨hb, e⟩ := of_pinsAt hq
            obtain ⟨o, h1, h2⟩ := hn _ hb
            rw [e] at h1
            cases h1
            refine ⟨e, I3.hok.fresh (hlt _ hb).1, fun z => ?_, nstk _ (hlt _ hb).1, h2⟩
            have z : q.1 = s3.heap.objs.size := z
            have := hSp _ hb
            rw [Heap.size_push, hsz', z] at this
            exact Nat.lt_irrefl _ (Nat.lt_of_succ_lt this)
        · rcases List.mem_cons.mp (I3.stkSub b z) with z | z
          · exact (f2 b hb).2.1 z
          · exact (f2 b hb).2.2.1 z
        · have lt := (f3 b hb).2
          rcases List.mem_cons.mp (show q ∈ _ :: pinsAt Sp h'' from hq) with rfl | hq
          · have e : h'.objs.size = b := e
            rw [← e] at lt
            exact Nat.lt_irrefl _ (Nat.lt_of_lt_of_le lt ale)
          · have := (hlt _ (of_pinsAt hq).1).1
            rw [e] at this
            exact Nat.lt_irrefl _ (Nat.lt_of_lt_of_le lt this)
      refine ⟨J0, _, Array.getElem?_push_size .., fun s'' hJ => ⟨rfl, ?_⟩⟩
      have loop := turns Sp n 0 s'' s'' (Nat.sub_zero _) (Nat.zero_le _) (fun b hb => by
        obtain ⟨H3, qs, hqs, I6, _⟩ := hJ
        rw [← hqs] at hb
        obtain ⟨z, hz, rfl⟩ := List.mem_map.mp hb
        have y := (I6.pin z (List.mem_append_right _ (List.mem_cons_of_mem _ hz))).1
        exact ⟨z.2, y, y⟩) hJ
      show Seg _ _ _ _ _ s'' _ ((compStart (.GeneratorExp elt [⟨tg, iter, [], 0⟩] scope gpos) 0 (.ref it) .none (gnE X scope s3.heap.objs.size code)).onRaise (leaving (gnE X scope s3.heap.objs.size code))) [] s''
      unfold compStart; rw [Sem.onRaise_eq_wrap]
      refine seg_bind_wrap (m := ask) (wpAny_askSetting ?_)
      obtain ⟨_, _, _, I6, st6, _⟩ := id hJ
      split
      · exact seg_again rfl loop
      · exact seg_bind_wrap (wpAny_rule (seg_bind_wrap (wpAny_standAt (seg_bind_wrap (T.self _ 0 s'' _ _ st6 (seg_again rfl loop))))))
    · obtain ⟨H', qs, i, hi, hqs, I6, w⟩ := hF
      exact ⟨H', I3.call' (ch := fp) I6.os I6.base I6.hok I6.bare fun b hb => ⟨(f2 b hb).2.2.2.1, (f2 b hb).2.1, (f2 b hb).2.2.2.2.1, (f2 b hb).2.2.2.2.2⟩, i, hi, w⟩
  cases hf : codeAmong gpos ps.toList with
  | some cv => exact wpAny_genexprCode_hit hcode (cd.code hPs ht) hf (go cv s2.heap s2.toks ps (fun _ _ _ e => e) (Nat.le_refl _) hPs ht)
  | none =>
    refine wpAny_genexprCodeX hcode (cd.code hPs ht) (cd.tab hPs) hf fun c' h3 tk hx hge hlt hco' _ htab' _ => ?_
    obtain ⟨_, _, _, _, _, _, _, _, _, _, _, _, _, _, _, _, _, _, _, htr, _⟩ := hco'
    exact go _ h3 tk _ hx (Nat.le_trans hge (Nat.le_of_lt hlt)) htab'.2 htr
end
end LH

set_option Elab.async false
set_option linter.all false
set_option maxRecDepth 100000
set_option maxHeartbeats 4000000
namespace LH
open PySem PySem.Spec PyProof.Rows L2 Evl LT LG
section
variable {prog : Program} {w : World} {A : Around} {E : Value → Shared → Prop} {R : Result → Shared → Prop} {s : Shared} {a S : Addr} {n : Nat} {vals : Nat → V} {St : Nat → Shared → Prop} {Fin : Shared → Prop} {val : Nat → Int}
abbrev accO (us : Array Value) (c : Nat) : Obj := { cls := .type "list", dict := none, data := .seq us c, slots := #[] }
theorem same_at {s s' : Shared} {o : Obj} (h : Same [S] s s') (e : s.heap.get? S = some o) : s'.heap.get? S = some o := by
  obtain ⟨o', h1, h2⟩ := h S (List.mem_singleton.mpr rfl)
  rw [e] at h1
  cases h1
  exact h2
theorem upd_keeps {h : Heap} {f : Obj → Obj} : ∀ b o, b ∉ [S] → h.get? b = some o → (h.update S f).get? b = some o := fun b o hb e =>
  (Heap.get?_update_other _ _ fun z : S = b => hb (List.mem_singleton.mpr z.symm)).trans e
theorem sum_turns (W : WG prog w A.in1 a n vals [S] St Fin) (hv : ∀ i, vals i = .int (val i)) (hfit : ∀ j, j < n → InLong (val j) ∧ InLong (preSum val (j + 1))) : ∀ (k i : Nat) (s : Shared) (tA : Tok) (c : Nat), n - i = k → i ≤ n → St i s → s.heap.get? S = some (accO #[.int (preSum val i) tA] c) →
    (∀ s' t', Fin s' → R (.ok (.ret (.int (preSum val n) t'))) s') → codeAny (model prog w) A (.builtin "sum.loop" ⟨[.ref a, .ref S, rawInt 0, rawInt 0], []⟩) R s := by
  intro k
  induction k with
  | zero =>
    intro i s tA c hk hi st hS hR
    obtain rfl : i = n := by omega
    refine codeAny_builtin F.entry_sum_loop (by
      rw [Around.under_plainId F.plain_sum_loop _]
      show wpAny _ A.in1 (seqItems? (.ref S) >>= _) _ _ s
      refine wpAny_bind (wpAny_seqItems hS rfl (show wpAny _ A.in1 (tryCatch (pyNext (.ref a)) _ >>= _) _ _ s from ?_))
      exact wpAny_bind (wpAny_tryCatch (W.done s _ _ st fun s' hF _ => wpAny_pure (hR s' tA hF))))
  | succ k ih =>
    intro i s tA c hk hi st hS hR
    have hlt : i < n := by omega
    refine codeAny_builtin F.entry_sum_loop (by
      rw [Around.under_plainId F.plain_sum_loop _]
      show wpAny _ A.in1 (seqItems? (.ref S) >>= _) _ _ s
      refine wpAny_bind (wpAny_seqItems hS rfl (show wpAny _ A.in1 (tryCatch (pyNext (.ref a)) _ >>= _) _ _ s from ?_))
      refine wpAny_bind (wpAny_tryCatch (W.item i s _ _ hlt st fun v s' r st' sm => ?_))
      rw [hv i] at r
      obtain ⟨t, rfl⟩ := r
      have hS' := same_at sm hS
      obtain ⟨⟨f1, f2⟩, f3, f4⟩ := hfit i hlt
      have hc : ((decide (-(2 ^ 63) ≤ val i) && decide (val i < 2 ^ 63)) && (decide (-(2 ^ 63) ≤ preSum val i + val i) && decide (preSum val i + val i < 2 ^ 63))) = true := by
        simp only [preSum] at f3 f4
        simp only [Bool.and_eq_true, decide_eq_true_eq]
        exact ⟨⟨f1, f2⟩, f3, f4⟩
      show wpAny _ A.in1 (if (_ : Bool) = true then (mkInt (preSum val i + val i) >>= _) else _) _ _ _
      split
      · refine wpAny_bind (wpAny_mkInt (show wpAny _ A.in1 (updateSeq S (fun _ => #[.int (preSum val i + val i) s'.toks]) >>= _) _ _ _ from wpAny_bind ?_))
        refine wpAny_updateSeq hS' rfl (wpAny_pure ⟨plainId_quiet F.plain_sum_loop _, ih (i + 1) _ s'.toks _ (by omega) hlt (W.upd _ s' _ _ st' upd_keeps fun b hb => ?_) (Heap.get?_update_self _ hS' rfl) hR⟩)
        rw [List.mem_singleton.mp hb]
        exact ⟨_, Heap.get?_update_self _ hS' rfl, fun v z => nomatch z⟩
      · rename_i hneg
        exact absurd hc hneg)
/-- the greatest so far -/
def topI (val : Nat → Int) : Nat → Int
  | 0 => val 0
  | k + 1 => if val (k + 1) > topI val k then val (k + 1) else topI val k
theorem max_turns (W : WG prog w A.in1 a n vals [S] St Fin) (hv : ∀ i, vals i = .int (val i)) : ∀ (k j : Nat) (s : Shared) (t : Tok) (c : Nat), n - (j + 1) = k → j + 1 ≤ n → St (j + 1) s → s.heap.get? S = some (accO #[.int (topI val j) t, .int (topI val j) t] c) →
    (∀ s' t', Fin s' → R (.ok (.ret (.int (topI val (n - 1)) t'))) s') → codeAny (model prog w) A (.builtin "max.loop" ⟨[.ref a, .none, .ref S], []⟩) R s := by
  have hname : (toString "max" ++ toString ".loop" : String) = "max.loop" := by decide
  intro k
  induction k with
  | zero =>
    intro j s t c hk hj st hS hR
    have hin : j + 1 = n := by omega
    refine codeAny_builtin F.entry_max_loop (by
      rw [Around.under_plainId F.plain_max_loop _]
      show wpAny _ A.in1 (seqItems? (.ref S) >>= _) _ _ s
      refine wpAny_bind (wpAny_seqItems hS rfl (show wpAny _ A.in1 (tryCatch (pyNext (.ref a)) _ >>= _) _ _ s from ?_))
      refine wpAny_bind (wpAny_tryCatch (W.done s _ _ (hin ▸ st) fun s' hF sm => ?_))
      have hS' := same_at sm hS
      show wpAny _ A.in1 (updateSeq S (fun _ => #[]) >>= _) _ _ _
      refine wpAny_bind (wpAny_updateSeq hS' rfl (wpAny_bind (wpAny_letGo (wpAny_pure ?_))))
      have q := hR { s' with heap := s'.heap.update S (Obj.mapSeq fun _ => #[]) } t (W.finU s' _ s'.toks hF upd_keeps fun b hb => by
        rw [List.mem_singleton.mp hb]
        exact ⟨_, Heap.get?_update_self _ hS' rfl, fun v z => nomatch z⟩)
      rw [← hin] at q
      exact q)
  | succ k ih =>
    intro j s t c hk hj st hS hR
    have hlt : j + 1 < n := by omega
    refine codeAny_builtin F.entry_max_loop (by
      rw [Around.under_plainId F.plain_max_loop _]
      show wpAny _ A.in1 (seqItems? (.ref S) >>= _) _ _ s
      refine wpAny_bind (wpAny_seqItems hS rfl (show wpAny _ A.in1 (tryCatch (pyNext (.ref a)) _ >>= _) _ _ s from ?_))
      refine wpAny_bind (wpAny_tryCatch (W.item (j + 1) s _ _ hlt st fun v s' r st' sm => ?_))
      rw [hv (j + 1)] at r
      obtain ⟨t1, rfl⟩ := r
      have hS' := same_at sm hS
      show wpAny _ A.in1 (tryCatch (holding [Value.int (val (j + 1)) t1, Value.int (val (j + 1)) t1] (richCompare .Gt (Value.int (val (j + 1)) t1) (Value.int (topI val j) t) >>= _)) _ >>= _) _ _ _
      refine wpAny_bind (wpAny_tryCatch (wpAny_holding (wpAny_bind (gt_int (wpAny_bind (wpAny_holding (wpAny_truthy_bool (wpAny_bind (wpAny_letGo (wpAny_pure ?_))))))))))
      by_cases hb : val (j + 1) > topI val j
      · rw [decide_eq_true hb]
        simp only [if_true]
        refine wpAny_bind (wpAny_updateSeq hS' rfl (wpAny_bind (wpAny_letGo ?_)))
        rw [hname]
        refine wpAny_pure ⟨plainId_quiet F.plain_max_loop _, ih (j + 1) _ t1 _ (by omega) hlt (W.upd _ s' _ s'.toks st' upd_keeps fun b hb => ?_) (by
          have e : topI val (j + 1) = val (j + 1) := if_pos hb
          rw [e]
          exact Heap.get?_update_self _ hS' rfl) hR⟩
        rw [List.mem_singleton.mp hb]
        exact ⟨_, Heap.get?_update_self _ hS' rfl, fun v z => nomatch z⟩
      · rw [decide_eq_false hb]
        simp only [Bool.false_eq_true, if_false]
        refine wpAny_bind (wpAny_letGo ?_)
        rw [hname]
        refine wpAny_pure ⟨plainId_quiet F.plain_max_loop _, ih (j + 1) _ t c (by omega) hlt st' (by
          have e : topI val (j + 1) = topI val j := if_neg hb
          rw [e]
          exact hS') hR⟩)
end
end LH
namespace LH
open PySem PySem.Spec PyProof.Rows L2 Evl LT LG
section
variable {prog : Program} {w : World} {A : Around} {E : Value → Shared → Prop} {s : Shared} {a : Addr} {n : Nat} {vals : Nat → V} {val : Nat → Int} {Q : Value → Shared → Prop}
theorem call_sumG (hW : ∀ S, s.heap.objs.size ≤ S → ∃ (St : Nat → Shared → Prop) (Fin : Shared → Prop), WG prog w A.in1 a n vals [S] St Fin ∧ (∀ h' tk, (∀ b o, s.heap.get? b = some o → h'.get? b = some o) → (∃ o, h'.get? S = some o ∧ ∀ v, o.data ≠ .cell v) → St 0 { s with heap := h', toks := tk }) ∧ ∀ s' t', Fin s' → Q (.int (preSum val n) t') s')
    (hself : wpAny (model prog w) A.in1 (pyIter (.ref a)) (fun u s' => u = .ref a ∧ s' = s) E s) (hv : ∀ i, vals i = .int (val i)) (hfit : ∀ j, j < n → InLong (val j) ∧ InLong (preSum val (j + 1))) : wpAny (model prog w) A (call (.builtin "sum") [.ref a]) Q E s := by
  refine call_function_tree F.kind_sum F.plain_sum F.entry_sum (F.args_sum1 _) (by
    unfold Builtin.«sum»
    simp only [List.length_cons, List.length_nil]; rw [if_neg (by decide)]
    refine wpAny_bind (wpAny_of_eq (show Builtin.Builtins.bindParams "sum" ["start"] 0 { } = pure [none] from rfl) (wpAny_bind (wpAny_mono hself (fun u s' h => ?_) fun _ _ e => e)))
    obtain ⟨rfl, rfl⟩ := h
    refine wpAny_bind (wpAny_mkInt (wpAny_bind (wpAny_pure ?_)))
    simp only [List.forIn_cons, List.forIn_nil]
    refine wpAny_bind (wpAny_bind (wpAny_bind (wpAny_isInstance (T := "int") (b := false) (typeIs_int _ _ _) PySem.sub_int_str (by
      simp only [Bool.false_eq_true, if_false]
      refine wpAny_pure (wpAny_bind (wpAny_bind (wpAny_isInstance (T := "int") (b := false) (typeIs_int _ _ _) PySem.sub_int_bytes (by
        simp only [Bool.false_eq_true, if_false]
        refine wpAny_pure (wpAny_bind (wpAny_bind (wpAny_isInstance (T := "int") (b := false) (typeIs_int _ _ _) PySem.sub_int_bytearray (by
          simp only [Bool.false_eq_true, if_false]
          refine wpAny_pure (wpAny_pure (wpAny_bind (wpAny_newObj_type ?_)))
          obtain ⟨St, Fin, W, h0, hQ⟩ := hW s'.heap.objs.size (Nat.le_refl _)
          exact wpAny_pure ⟨plainId_quiet F.plain_sum_loop _, sum_turns W hv hfit n 0 _ s'.toks 0 rfl (Nat.zero_le _) (h0 _ _ (fun b o e => Heap.get?_push_of_some _ e) ⟨_, Heap.get?_push_size _ rfl, fun v z => nomatch z⟩) (Heap.get?_push_size _ rfl) hQ⟩)))))))))))))
theorem call_maxG (hW : ∀ S, s.heap.objs.size ≤ S → ∃ (St : Nat → Shared → Prop) (Fin : Shared → Prop), WG prog w A.in1 a n vals [S] St Fin ∧ (∀ h' tk, (∀ b o, s.heap.get? b = some o → h'.get? b = some o) → (∃ o, h'.get? S = some o ∧ ∀ v, o.data ≠ .cell v) → St 0 { s with heap := h', toks := tk }) ∧ ∀ s' t', Fin s' → Q (.int (topI val (n - 1)) t') s')
    (hself : wpAny (model prog w) A.in1 (pyIter (.ref a)) (fun u s' => u = .ref a ∧ s' = s) E s) (hv : ∀ i, vals i = .int (val i)) (hn : 0 < n) : wpAny (model prog w) A (call (.builtin "max") [.ref a]) Q E s := by
  have hname : (toString "max" ++ toString ".loop" : String) = "max.loop" := by decide
  refine call_function_tree F.kind_max F.plain_max F.entry_max (F.args_max1 _) (by
    show wpAny _ A.in1 (Builtin.Builtins.bindParams "max" ["key", "default"] 0 ⟨[], []⟩ >>= _) _ _ s
    refine wpAny_bind (wpAny_of_eq (show Builtin.Builtins.bindParams "max" ["key", "default"] 0 ⟨[], []⟩ = pure [none, none] from rfl) (wpAny_bind (wpAny_pure (wpAny_bind (wpAny_mono hself (fun u s' h => ?_) fun _ _ e => e)))))
    obtain ⟨rfl, rfl⟩ := h
    refine wpAny_bind (wpAny_newObj_type ?_)
    obtain ⟨St, Fin, W, h0, hQ⟩ := hW s'.heap.objs.size (Nat.le_refl _)
    rw [hname]
    generalize hS : s'.heap.objs.size = S at W h0 ⊢
    have hS0 : (s'.heap.push { cls := .type "list", dict := none, data := .seq #[] 0 }).get? S = some (accO #[] 0) := by rw [← hS]; exact Heap.get?_push_size _ rfl
    have st0 := h0 (s'.heap.push { cls := .type "list", dict := none, data := .seq #[] 0 }) s'.toks (fun b o e => Heap.get?_push_of_some _ e) ⟨_, hS0, fun v z => nomatch z⟩
    refine wpAny_pure ⟨plainId_quiet F.plain_max_loop _, codeAny_builtin F.entry_max_loop (by
      rw [Around.under_plainId F.plain_max_loop _]
      show wpAny _ A.in1 (seqItems? (.ref S) >>= _) _ _ _
      refine wpAny_bind (wpAny_seqItems hS0 rfl (show wpAny _ A.in1 (tryCatch (pyNext (.ref a)) _ >>= _) _ _ _ from ?_))
      refine wpAny_bind (wpAny_tryCatch (W.item 0 _ _ _ hn st0 fun v s2 r st' sm => ?_))
      rw [hv 0] at r
      obtain ⟨t1, rfl⟩ := r
      have hS' := same_at sm hS0
      show wpAny _ A.in1 (updateSeq S (fun _ => #[Value.int (val 0) t1, Value.int (val 0) t1]) >>= _) _ _ _
      refine wpAny_bind (wpAny_updateSeq hS' rfl ?_)
      rw [hname]
      refine wpAny_pure ⟨plainId_quiet F.plain_max_loop _, max_turns W hv _ 0 _ t1 _ rfl hn (W.upd _ s2 _ s2.toks st' upd_keeps fun b hb => ?_) (Heap.get?_update_self _ hS' rfl) hQ⟩
      rw [List.mem_singleton.mp hb]
      exact ⟨_, Heap.get?_update_self _ hS' rfl, fun v z => nomatch z⟩)⟩)
end
/-! ### the rules -/
def okAll (n : Nat) (vals : Nat → V) (r : V) : Prop := ∃ f : Nat → Bool, vals = (fun i => .bl (f i)) ∧ r = .bl (allF n f)
def okAny (n : Nat) (vals : Nat → V) (r : V) : Prop := ∃ f : Nat → Bool, vals = (fun i => .bl (f i)) ∧ r = .bl (anyF n f)
def okSum (n : Nat) (vals : Nat → V) (r : V) : Prop := ∃ f : Nat → Int, vals = (fun i => .int (f i)) ∧ r = .int (preSum f n) ∧ ∀ j, j < n → InLong (f j) ∧ InLong (preSum f (j + 1))
def okMax (n : Nat) (vals : Nat → V) (r : V) : Prop := ∃ f : Nat → Int, vals = (fun i => .int (f i)) ∧ r = .int (topI f (n - 1)) ∧ 0 < n
section
variable {X : Cx} {c P : Addr} {elt tg iter : Expr} {scope : Scope} {own : List (Str × Nat)} {p pos gpos : Pos} {wi : TI} {g : TG} {te : TE} {k : Nat}
theorem pe_gen {bn : Str} {b : String} {okc : Nat → (Nat → V) → V → Prop} (hbb : bootBuiltins bn = some (.builtin b)) (hcall : ∀ (pins : List (Addr × Obj)) (σ : L2.St) (n : Nat) (vals : Nat → V) (r : V) (QF : Hp → Prop) (a : Addr) (s5 : Shared), okc n vals r → RdyX X pins σ n vals QF a s5 → wpAny (model X.prog X.w) X.A (call (.builtin b) [.ref a]) (fun u s' => RelV r u ∧ ∃ H', Inv X pins σ H' s' ∧ QF H') X.xe s5)
    (hr : Room (k + 1) X.A) (hN : X.N.Nodup) (hgl : Gl X bn) (hm : X.mg bn = none) (TB : LamX.TabB X.base X.mg c P) (hcode : X.env.code = .ref c) (S : GenX X.env scope) (ok : BlkOk X.N X.env.scope scope own)
    (hi : PI X tg iter wi) (hs : ∀ v, genFold iter X.env v = pure v) (hg : ∀ (A' : Around) (s : Shared) (H : Hp) (C : Addr) (code : Value) (fp : List Addr), Room k A' → PG (gnb X A' s H (gnE X scope C code) fp) tg g) (he : ∀ (A' : Around) (s : Shared) (H : Hp) (C : Addr) (code : Value) (fp : List Addr), Room k A' → PE (gnb X A' s H (gnE X scope C code) fp) elt te)
    (hst : starEach [.GeneratorExp elt [⟨tg, iter, [], 0⟩] scope gpos] X.env = (false, eval (.GeneratorExp elt [⟨tg, iter, [], 0⟩] scope gpos) X.env) :: starEach [] X.env := by rfl) (hnm : bn ≠ "__name__" := by decide) (hdb : (bn == ("__debug__" : Str)) = false := by decide) :
    PE X (.Call (.Name bn p) [.GeneratorExp elt [⟨tg, iter, [], 0⟩] scope gpos] [] pos) (tGX P okc wi g te (own.map (·.2))) := by
  refine ⟨fun pins s σ H Q I h => wpAny_Call_Name_kw (ld_blt I hgl hm hbb (PyProof.Rows.callWith_builtin1 ?_ hst (by rfl)) hnm hdb)⟩
  rw [hst]
  show wpAny _ _ (spliced ((false, eval (.GeneratorExp elt [⟨tg, iter, [], 0⟩] scope gpos) X.env) :: backTo pos (starEach [] X.env))) _ _ s
  refine Calls.spliced_cons (gen_makeX hr hN TB hcode S ok hi hs hg he I h fun n vals r W a s5 hok fin rdy => Calls.spliced_nil (wpAny_mono (hcall pins σ n vals r _ a s5 hok rdy) (fun u s' ⟨r1, H', I', i, hi, w⟩ => ⟨r, H', I', r1, fin i H' hi w⟩) fun _ _ e => e))
theorem rdy0 {pins : List (Addr × Obj)} {σ : L2.St} {n : Nat} {vals : Nat → V} {QF : Hp → Prop} {a : Addr} {s5 : Shared} (R : RdyX X pins σ n vals QF a s5) : ∃ St Fin, WG X.prog X.w X.A.in1 a n vals [] St Fin ∧ St 0 s5 ∧ ∀ s', Fin s' → ∃ H', Inv X pins σ H' s' ∧ QF H' := by
  obtain ⟨St, Fin, h1, h2, h3⟩ := R
  exact ⟨St [], Fin [], h1 [] (fun b hb => nomatch hb), h2 [] s5.heap s5.toks (fun b hb => nomatch hb) (fun _ _ e => e) (fun b hb => nomatch hb), h3 []⟩
theorem call_all_rdy {pins : List (Addr × Obj)} {σ : L2.St} {n : Nat} {vals : Nat → V} {r : V} {QF : Hp → Prop} {a : Addr} {s5 : Shared} (ok : okAll n vals r) (R : RdyX X pins σ n vals QF a s5) : wpAny (model X.prog X.w) X.A (call (.builtin "all") [.ref a]) (fun u s' => RelV r u ∧ ∃ H', Inv X pins σ H' s' ∧ QF H') X.xe s5 := by
  obtain ⟨f, rfl, rfl⟩ := ok
  obtain ⟨St, Fin, W, st, hF⟩ := rdy0 R
  exact call_allG W (fun _ => rfl) st fun s' h => ⟨rfl, hF s' h⟩
theorem call_any_rdy {pins : List (Addr × Obj)} {σ : L2.St} {n : Nat} {vals : Nat → V} {r : V} {QF : Hp → Prop} {a : Addr} {s5 : Shared} (ok : okAny n vals r) (R : RdyX X pins σ n vals QF a s5) : wpAny (model X.prog X.w) X.A (call (.builtin "any") [.ref a]) (fun u s' => RelV r u ∧ ∃ H', Inv X pins σ H' s' ∧ QF H') X.xe s5 := by
  obtain ⟨f, rfl, rfl⟩ := ok
  obtain ⟨St, Fin, W, st, hF⟩ := rdy0 R
  exact call_anyG W (fun _ => rfl) st fun s' h => ⟨rfl, hF s' h⟩
theorem rdy1 {pins : List (Addr × Obj)} {σ : L2.St} {n : Nat} {vals : Nat → V} {QF : Hp → Prop} {a : Addr} {s5 : Shared} (R : RdyX X pins σ n vals QF a s5) (S : Addr) (hS : s5.heap.objs.size ≤ S) : ∃ (St : Nat → Shared → Prop) (Fin : Shared → Prop), WG X.prog X.w X.A.in1 a n vals [S] St Fin ∧ (∀ h' tk, (∀ b o, s5.heap.get? b = some o → h'.get? b = some o) → (∃ o, h'.get? S = some o ∧ ∀ v, o.data ≠ .cell v) → St 0 { s5 with heap := h', toks := tk }) ∧
    ∀ s', Fin s' → ∃ H', Inv X pins σ H' s' ∧ QF H' := by
  obtain ⟨St, Fin, h1, h2, h3⟩ := R
  have hSp : ∀ b ∈ [S], s5.heap.objs.size ≤ b := fun b hb => by rw [List.mem_singleton.mp hb]; exact hS
  exact ⟨St [S], Fin [S], h1 [S] hSp, fun h' tk k e => h2 [S] h' tk hSp k fun b hb => by rw [List.mem_singleton.mp hb]; exact e, h3 [S]⟩
theorem self_rdy {E : Value → Shared → Prop} {pins : List (Addr × Obj)} {σ : L2.St} {n : Nat} {vals : Nat → V} {QF : Hp → Prop} {a : Addr} {s5 : Shared} (R : RdyX X pins σ n vals QF a s5) : wpAny (model X.prog X.w) X.A.in1 (pyIter (.ref a)) (fun u s' => u = .ref a ∧ s' = s5) E s5 := by
  obtain ⟨St, Fin, W, st, hF⟩ := rdy0 R
  exact W.self 0 _ _ _ st ⟨rfl, rfl⟩
theorem call_sum_rdy {pins : List (Addr × Obj)} {σ : L2.St} {n : Nat} {vals : Nat → V} {r : V} {QF : Hp → Prop} {a : Addr} {s5 : Shared} (ok : okSum n vals r) (R : RdyX X pins σ n vals QF a s5) : wpAny (model X.prog X.w) X.A (call (.builtin "sum") [.ref a]) (fun u s' => RelV r u ∧ ∃ H', Inv X pins σ H' s' ∧ QF H') X.xe s5 := by
  obtain ⟨f, rfl, rfl, hfit⟩ := ok
  exact call_sumG (fun S hS => let ⟨S1, F1, W, h0, hF⟩ := rdy1 R S hS; ⟨S1, F1, W, h0, fun s' t' h => ⟨⟨t', rfl⟩, hF s' h⟩⟩) (self_rdy R) (fun _ => rfl) hfit
theorem call_max_rdy {pins : List (Addr × Obj)} {σ : L2.St} {n : Nat} {vals : Nat → V} {r : V} {QF : Hp → Prop} {a : Addr} {s5 : Shared} (ok : okMax n vals r) (R : RdyX X pins σ n vals QF a s5) : wpAny (model X.prog X.w) X.A (call (.builtin "max") [.ref a]) (fun u s' => RelV r u ∧ ∃ H', Inv X pins σ H' s' ∧ QF H') X.xe s5 := by
  obtain ⟨f, rfl, rfl, hn⟩ := ok
  exact call_maxG (fun S hS => let ⟨S1, F1, W, h0, hF⟩ := rdy1 R S hS; ⟨S1, F1, W, h0, fun s' t' h => ⟨⟨t', rfl⟩, hF s' h⟩⟩) (self_rdy R) (fun _ => rfl) hn
end
end LH

set_option Elab.async false
set_option linter.all false
set_option maxRecDepth 100000
set_option maxHeartbeats 4000000
namespace LO
open PySem PySem.Spec PyProof.Rows L2 L2H Evl LT LG LS LX
/-! ### own objects: fields, methods, items changed -/
theorem get_list {X : Cx} : PGet X (rIxL X.K) := by
  intro pins s σ H x y v u Q I rx ry h
  obtain ⟨p, xs, i, z, rfl, rfl, hq, he, q⟩ := h
  cases rx
  obtain ⟨t, rfl⟩ := ry
  obtain ⟨its, r, pl, hz⟩ := I.list hq
  obtain ⟨j, h1, h2, h3, h4, h5⟩ := atI_get he
  obtain ⟨w, ew, rw'⟩ := r.get h2
  have hl := r.length
  have hn := line63
  have fin : EP X pins σ Q w s := ⟨z, H, I, rw', q⟩
  by_cases h0 : 0 ≤ i
  · have hj : i.toNat = j := by
      rw [seqIndex_of h0 h5] at h1
      exact Option.some.inj h1
    exact wpAny_getItem_list (Q := fun r s' => EP X pins σ Q r s') pl.isList h0 (by omega) (by rw [hj]; simpa using ew) fin
  · have hj : (i + (its.toArray.size : Int)).toNat = j := by
      rw [seqIndex_neg (by omega) h4] at h1
      rw [List.size_toArray, ← hl]
      exact Option.some.inj h1
    exact wpAny_getItem_list_neg (Q := fun r s' => EP X pins σ Q r s') pl.isList (by omega) (by rw [List.size_toArray] <;> omega) (by omega) (by rw [hj]; simpa using ew) fin
/-- o.m(e, ..), what is raised wished for at the slots -/
def tMethA (C : Addr) (m : Str) (sp : Sp) (E : L2.St → XK) (ta : TE) (t : TA) : TE := fun σ H Q => ta σ H fun x H1 => ∃ a dx fs, x = .ref a ∧ H1 a = some (.ins C dx fs) ∧ fs.lookup m = none ∧ t σ H1 fun vs H2 => sp (x :: vs) H2 Q (E σ)
section
variable {X : Cx} {CX : CXT} {k : Nat} {f C : Addr} {fd : FuncData} {ps : List Str} {sp : Sp} {E : L2.St → XK} {m : Str} {pos apos : Pos} {e o : Expr} {es : List Expr} {ta : TE} {t : TA}
theorem pe_methA {pl : Sem Bool} (he : PE X o ta) (c : Cls X.K C) (hm : Meth X.K C m f) (F : FnOk X.prog X.w X.K X.mg X.base CX k f fd ps sp) (hr : Room k X.A) (hb : Binds X.K fd ps []) (hx : ∀ σ, PassesAt CX X σ (E σ)) (ha : PA X (e :: es) t)
    (hst : starEach (e :: es) X.env = (false, eval e X.env) :: starEach es X.env := by rfl) (hpl : (backTo pos (starEach es X.env)).any (·.1) = false := by rfl)
    (ht : eval (.Call (.Attribute o m apos) (e :: es) [] pos) X.env = (do
      let ov ← eval o X.env
      standAt apos.atName
      let (f, first) ← holding [ov] (getMethod ov m pl)
      callWith pos f first (backTo pos (starEach (e :: es) X.env)) (backToKw pos (keywordEach [] X.env))) := by rfl) :
    PE X (.Call (.Attribute o m apos) (e :: es) [] pos) (tMethA C m sp E ta t) := by
  refine ⟨fun pins s σ H Q I h => ?_⟩
  refine PySem.W.methodCall_KW (pl := pl) (thn (he.run pins s σ H _ I h) fun u s1 ⟨x, H1, I1, rx, a, dx, fs, ex, ea, l, q⟩ => ?_) ht
  subst ex
  obtain rfl : u = Value.ref a := rx
  refine getmeth_ok I1 ea c hm l ?_
  refine PySem.W.callWith_K (first := [.ref a]) (h₀ := X.base) I.ok.mod.kin hm.kp (thn (ha.run pos pins s1 σ H1 _ I1 q) fun us s2 ⟨vs, H2, I2, r, q2⟩ => ⟨I2.kIn, ?_⟩) hst hpl
  exact run_fnS (us := .ref a :: us) (vs := .ref a :: vs) F hr hb (hx σ) I2 (.cons rfl r) q2
theorem pe_methA0 {pl : Sem Bool} (he : PE X o ta) (c : Cls X.K C) (hm : Meth X.K C m f) (F : FnOk X.prog X.w X.K X.mg X.base CX k f fd ps sp) (hr : Room k X.A) (hb : Binds X.K fd ps []) (hx : ∀ σ, PassesAt CX X σ (E σ))
    (ht : eval (.Call (.Attribute o m apos) [] [] pos) X.env = (do
      let ov ← eval o X.env
      standAt apos.atName
      let (f, first) ← holding [ov] (getMethod ov m pl)
      callWith pos f first (backTo pos (starEach [] X.env)) (backToKw pos (keywordEach [] X.env))) := by rfl) :
    PE X (.Call (.Attribute o m apos) [] [] pos) (tMethA C m sp E ta tNil) := by
  refine ⟨fun pins s σ H Q I h => ?_⟩
  refine PySem.W.methodCall_KW (pl := pl) (thn (he.run pins s σ H _ I h) fun u s1 ⟨x, H1, I1, rx, a, dx, fs, ex, ea, l, q⟩ => ?_) ht
  subst ex
  obtain rfl : u = Value.ref a := rx
  refine getmeth_ok I1 ea c hm l ?_
  exact PySem.W.callWith_K0 (first := [.ref a]) I1.kIn hm.kp (run_fnS (us := [.ref a]) (vs := [.ref a]) F hr hb (hx σ) I1 (.cons rfl .nil) q)
end
/-! ### a def that is handed the caught exception, within the suite -/
structure FnE (P : Program) (w : World) (K : PySem.W.Frag) (mg : Str → Option Value) (base : Heap) (CX : CXT) (k : Nat) (f : Addr) (fd : FuncData) (ps : List Str) (sp : Addr → Addr → Sp) : Prop where
  len : ∀ D a vs H Q E, sp D a vs H Q E → vs.length = ps.length
  run : ∀ (A : Around) (outer : List Env) (s : Shared) (H : Hp) (args : Args) (us : List Value) (vs : List V) (Q : VK) (E : XK) (p : Addr × Obj) (D : Addr), RoomH k A → Zc (.ref D) none p.2 → (∃ vs, p.2.data = .fields vs) → PinOk outer H s p → Env0 P w K mg base A outer s H → BindsTo s fd args (ps.zip us) → Vals vs us → sp D p.1 vs H Q E →
    codeAny (model P w) A (.call (.ref f) args) (CR CX outer P w H s Q E) s
theorem fn_ofE {CX : CXT} {P : Program} {w : World} {K : PySem.W.Frag} {mg : Str → Option Value} {base : Heap} {k : Nat} {f : Addr} {name qual : Str} {params : Arguments} {body : List Stmt} {scope : Scope} {dV kV doc pm cdv ct oc : Value} {an od : Option Addr}
    {osl : Array (Option Value)} {N ps : List Str} {sp : Addr → Addr → Sp} (lk : K.lookup f = some ⟨oc, od, .func (PySem.W.fnOf name qual params body scope dV kV doc pm an cdv ct), osl⟩) (hcd : PySem.W.codeIn K cdv qual = true) (S : FnScope N ps scope)
    (len : ∀ D a vs H Q E, sp D a vs H Q E → vs.length = ps.length)
    (hbody : ∀ (A : Around) (outer : List Env) (s : Shared) (H : Hp) (vs : List V) (Q : VK) (E : XK) (p : Addr × Obj) (D : Addr), RoomH k (A.deeper (envOfC qual scope s.heap.objs.size f cdv)) → Zc (.ref D) none p.2 → (∃ vs, p.2.data = .fields vs) → sp D p.1 vs H Q E →
      ∃ t, PSs (cxH CX P w K mg base N qual scope f cdv A outer s H E p) body t ∧ t { nx := fun _ H' => Q .non H', rt := Q } (L2.start N vs) H) :
    FnE P w K mg base CX (k + 1) f (PySem.W.fnOf name qual params body scope dV kV doc pm an cdv ct) ps sp := by
  refine ⟨len, fun A outer s H args us vs Q E p D hr hz hf hpin e0 hb r hsp => ?_⟩
  have hl := len _ _ _ _ _ _ hsp
  have KX : K.In s.heap := e0.mod.kin.keeps fun b o e => (e0.bs b o e).1
  have lim : s.heap.NoLimit := e0.mod.nolimit.keeps fun b o e => (e0.bs b o e).1
  have hkind : ∀ y ∈ ps.zip us, scope.names.lookup y.1 = some .local ∨ (scope.names.lookup y.1 = some .cell ∧ ((cellsFrom (s.heap.objs.size + 1) scope.names []).lookup y.1).isSome = true) := fun ⟨n, v⟩ hy => by
    rcases S.par n (List.of_mem_zip hy).1 with q | q
    · exact .inl q
    · exact .inr ⟨q, PySem.W.cellsFrom_some _ _ _ (.inl q)⟩
  refine codeAny_call_function hr.depth (KX _ _ lk) rfl S.co S.gen rfl (PySem.W.codeRec_of KX hcd) (hb _ _ _ _ ?_)
  refine wpAny_newFunctionEnv_cells S.kind hkind fun env he s1 x => ?_
  subst he
  refine ⟨lim.keeps x.toInCall.keep, codeAny_func ?_⟩
  obtain ⟨t, ht, hq⟩ := hbody A outer s H vs Q E p D (hr.deeper _) hz hf hsp
  have I : Inv (cxH CX P w K mg base N qual scope f cdv A outer s H E p) [] (L2.start N vs) H s1 := inv_startH S hpin e0 hl r x
  refine wpAny_mono (ht.run [] s1 (L2.start N vs) H _ I hq) (fun fl s' hs => ?_) fun e s' hs => hs
  have fin : ∀ {σ' : L2.St} {H' : Hp} {v : V} {u : Value}, Inv (cxH CX P w K mg base N qual scope f cdv A outer s H E p) [] σ' H' s' → RelV v u → Q v H' → CE outer P w H s Q u s' :=
    fun {σ' H' v u} J rv q => ⟨v, H', J.os, J.bare, J.base, J.hok, rv, q⟩
  cases fl with
  | ret u =>
    obtain ⟨v, σ', H', J, rv, q⟩ := hs
    exact fin J rv q
  | next =>
    obtain ⟨σ', H', J, q⟩ := hs
    exact fin (v := V.non) (u := Value.none) J rfl q
  | brk =>
    obtain ⟨_, _, _, q⟩ := hs
    exact False.elim q
  | cont =>
    obtain ⟨_, _, _, q⟩ := hs
    exact False.elim q
section
variable {P : Program} {w : World} {K : PySem.W.Frag} {mg : Str → Option Value} {base : Heap}
theorem okE {x qual : Str} {st : Stmt} {f : Addr} {fd : FuncData} {N ps : List Str} {k : Nat} {sp : Addr → Addr → Sp} (F : Fun K x qual st f fd) (S : FnScope N ps (defScope st)) (len : ∀ D a vs H Q E, sp D a vs H Q E → vs.length = ps.length)
    (hbody : ∀ (cdv : Value) (A : Around) (outer : List Env) (s : Shared) (H : Hp) (vs : List V) (Q : VK) (E : XK) (p : Addr × Obj) (D : Addr), RoomH k (A.deeper (envOfC qual (defScope st) s.heap.objs.size f cdv)) → Zc (.ref D) none p.2 → (∃ vs, p.2.data = .fields vs) → sp D p.1 vs H Q E →
      ∃ t, PSs (cxH CX0 P w K mg base N qual (defScope st) f cdv A outer s H E p) (defBody st) t ∧ t { nx := fun _ H' => Q .non H', rt := Q } (L2.start N vs) H) : FnE P w K mg base CX0 (k + 1) f fd ps sp := by
  obtain ⟨oc, od, kV, doc, pm, an, cdv, ct, osl, rfl, lk, hcd⟩ := F.ex
  exact fn_ofE lk hcd S len fun A outer s H vs Q E p D hr hz hf hsp => hbody cdv A outer s H vs Q E p D hr hz hf hsp
end
def tCallE (sp : Addr → Addr → Sp) (cls : Value) (d : Option Addr) (a : Addr) (E : L2.St → XK) (t : TA) : TE := fun σ H Q => t σ H fun vs H1 => ∃ D, cls = .ref D ∧ d = none ∧ sp D a vs H1 Q (E σ)
section
variable {X : Cx} {CX : CXT} {k : Nat} {f : Addr} {fd : FuncData} {ps : List Str} {sp : Addr → Addr → Sp} {E : L2.St → XK} {x : Str} {q pos : Pos} {e : Expr} {es : List Expr} {t : TA} {a : Addr} {oe : Obj} {cls : Value} {d : Option Addr} {pn : List (Addr × Obj)}
theorem pass0E {X : Cx} {σ : L2.St} {E : XK} : PassesAt CX0 X σ E := fun _ _ _ _ _ _ h => h.elim
theorem pe_callE (hz : Zc cls d oe) (hf : ∃ vs, oe.data = .fields vs) (F : FnE X.prog X.w X.K X.mg X.base CX k f fd ps sp) (hr : Room k X.A) (hg : Gl (X.suite a ((a, oe) :: pn)) x) (hm : X.mg x = some (.ref f)) (hk : PySem.W.keepIn X.K (.ref f) = true) (hb : Binds X.K fd ps []) (hx : ∀ σ, PassesAt CX (X.suite a ((a, oe) :: pn)) σ (E σ))
    (ha : PA (X.suite a ((a, oe) :: pn)) (e :: es) t) (hdb : (x == ("__debug__" : Str)) = false := by decide) (he : starEach (e :: es) X.env = (false, eval e X.env) :: starEach es X.env := by rfl) (hpl : (backTo pos (starEach es X.env)).any (·.1) = false := by rfl) :
    PE (X.suite a ((a, oe) :: pn)) (.Call (.Name x q) (e :: es) [] pos) (tCallE sp cls d a E t) := by
  refine ⟨fun pins s σ H Q I h => ?_⟩
  refine wpAny_Call_Name_kw (ld_glob I hg hm ?_ hdb)
  refine PySem.W.callWith_K (h₀ := X.base) I.ok.mod.kin hk (thn (ha.run pos pins s σ H _ I h) fun us s1 ⟨vs, H1, I1, r, q⟩ => ⟨I1.kIn, ?_⟩) he hpl
  obtain ⟨D, rfl, rfl, q⟩ := q
  have hl : us.length = ps.length := by rw [← r.length]; exact F.len _ _ _ _ _ _ q
  have b := hb s1 us I1.kIn (by rw [List.append_nil]; exact hl)
  rw [List.append_nil] at b
  have P1 := I1.pin (a, oe) (List.mem_append_left _ List.mem_cons_self)
  have hpin : PinOk X.stack H1 s1 (a, oe) := ⟨P1.1, P1.2.1, fun hm => (List.mem_cons.mp (I1.stkSub a hm)).elim P1.2.2.1 P1.2.2.2.1, P1.2.2.2.2⟩
  refine wpAny_call (codeAny_mono (F.run _ X.stack s1 H1 ⟨us, []⟩ us vs Q (E σ) (a, oe) D ⟨hr.dp, hr.un⟩ hz hf hpin I1.env0 b r q) fun r s' hq => ?_)
  cases r with
  | error e => exact hx σ pins H1 s1 e s' I1 hq
  | ok fl =>
    cases fl with
    | ret u => exact I1.after hq
    | next => exact False.elim hq
    | brk => exact False.elim hq
    | cont => exact False.elim hq
end
/-- isinstance(e, c), e the exception that is handed in -/
def rIsP (K : PySem.W.Frag) (D a : Addr) : List V → Hp → VK → Prop := fun xs H Q => ExcC K D ∧ rIsE K D a xs H Q
theorem call_isP {X : Cx} {D : Addr} {p : Addr × Obj} (hp : p ∈ X.pn) (hz : Zc (.ref D) none p.2) (hf : ∃ vs, p.2.data = .fields vs) : CallR X (.builtin "isinstance") (rIsP X.K D p.1) := by
  intro pins s σ H xs us Q I r h
  obtain ⟨C, c, cv, b, rfl, hcv, e, q⟩ := h
  cases r with
  | cons rx rr =>
    cases rr with
    | cons rt rr =>
      cases rr
      cases rx
      have ec := hcv _ rt
      subst ec
      obtain ⟨hget, _⟩ := I.pin p (List.mem_append.mpr (.inl hp))
      obtain ⟨vs, hv⟩ := hf
      have J : PySem.W.InstAt s.heap p.1 p.2 D none := by
        obtain ⟨a, oc, od, oda, osl⟩ := p
        obtain ⟨h1, h2⟩ := hz
        dsimp only at h1 h2 hv hget ⊢
        subst h1 h2 hv
        exact ⟨hget, rfl, rfl, trivial⟩
      exact PySem.W.kia_one (PySem.W.handS_kitx_exc C.hg C.hk C.hs C.hd C.ha C.hn C.ht C.hm) I.kIn J e (fun z => nomatch z) fun tk => ⟨.bl b, H, I.kept (t' := tk) fun _ _ z => z, rfl, q⟩
theorem ev_isP {K : PySem.W.Frag} {D a C : Addr} {σ : L2.St} {H : Hp} {ta tb : TE} {b : Bool} (hC : ExcC K D) (h : Ev ta σ H (.ref a)) (hn : Ev tb σ H (.ref C)) (hk : PySem.W.kitOne K (.ref D) (.ref C) = some b) : Ev (tCB (rIsP K D a) (tCons ta (tCons tb tNil))) σ H (.bl b) :=
  ev_cb (ea_cons h (ea_cons hn ea_nil)) fun H1 e Q q => ⟨hC, .ref C, .ref C, b, rfl, fun u hu => hu, hk, q H1 (Ex.refl H1)⟩
/-- isinstance in the suite, the class open -/
def rIsQ (K : PySem.W.Frag) (a : Addr) (cls : Value) (d : Option Addr) : List V → Hp → VK → Prop := fun xs H Q => ∃ D, cls = .ref D ∧ d = none ∧ ExcC K D ∧ rIsE K D a xs H Q
theorem call_isQ {X : Cx} {a : Addr} {oe : Obj} {cls : Value} {d : Option Addr} {pn : List (Addr × Obj)} (hz : Zc cls d oe) (hf : ∃ vs, oe.data = .fields vs) : CallR (X.suite a ((a, oe) :: pn)) (.builtin "isinstance") (rIsQ X.K a cls d) := by
  intro pins s σ H xs us Q I r h
  obtain ⟨D, rfl, rfl, C, h⟩ := h
  exact call_isE C hz hf pins s σ H xs us Q I r h
theorem ev_isQ {K : PySem.W.Frag} {D a C : Addr} {σ : L2.St} {H : Hp} {ta tb : TE} {b : Bool} (hC : ExcC K D) (h : Ev ta σ H (.ref a)) (hn : Ev tb σ H (.ref C)) (hk : PySem.W.kitOne K (.ref D) (.ref C) = some b) : Ev (tCB (rIsQ K a (.ref D) none) (tCons ta (tCons tb tNil))) σ H (.bl b) :=
  ev_cb (ea_cons h (ea_cons hn ea_nil)) fun H1 e Q q => ⟨D, rfl, rfl, hC, .ref C, .ref C, b, rfl, fun u hu => hu, hk, q H1 (Ex.refl H1)⟩
theorem el_is {te : TE} {σ : L2.St} {H : Hp} {xs ys : List V} (h : EvL te σ H xs) (e : xs = ys) : EvL te σ H ys := by
  rw [← e]
  exact h
theorem rv_isN {H : Hp} {x : V} : RV (fun x y H Q => y = .non ∧ Q (.bl (decide (x = .non))) H) x .non H (.bl (decide (x = .non))) := rv_val fun _ _ Q q => ⟨rfl, q⟩
theorem rv_notN {H : Hp} {x : V} : RV (fun x y H Q => y = .non ∧ Q (.bl (!decide (x = .non))) H) x .non H (.bl (!decide (x = .non))) := rv_val fun _ _ Q q => ⟨rfl, q⟩
/-- a call, then a new instance by its __init__ -/
theorem q_make {C : Addr} {sp : Sp} {σ : L2.St} {H : Hp} {t : TA} {vs : List V} {E : XK} {i : Nat} {tz : TS} {D : Ends} (ht : EvA t σ H vs) (k : ∀ p dx H1 H2, H p = none → H1 p = none → Ex H H1 → H2 p = some (.ins C dx []) → Ex H1 H2 → sp (.ref p :: vs) H2 (fun v H3 => v = .non ∧ tz D (σ.set i (some (.ref p))) H3) E) : tSeq (tAsg (tMake C sp [] E t) (gName i)) tz D σ H :=
  ht H (Ex.refl _) _ fun H1 e1 p dx hp hd hne => by
    have h := k p dx H1 (upd (upd H1 dx (.own p)) p (.ins C dx [])) (fresh_back e1 hp) hp e1 upd_same ((Ex.new hd).mut hp)
    rw [show V.ref p :: (vs ++ []) = V.ref p :: vs by rw [List.append_nil]]
    exact h
/-- runs of a call -/
theorem q_run {sp : Sp} {σ : L2.St} {H : Hp} {tr : TA} {vs : List V} {E : XK} {tz : TS} {D : Ends} {i : Nat} (h : EvA tr σ H vs) (k : ∀ H1, Ex H H1 → sp vs H1 (fun v H2 => tz D (σ.set i (some v)) H2) E) : tSeq (tAsg (tCall sp [] E tr) (gName i)) tz D σ H := h H (Ex.refl H) _ fun H1 e => by
    rw [List.append_nil]
    exact k H1 e
/-! ### what fields and methods evaluate to -/
section
variable {K : PySem.W.Frag} {σ : L2.St} {H : Hp} {ta tb te : TE} {t : TA} {v z : V} {C p dx : Addr} {fs : List (Str × V)} {m : Str} {sp : Sp} {vs : List V} {tz : TS} {D : Ends}
theorem ev_fld (ha : Ev ta σ H (.ref p)) (hi : H p = some (.ins C dx fs)) (c : Cls K C) (n : NoAttr K C m) (hl : fs.lookup m = some v) : Ev (tFld K ta m) σ H v := fun H1 e Q q =>
  ha H1 e _ fun H2 e2 => ⟨p, C, dx, fs, v, rfl, e2 _ _ (e _ _ hi), c, n, hl, q H2 e2⟩
theorem ev_meth {E : XK} (ha : Ev ta σ H (.ref p)) (hi : H p = some (.ins C dx fs)) (hl : fs.lookup m = none) (ht : EvA t σ H vs) (hs : SpV sp (.ref p :: vs) H z) : Ev (tMeth C m sp [] E ta t) σ H z := fun H1 e Q q =>
  ha H1 e _ fun H2 e2 => ⟨p, dx, fs, rfl, e2 _ _ (e _ _ hi), hl, ht H2 (e.trans e2) _ fun H3 e3 => by
    rw [List.append_nil]
    exact hs H3 ((e.trans e2).trans e3) Q (fun H4 e4 => q H4 ((e2.trans e3).trans e4)) E⟩
theorem ev_meth0 {E : XK} (ha : Ev ta σ H (.ref p)) (hi : H p = some (.ins C dx fs)) (hl : fs.lookup m = none) (hs : SpV sp [.ref p] H z) : Ev (tMeth C m sp [] E ta tNil) σ H z := ev_meth ha hi hl ea_nil hs
/-- a method that changes something: its own promise, then the rest -/
theorem m_run {E : XK} {Q : VK} (ha : Ev ta σ H (.ref p)) (hi : H p = some (.ins C dx fs)) (hl : fs.lookup m = none) (ht : EvA t σ H vs) (k : ∀ H1, Ex H H1 → sp (.ref p :: vs) H1 Q E) : tMeth C m sp [] E ta t σ H Q :=
  ha H (Ex.refl _) _ fun H2 e2 => ⟨p, dx, fs, rfl, e2 _ _ hi, hl, ht H2 e2 _ fun H3 e3 => by
    rw [List.append_nil]
    exact k H3 (e2.trans e3)⟩
theorem mA_run {E : L2.St → XK} {Q : VK} (ha : Ev ta σ H (.ref p)) (hi : H p = some (.ins C dx fs)) (hl : fs.lookup m = none) (ht : EvA t σ H vs) (k : ∀ H1, Ex H H1 → sp (.ref p :: vs) H1 Q (E σ)) : tMethA C m sp E ta t σ H Q :=
  ha H (Ex.refl _) _ fun H2 e2 => ⟨p, dx, fs, rfl, e2 _ _ hi, hl, ht H2 e2 _ fun H3 e3 => k H3 (e2.trans e3)⟩
theorem q_m {E : XK} (ha : Ev ta σ H (.ref p)) (hi : H p = some (.ins C dx fs)) (hl : fs.lookup m = none) (ht : EvA t σ H vs) (k : ∀ H1, Ex H H1 → sp (.ref p :: vs) H1 (fun _ H2 => tz D σ H2) E) : tSeq (tDrop (tMeth C m sp [] E ta t)) tz D σ H := m_run (Q := fun _ H2 => tz D σ H2) ha hi hl ht k
theorem s_m {E : XK} (ha : Ev ta σ H (.ref p)) (hi : H p = some (.ins C dx fs)) (hl : fs.lookup m = none) (ht : EvA t σ H vs) (k : ∀ H1, Ex H H1 → sp (.ref p :: vs) H1 (fun _ H2 => D.nx σ H2) E) : tDrop (tMeth C m sp [] E ta t) D σ H := m_run (Q := fun _ H2 => D.nx σ H2) ha hi hl ht k
theorem r_m {E : XK} (ha : Ev ta σ H (.ref p)) (hi : H p = some (.ins C dx fs)) (hl : fs.lookup m = none) (ht : EvA t σ H vs) (k : ∀ H1, Ex H H1 → sp (.ref p :: vs) H1 D.rt E) : tRet (tMeth C m sp [] E ta t) D σ H := m_run (Q := D.rt) ha hi hl ht k
theorem q_mA {i : Nat} {E : XK} (ha : Ev ta σ H (.ref p)) (hi : H p = some (.ins C dx fs)) (hl : fs.lookup m = none) (ht : EvA t σ H vs) (k : ∀ H1, Ex H H1 → sp (.ref p :: vs) H1 (fun v H2 => tz D (σ.set i (some v)) H2) E) : tSeq (tAsg (tMeth C m sp [] E ta t) (gName i)) tz D σ H := m_run (Q := fun v H2 => tz D (σ.set i (some v)) H2) ha hi hl ht k
/-- the same in a try's body -/
theorem r_mA {E : L2.St → XK} (ha : Ev ta σ H (.ref p)) (hi : H p = some (.ins C dx fs)) (hl : fs.lookup m = none) (ht : EvA t σ H vs) (k : ∀ H1, Ex H H1 → sp (.ref p :: vs) H1 D.rt (E σ)) : tRet (tMethA C m sp E ta t) D σ H := mA_run (Q := D.rt) ha hi hl ht k
theorem q_mAD {E : L2.St → XK} (ha : Ev ta σ H (.ref p)) (hi : H p = some (.ins C dx fs)) (hl : fs.lookup m = none) (ht : EvA t σ H vs) (k : ∀ H1, Ex H H1 → sp (.ref p :: vs) H1 (fun _ H2 => tz D σ H2) (E σ)) : tSeq (tDrop (tMethA C m sp E ta t)) tz D σ H := mA_run (Q := fun _ H2 => tz D σ H2) ha hi hl ht k
theorem q_mAA {i : Nat} {E : L2.St → XK} (ha : Ev ta σ H (.ref p)) (hi : H p = some (.ins C dx fs)) (hl : fs.lookup m = none) (ht : EvA t σ H vs) (k : ∀ H1, Ex H H1 → sp (.ref p :: vs) H1 (fun v H2 => tz D (σ.set i (some v)) H2) (E σ)) : tSeq (tAsg (tMethA C m sp E ta t) (gName i)) tz D σ H := mA_run (Q := fun v H2 => tz D (σ.set i (some v)) H2) ha hi hl ht k
/-- o.f = e -/
theorem s_fld (hv : Ev te σ H v) (ha : Ev ta σ H (.ref p)) (hi : H p = some (.ins C dx fs)) (c : Cls K C) (n : NoAttr K C m) (hz : fs.length < 1000) (k : ∀ H1, Ex H H1 → D.nx σ (upd H1 p (.ins C dx (putF m v fs)))) : sFld K ta te m D σ H :=
  hv H (Ex.refl _) _ fun H1 e1 => ha H1 e1 _ fun H2 e2 => ⟨p, C, dx, fs, rfl, e2 _ _ (e1 _ _ hi), c, n, hz, k H2 (e1.trans e2)⟩
theorem s_fldL {xs : List V} (hv : EvL te σ H xs) (ha : Ev ta σ H (.ref p)) (hi : H p = some (.ins C dx fs)) (c : Cls K C) (n : NoAttr K C m) (hz : fs.length < 1000) (k : ∀ l H1, H l = none → Ex H H1 → H1 l = some (.lst xs) → D.nx σ (upd H1 p (.ins C dx (putF m (.ref l) fs)))) : sFld K ta te m D σ H :=
  hv H (Ex.refl _) _ fun l H1 hl e1 h1 => ha H1 e1 _ fun H2 e2 => ⟨p, C, dx, fs, rfl, e2 _ _ (e1 _ _ hi), c, n, hz, k l H2 hl (e1.trans e2) (e2 _ _ h1)⟩
theorem q_fld (hv : Ev te σ H v) (ha : Ev ta σ H (.ref p)) (hi : H p = some (.ins C dx fs)) (c : Cls K C) (n : NoAttr K C m) (hz : fs.length < 1000) (k : ∀ H1, Ex H H1 → tz D σ (upd H1 p (.ins C dx (putF m v fs)))) : tSeq (sFld K ta te m) tz D σ H := s_fld (D := { D with nx := tz D }) hv ha hi c n hz k
theorem q_fldL {xs : List V} (hv : EvL te σ H xs) (ha : Ev ta σ H (.ref p)) (hi : H p = some (.ins C dx fs)) (c : Cls K C) (n : NoAttr K C m) (hz : fs.length < 1000) (k : ∀ l H1, H l = none → Ex H H1 → H1 l = some (.lst xs) → tz D σ (upd H1 p (.ins C dx (putF m (.ref l) fs)))) : tSeq (sFld K ta te m) tz D σ H := s_fldL (D := { D with nx := tz D }) hv ha hi c n hz k
/-- xs[j] += e -/
theorem s_augL {f : Int → Int → Int} {l : Addr} {xs : List V} {j : Nat} {a b : Int} (ho : Ev ta σ H (.ref l)) (hi : Ev tb σ H (.int (j : Int))) (hl : H l = some (.lst xs)) (hj : xs[j]? = some (.int a)) (he : Ev te σ H (.int b)) (k : ∀ H1, Ex H H1 → D.nx σ (upd H1 l (.lst (xs.set j (.int (f a b)))))) :
    tAugS ta tb te (rIxL K) (ipI f) rSetL D σ H := ho H (Ex.refl _) _ fun H1 e1 => hi H1 e1 _ fun H2 e2 => ⟨l, xs, (j : Int), .int a, rfl, rfl, sq_of (e2 _ _ (e1 _ _ hl)), atI_nat hj, he H2 (e1.trans e2) _ fun H3 e3 => ⟨a, b, rfl, rfl, l, xs, (j : Int), j, rfl, rfl, e3 _ _ (e2 _ _ (e1 _ _ hl)), ixN_nat (List.getElem?_eq_some_iff.mp hj).1, k H3 ((e1.trans e2).trans e3)⟩⟩
theorem q_augL {f : Int → Int → Int} {l : Addr} {xs : List V} {j : Nat} {a b : Int} (ho : Ev ta σ H (.ref l)) (hi : Ev tb σ H (.int (j : Int))) (hl : H l = some (.lst xs)) (hj : xs[j]? = some (.int a)) (he : Ev te σ H (.int b)) (k : ∀ H1, Ex H H1 → tz D σ (upd H1 l (.lst (xs.set j (.int (f a b)))))) :
    tSeq (tAugS ta tb te (rIxL K) (ipI f) rSetL) tz D σ H := s_augL (D := { D with nx := tz D }) ho hi hl hj he k
end
/-! ### heaps in which the objects of S may change -/
def Fr (S : Addr → Prop) (H H' : Hp) : Prop := ∀ a o, H a = some o → ¬ S a → H' a = some o
theorem Fr.of {S : Addr → Prop} {H H' : Hp} (e : Ex H H') : Fr S H H' := fun a o h _ => e a o h
theorem Fr.trans {S : Addr → Prop} {H H1 H2 : Hp} (e : Fr S H H1) (f : Fr S H1 H2) : Fr S H H2 := fun a o h n => f a o (e a o h n) n
theorem Fr.mut {S : Addr → Prop} {H H' : Hp} {p : Addr} {o : HO} (e : Fr S H H') (h : S p) : Fr S H (upd H' p o) := fun a u ha n => by
  rw [upd_ne fun z => n (by rw [z]; exact h)]
  exact e a u ha n
theorem Fr.fresh {S : Addr → Prop} {H H' : Hp} {p : Addr} (e : Fr S H H') (h : H' p = none) (n : ¬ S p) : H p = none := by
  cases h1 : H p with
  | none => rfl
  | some o =>
    rw [e p o h1 n] at h
    cases h
/-- what H0 has stays, when what changes is none of it -/
theorem Fr.ex {S : Addr → Prop} {H0 H H' : Hp} (e : Ex H0 H) (f : Fr S H H') (n : ∀ a, S a → H0 a = none) : Ex H0 H' := fun a o h => f a o (e a o h) fun s => by
  rw [n a s] at h
  cases h
/-- what is read stands when an instance changes -/
theorem mut_l {K : PySem.W.Frag} {H H1 : Hp} {p C dx a : Addr} {fs fs' : List (Str × V)} {xs : List V} (e : Ex H H1) (hp : H p = some (.ins C dx fs)) (h : SqL K H a xs) : SqL K (upd H1 p (.ins C dx fs')) a xs := by
  rcases h with (h | ⟨o, h⟩) | h
  · exact .inl (.inl (by rw [upd_ne (ne_of h hp (by intro z; cases z))]; exact e _ _ h))
  · exact .inl (.inr ⟨o, by rw [upd_ne (ne_of h hp (by intro z; cases z))]; exact e _ _ h⟩)
  · exact .inr h
theorem mut_t {K : PySem.W.Frag} {H H1 : Hp} {p C dx a : Addr} {fs fs' : List (Str × V)} {xs : List V} (e : Ex H H1) (hp : H p = some (.ins C dx fs)) (h : SqT K H a xs) : SqT K (upd H1 p (.ins C dx fs')) a xs := by
  rcases h with (h | ⟨o, h⟩) | h
  · exact .inl (.inl (by rw [upd_ne (ne_of h hp (by intro z; cases z))]; exact e _ _ h))
  · exact .inl (.inr ⟨o, by rw [upd_ne (ne_of h hp (by intro z; cases z))]; exact e _ _ h⟩)
  · exact .inr h
/-- list(a tuple) -/
theorem el_listT {K : PySem.W.Frag} {σ : L2.St} {H : Hp} {ta : TE} {p : Addr} {xs : List V} (ha : Ev ta σ H (.ref p)) (h : SqT K H p xs) : EvL (tCB (rListS K) (tCons ta tNil)) σ H xs := fun H1 e Q q =>
  ha H1 e _ fun H2 e2 => ⟨p, xs, rfl, Or.inr (ex_t (e.trans e2) h), fun l hl => q l _ (fresh_back e2 hl) (e2.trans (Ex.new hl)) upd_same⟩
/-! ### comprehensions over two lists at once -/
theorem el_lcZ {K : PySem.W.Frag} {σ : L2.St} {H : Hp} {a b : Addr} {xs ys : List V} {t : TA} {tt : TT} {te : TE} {i j : Nat} {vs : List Nat} (f : Nat → Bool) (v : Nat → V) (h : EvA t σ H [.ref a, .ref b]) (hx : SqL K H a xs) (hy : SqL K H b ys) (hlen : xs.length = ys.length) (hz : xs.length ≤ 40000)
    (hw : ∀ x y, wipe (((wipe σ vs).set i (some x)).set j (some y)) vs = wipe σ vs)
    (ht : ∀ (n : Nat) (x y : V) H1, Ex H H1 → xs[n]? = some x → ys[n]? = some y → EvT tt (((wipe σ vs).set i (some x)).set j (some y)) H1 (f n)) (he : ∀ (n : Nat) (x y : V) H1, Ex H H1 → xs[n]? = some x → ys[n]? = some y → f n = true → Ev te (((wipe σ vs).set i (some x)).set j (some y)) H1 (v n)) :
    EvL (tLc (iZip K t) (gTup K 2 (gCons (gName i) (gCons (gName j) gNil))) tt te vs) σ H (given xs.length f v) := fun H0 e Q q => h H0 e _ fun H1 e1 => ⟨a, b, xs, ys, rfl, ex_l (e.trans e1) hx, ex_l (e.trans e1) hy, fun Dl hD =>
  lc_it (walk_zip (K := K) (a := a) (b := b) (xs := xs) (ys := ys) (n := xs.length) (by omega)) (Cw H1 f v Dl) ⟨hD, Ex.new hD, upd_same⟩ (fun i H' _ p => ⟨ex_l ((e.trans e1).trans p.2.1) hx, ex_l ((e.trans e1).trans p.2.1) hy⟩)
    (fun n z H2 H2' hn p y => by
      obtain ⟨T, x1, y1, rfl, hT, rfl, h1, h2⟩ := y
      have p' : Cw H1 f v Dl n (upd H2 T (.tup [x1, y1])) := ⟨p.1, p.2.1.trans (Ex.new hT), (Ex.new hT) _ _ p.2.2⟩
      have e2 := ((e.trans e1).trans p'.2.1)
      refine ⟨T, _, rfl, st_of upd_same, rfl, _, _, rfl, _, _, rfl, rfl, hw x1 y1, cw_turn (H := H1) p' (by omega) ?_ ?_⟩
      · exact ht n x1 y1 H1 (e.trans e1) h1 h2
      · exact fun hf => he n x1 y1 H1 (e.trans e1) h1 h2 hf)
    (fun H' p => q Dl H' (fresh_back e1 p.1) (e1.trans p.2.1) p.2.2)⟩
end LO

set_option Elab.async false
set_option linter.all false
set_option maxRecDepth 100000
set_option maxHeartbeats 4000000
namespace LN
open PySem PySem.Spec PyProof.Rows L2 Evl LT LG LS LQ
section
variable {X : Cx} {σ : L2.St} {H : Hp} {P : Addr} {scope : Scope} {x : Str} {u : Value} {a b c : Expr} {za zb zc z : V} {pos p : Pos}
theorem qv_ixL {l : Addr} {xs : List V} {i : Int} (hT : Tab H P) (hq : SqL X.K H l xs) (he : atI xs i = some z) (h0 : 0 ≤ i) (ha : QV X σ H P scope x u a (.ref l)) (hb : QV X σ H P scope x u b (.int i)) (hs : PlainIx b := by intro _ _; rfl) : QV X σ H P scope x u (.Subscript a b pos) z := fun cenv A' E' s m F =>
  Subscript_ (qv_two (f := fun v w => subscriptTail a b v w) ha hb (fun cenv A' E' s2 m2 v w F2 r1 r2 => by
    cases r1
    obtain ⟨t, rfl⟩ := r2
    obtain ⟨its, r, pl, hz⟩ := F2.list hT hq
    obtain ⟨j, h1, h2, h3, h4, h5⟩ := atI_get he
    obtain ⟨w', ew, rw'⟩ := r.get h2
    have hl := r.length
    have hn := line63
    have hj : i.toNat = j := by
      rw [seqIndex_of h0 h5] at h1
      exact Option.some.inj h1
    exact item_listR pl.isList h0 (by omega) (by rw [hj]; simpa using ew) ⟨rw', kp_refl _⟩ (hs _ _)) cenv A' E' s m F)
theorem qv_ixT {l : Addr} {xs : List V} {i : Int} (hT : Tab H P) (hq : SqT X.K H l xs) (he : atI xs i = some z) (ha : QV X σ H P scope x u a (.ref l)) (hb : QV X σ H P scope x u b (.int i)) (hs : PlainIx b := by intro _ _; rfl) : QV X σ H P scope x u (.Subscript a b pos) z := fun cenv A' E' s m F =>
  Subscript_ (qv_two (f := fun v w => subscriptTail a b v w) ha hb (fun cenv A' E' s2 m2 v w F2 r1 r2 => by
    cases r1
    obtain ⟨t, rfl⟩ := r2
    obtain ⟨its, r, pl, hz⟩ := F2.tuple hT hq
    obtain ⟨j, h1, h2, h3, h4, h5⟩ := atI_get he
    obtain ⟨w', ew, rw'⟩ := r.get h2
    have hl := r.length
    have hn := line63
    exact subscriptTail_builtinR (x := w') pl.typeIs slot_tuple_getitem.lookup
      (getItem_tuple (j := j) (Q := fun r s' => r = w' ∧ (RelV z r ∧ Keeps s2 s')) pl (by omega) (by omega) (by rw [List.size_toArray, ← hl]; exact h1) (by simpa using ew) ⟨rfl, rw', kp_refl _⟩) (hs _ _)) cenv A' E' s m F)
theorem qr_ltT {l r : Addr} {ns ms : List Int} (hT : Tab H P) (hu : X.A.units + 8 < cLine) (ha : SqT X.K H l (ns.map V.int)) (hb : SqT X.K H r (ms.map V.int)) : QR X σ H P scope x u (compareOp .Lt) (.ref l) (.ref r) (.bl (HT.lexLt ns ms)) := fun cenv A' E' s m v w F r1 r2 => by
  cases r1
  cases r2
  obtain ⟨its, r1, p1, _⟩ := F.tuple hT ha
  obtain ⟨its2, r2, p2, _⟩ := F.tuple hT hb
  have i1 : IntsAre its.toArray.toList ns := intsAre_of r1
  have i2 : IntsAre its2.toArray.toList ms := intsAre_of r2
  exact HT.lt_tupInts p1 p2 i1 i2 (Nat.lt_of_le_of_lt F.un hu) ⟨rfl, kp_refl _⟩
theorem qr_lt_int {i j : Int} : QR X σ H P scope x u (compareOp .Lt) (.int i) (.int j) (.bl (decide (i < j))) := fun cenv A' E' s m v w F r1 r2 => by
  obtain ⟨t, rfl⟩ := r1
  obtain ⟨t', rfl⟩ := r2
  exact lt_int ⟨rfl, kp_refl _⟩
theorem qv_chain {op op' : CmpOp} {f g : Bool} (hr : QR X σ H P scope x u (compareOp op) za zb (.bl f)) (hr' : QR X σ H P scope x u (compareOp op') zb zc (.bl g)) (ha : QV X σ H P scope x u a za) (hb : QV X σ H P scope x u b zb) (hc : QV X σ H P scope x u c zc)
    (hm : lastMarks [op, op'] [b, c] = false := by with_unfolding_all rfl) : QV X σ H P scope x u (.Compare a [op, op'] [b, c] pos) (.bl (f && g)) := fun cenv A' E' s m F => by
  refine Compare_chain (wpAny_mono (ha cenv A' E' s m F) (fun v s1 r1 => chain_link (wpAny_mono (hb cenv A' E' s1 m (F.keeps r1.2)) (fun w s2 r2 => wpAny_mono (hr cenv A' E' s2 m v w ((F.keeps r1.2).keeps r2.2) r1.1 r2.1) (fun d s3 r3 => ?_) fun _ _ e => e) fun _ _ e => e)) fun _ _ e => e) hm
  obtain ⟨rfl, k3⟩ := r3
  have k := kp_trans (kp_trans r1.2 r2.2) k3
  refine wpAny_truthy_bool ?_
  cases f with
  | false => exact ite_ff ⟨rfl, k⟩
  | true => exact ite_tt (chain_last (wpAny_mono (hc cenv A' E' s3 m (F.keeps k)) (fun y s4 r4 => wpAny_mono (hr' cenv A' E' s4 m w y ((F.keeps k).keeps r4.2) r2.1 r4.1) (fun e s5 r5 => ⟨r5.1, kp_trans (kp_trans k r4.2) r5.2⟩) fun _ _ e => e) fun _ _ e => e))
/-- an own def of one argument, a pair that it unpacks; it returns one test of each part -/
theorem qv_call2 {nm pn qual ya yb : Str} {st : Stmt} {f : Addr} {fd : FuncData} {N : List Str} {e1 e2 : Expr} {py1 py2 tp np ap bp rp : Pos} {kt k : Nat} {t : Addr} {v1 v2 : V} {c1 c2 : Bool} (hr : Room k X.A) (hT : Tab H P) (hk : scope.kind = .function) (hl : scope.names.lookup nm = some .globalImplicit) (hm : X.mg nm = some (.ref f)) (F : Fun X.K nm qual st f fd)
    (hbody : defBody st = [.Assign [.Tuple [.Name ya py1, .Name yb py2] kt tp] (.Name pn np) ap, .Return (some (.BoolOp .And [e1, e2] bp)) rp]) (S : FnScope N [pn] (defScope st)) (hloc : (defScope st).names.lookup pn = some .local) (hla : (defScope st).names.lookup ya = some .local) (hlb : (defScope st).names.lookup yb = some .local) (hab : ya ≠ yb)
    (hb : Binds X.K fd [pn] []) (ha : QV X σ H P scope x u a (.ref t)) (ht : SqT X.K H t [v1, v2])
    (h1 : ∀ (A0 : Around) (v : Value), RelV v1 v → QV { X with A := A0 } σ H P (defScope st) ya v e1 (.bl c1)) (h2 : ∀ (A0 : Around) (v : Value), RelV v2 v → QV { X with A := A0 } σ H P (defScope st) yb v e2 (.bl c2))
    (hs : ∀ env, starEach [a] env = (false, eval a env) :: starEach [] env := by intro _; rfl) (hd : (nm == ("__debug__" : Str)) = false := by decide) (hdp : (pn == ("__debug__" : Str)) = false := by decide) :
    QV X σ H P scope x u (.Call (.Name nm p) [a] [] pos) (.bl (c1 && c2)) := fun cenv A' E' s m Fc0 => by
  refine wpAny_Call_Name_kw (Calls.Name_function_global (by rw [Fc0.sc]; exact hk) (show cenv.scope.names.lookup nm = some .globalImplicit by rw [Fc0.sc]; exact hl) (Calls.loadGlobal_global (by rw [Fc0.gl]; exact Fc0.md.glob.keeps Fc0.base) hm ?_) hd)
  refine PySem.W.callWith_K (h₀ := X.base) Fc0.md.kin F.kp ?_ (hs cenv) (by rfl)
  rw [hs cenv]
  show wpAny _ _ (spliced ((false, eval a cenv) :: [])) _ _ s
  refine Calls.spliced_cons (wpAny_mono (ha cenv A' E' s m Fc0) (fun v s1 r1 => Calls.spliced_nil ?_) fun _ _ e => e)
  have F1 := Fc0.keeps r1.2
  refine ⟨F1.kin, ?_⟩
  obtain ⟨oc, od, kV, doc, pm, an, cdv, ct, osl, rfl, lk, hcd⟩ := F.ex
  have rv := r1.1
  refine wpAny_call (Att.call_fn (binds := [(pn, v)]) F1.kin (F1.md.nolimit.keeps F1.base) lk hcd (by have := hr.dp; have := Fc0.dp; omega) (hb s1 [v] F1.kin rfl) ?_ (fun s2 IC => ?_) S.co S.gen S.kind)
  · simp only [List.all_cons, List.all_nil, Bool.and_true, Bool.or_eq_true, beq_iff_eq]
    exact .inl hloc
  · obtain ⟨h2', tk2, rfl⟩ := IC.toInCall.same
    have kk : ∀ b o, s1.heap.get? b = some o → h2'.get? b = some o := IC.toInCall.keep
    rw [hbody]
    have Fn : Fc { X with A := A' } σ H P (defScope st) pn v (envOfC qual (defScope st) s1.heap.objs.size f cdv) (A'.deeper (envOfC qual (defScope st) s1.heap.objs.size f cdv)) { s1 with heap := h2', toks := tk2 } _ :=
      ⟨Fc0.hd, Nat.le_refl _, by show A'.units + 3 ≤ A'.units + 8; omega, rfl, rfl, rfl, IC.toInCall.ns, by
        show bindL _ [(pn, v)] _ pn = some v
        unfold bindL
        have hkd : (envOfC qual (defScope st) s1.heap.objs.size f cdv).kindOf pn = some .local := hloc
        rw [hkd]
        simp [bindL], fun b o e => kk b o (F1.base b o e), F1.md, F1.hok.kept kk, fun i y w h1 h2 h3 h4 => absurd rfl (S.nofree (y, .free) (lookup_mem' h4))⟩
    cases rv
    obtain ⟨its, ri, tup, _⟩ := Fn.tuple hT ht
    cases ri with
    | cons ra rr =>
      rename_i w1 wr
      cases rr with
      | cons rb rn =>
        rename_i w2 wn
        cases rn
        refine wpAny_execs_cons (Assign_Tuple (wpAny_mono (qv_x (X := { X with A := A' }) S.kind hloc (show RelV (.ref t) (.ref t) from rfl) hdp _ _ _ _ _ Fn) (fun y s3 r3 => ?_) fun _ _ e => e))
        obtain ⟨ry, h3, tk3, rfl, k3⟩ := r3
        cases ry
        refine assign_Tuple_tuple Fn.hd (tup.keeps k3) (by rfl) (by rfl) fun h4 hx4 => ?_
        have kL : ∀ b o, s1.heap.get? b = some o → b ≠ s1.heap.objs.size := fun b o e => Nat.ne_of_lt (Heap.lt_size e)
        have kx : ∀ b o, h3.get? b = some o → h4.get? b = some o := fun b o e => hx4 b o (Nat.ne_of_lt (Heap.lt_size e)) e
        have n4 := ((Fn.keeps ⟨h3, tk3, rfl, k3⟩).keeps (s₃ := { s1 with heap := h4, toks := tk3 }) ⟨h4, tk3, rfl, kx⟩).ns
        refine assignInOrder_cons (assign_Name (wpAny_storeName_local hla n4 (fun h5 n5 b5 => ?_) (by simp [envOfC, S.kind])))
        refine assignInOrder_cons (assign_Name (wpAny_storeName_local hlb n5 (fun h6 n6 b6 => ?_) (by simp [envOfC, S.kind])))
        refine assignInOrder_nil ?_
        have k6 : ∀ b o, s1.heap.get? b = some o → h6.get? b = some o := fun b o e => b6.extBut b o (kL b o e) (b5.extBut b o (kL b o e) (kx b o (k3 b o (kk b o e))))
        have FF : ∀ (y : Str) (w : Value), (if y = yb then some w2 else if y = ya then some w1 else none) = some w → Fc { X with A := A' } σ H P (defScope st) y w (envOfC qual (defScope st) s1.heap.objs.size f cdv) (A'.deeper (envOfC qual (defScope st) s1.heap.objs.size f cdv)) { s1 with heap := h6, toks := tk3 + 1 + 1 } _ := fun y w e => by
          refine ⟨Fc0.hd, Nat.le_refl _, (by show A'.units + 3 ≤ A'.units + 8; omega), rfl, rfl, rfl, n6, ?_, fun b o e => k6 b o (F1.base b o e), F1.md, F1.hok.kept k6, fun i y w h1 h2 h3 h4 => absurd rfl (S.nofree (y, .free) (lookup_mem' h4))⟩
          show (if y = yb then some w2 else if y = ya then some w1 else _) = some w
          by_cases q1 : y = yb
          · rw [if_pos q1] at e ⊢
            exact e
          · rw [if_neg q1] at e ⊢
            by_cases q2 : y = ya
            · rw [if_pos q2] at e ⊢
              exact e
            · rw [if_neg q2] at e
              cases e
        refine wpAny_execs_cons (wpAny_Return_some (BoolOp_and (wpAny_mono (h1 A' w1 ra _ _ _ _ _ (FF ya w1 (by rw [if_neg hab, if_pos rfl]))) (fun y s7 r7 => ?_) fun _ _ e => e)))
        obtain ⟨rfl, k7⟩ := r7
        refine wpAny_truthy_bool ?_
        have kA := kp_trans r1.2 (kp_trans (s1 := { s1 with heap := h6, toks := tk3 + 1 + 1 }) ⟨h6, _, rfl, k6⟩ k7)
        cases c1 with
        | true => exact BoolOp_one (wpAny_mono (h2 A' w2 rb _ _ _ _ _ ((FF yb w2 (if_pos rfl)).keeps k7)) (fun y s8 r8 => ⟨r8.1, kp_trans kA r8.2⟩) fun _ _ e => e)
        | false => exact ⟨rfl, kA⟩
end
/-! ### a list of pairs is walked -/
def SrcT (K : PySem.W.Frag) (H : Hp) (v : V) (n : Nat) (xs : Nat → V) : Prop := ∃ (a : Addr) (l : List V), v = .ref a ∧ SqL K H a l ∧ n = l.length ∧ ∀ i, i < n → ∃ (T : Addr) (y : V), l[i]? = some (.ref T) ∧ SqT K H T [y, xs i]
section
variable {X : Cx} {pins : List (Addr × Obj)} {σ : L2.St} {H : Hp} {s : Shared}
theorem src_iterT {v : V} {xv : Value} {n : Nat} {xs : Nat → V} {P : Addr} {Q : Value → Shared → Prop} {E : Value → Shared → Prop} (S : SrcT X.K H v n xs) (I : Inv X pins σ H s) (r : RelV v xv) (hT : Tab H P)
    (h : ∀ (o : Obj) (fp : List Addr) (Pf : Nat → Array Value → Prop) (St : Nat → Heap → Prop) (Mid : Nat → Addr → Heap → Prop), (∀ i va vb, Pf i #[va, vb] → i < n ∧ RelV (xs i) vb) → (∀ A' : Around, A'.handled = none → WalksU X.prog X.w A' s.heap.objs.size fp [s.heap.objs.size] n Pf St Mid) → (∀ i vals, Pf i vals → ∃ va vb, vals = #[va, vb]) →
      St 0 (s.heap.push o) → (∀ b ∈ fp, b ≤ s.heap.objs.size ∧ b ≠ P) → Q (.ref s.heap.objs.size) { s with heap := s.heap.push o }) : wpAny (model X.prog X.w) X.A (pyIter xv) Q E s := by
  have Plt : P < s.heap.objs.size := Heap.lt_size (hT.of_ok I.hok).choose_spec.1
  have szP : s.heap.objs.size ≠ P := fun z => Nat.lt_irrefl _ (z ▸ Plt : s.heap.objs.size < s.heap.objs.size)
  obtain ⟨a, l, rfl, hl, rfl, hx⟩ := S
  cases r
  obtain ⟨its, rv, pl, _⟩ := I.list hl
  have hal : a < s.heap.objs.size := let ⟨_, e, _⟩ := pl.isList; Heap.lt_size e
  have naP : a ≠ P := fun e => by
    obtain ⟨ps, e1, _⟩ := hT.of_ok I.hok
    obtain ⟨o, n, e2, e3, _, e4⟩ := pl
    rw [e, e1] at e2
    cases e2
    cases e3
  have hne : a ≠ s.heap.objs.size := Nat.ne_of_lt hal
  have en : its.toArray.size = l.length := by rw [List.size_toArray]; exact rv.length.symm
  have ev : ∀ i : Nat, ∃ (T : Addr) (va vb : Value), i < l.length → its.toArray[i]? = some (.ref T) ∧ IsTup s.heap T #[va, vb] ∧ RelV (xs i) vb := fun i => by
    by_cases hi : i < l.length
    · obtain ⟨T, y, e1, e2⟩ := hx i hi
      obtain ⟨w, ew, rw'⟩ := rv.get e1
      cases rw'
      obtain ⟨js, rj, tj, _⟩ := I.tuple e2
      cases rj with
      | cons ra rr =>
        rename_i w1 wr
        cases rr with
        | cons rb rn =>
          rename_i w2 wn
          cases rn
          exact ⟨T, w1, w2, fun _ => ⟨by simpa using ew, tj, rb⟩⟩
    · exact ⟨0, .none, .none, fun h => absurd h hi⟩
  refine wpAny_pyIter_list pl.isList ?_
  let Ts : Nat → Addr := fun i => (ev i).choose
  let va : Nat → Value := fun i => (ev i).choose_spec.choose
  let vb : Nat → Value := fun i => (ev i).choose_spec.choose_spec.choose
  have sp : ∀ i, i < l.length → its.toArray[i]? = some (.ref (Ts i)) ∧ IsTup s.heap (Ts i) #[va i, vb i] ∧ RelV (xs i) (vb i) := fun i => (ev i).choose_spec.choose_spec.choose_spec
  have tlt : ∀ i, i < l.length → Ts i < s.heap.objs.size := fun i hi => (sp i hi).2.1.lt
  have tnP : ∀ i, i < l.length → Ts i ≠ P := fun i hi e => by
    obtain ⟨ps, e1, _⟩ := hT.of_ok I.hok
    obtain ⟨o, e2, e3, _⟩ := (sp i hi).2.1
    rw [e, e1] at e2
    cases e2
    cases e3
  refine h _ (s.heap.objs.size :: a :: (List.range its.toArray.size).map Ts) (fun j v => j < l.length ∧ v = #[va j, vb j]) (fun j h => h.IsListIter s.heap.objs.size a j ∧ h.IsList a its.toArray ∧ ∀ k, k < its.toArray.size → h.IsTuple (Ts k) #[va k, vb k]) (fun j T h => (j < its.toArray.size ∧ T = Ts j) ∧ h.IsListIter s.heap.objs.size a (j + 1) ∧ h.IsList a its.toArray ∧ ∀ k, k < its.toArray.size → h.IsTuple (Ts k) #[va k, vb k]) (fun i wa wb hp => ?_) (fun A' hA => ?_) (fun i vals hp => ⟨_, _, hp.2⟩) ⟨⟨_, Heap.get?_push_size _ rfl, rfl, rfl⟩, pl.isList.at fun o e => Heap.get?_push_of_some _ e, fun k hk => ?_⟩ fun b hb => ?_
  · obtain ⟨hi, e⟩ := hp
    have e2 : wb = vb i := (by simpa using congrArg Array.toList e : wa = va i ∧ wb = vb i).2
    rw [e2]
    exact ⟨hi, (sp i hi).2.2⟩
  · have W := WalksU.listOfTuples (prog := X.prog) (w := X.w) hA s.heap.objs.size a hne its.toArray Ts (fun i => #[va i, vb i]) (fun j hj => (sp j (by rw [← en]; exact hj)).1) (fun j hj => Nat.ne_of_lt (tlt j (by rw [← en]; exact hj)))
    rw [← en]
    exact ⟨W.sub, W.frame, fun i s Q E hi st hQ => W.item i s Q E hi st fun T vals h' tk hv => hQ T vals h' tk ⟨hi, hv⟩, W.go, W.apart, W.done, W.self⟩
  · exact Heap.IsTuple.at ((sp k (by rw [← en]; exact hk)).2.1) fun o e => Heap.get?_push_of_some _ e
  · rcases List.mem_cons.mp hb with e | hb
    · rw [e]
      exact ⟨Nat.le_refl _, szP⟩
    · rcases List.mem_cons.mp hb with e | hb
      · rw [e]
        exact ⟨Nat.le_of_lt hal, naP⟩
      · obtain ⟨i, hi, rfl⟩ := List.mem_map.mp hb
        have hi' : i < l.length := by rw [← en]; exact List.mem_range.mp hi
        exact ⟨Nat.le_of_lt (tlt i hi'), tnP i hi'⟩
theorem gen_makeT {c P : Addr} {elt iter : Expr} {xa x : Str} {pa px pt gpos : Pos} {kt : Nat} {scope : Scope} {te : TE} {k : Nat} {Q' : Value → Shared → Prop} {R : Nat → (Nat → Bool) → Hp → Prop}
    (hr : Room k X.A) (TB : LamX.TabB X.base X.mg c P) (hcode : X.env.code = .ref c) (S : GxR.GenS X.env scope x) (hxa : scope.names.lookup xa = some .local) (hab : xa ≠ x) (hi : PE X iter te) (hs : ∀ v, genFold iter X.env v = pure v) (I : Inv X pins σ H s)
    (h : te σ H fun v H1 => Tab H1 P ∧ ∃ (n : Nat) (xs : Nat → V) (f : Nat → Bool), SrcT X.K H1 v n xs ∧ (∀ i u, i < n → RelV (xs i) u → QV X σ H1 P scope x u elt (.bl (f i))) ∧ R n f H1)
    (hQ : ∀ n f H1 g s5, R n f H1 → RdyG X pins σ H1 n f g s5 → Q' (.ref g) s5) :
    wpAny (model X.prog X.w) X.A (eval (.GeneratorExp elt [⟨.Tuple [.Name xa pa, .Name x px] kt pt, iter, [], 0⟩] scope gpos) X.env) Q' X.xe s := by
  refine wpAny_GeneratorExp_walksQTD hr.hd S.co (closure_ok S.free) S.cell S.dot hxa S.loc hab S.kind hr.depth ?_ hs
  refine thn (hi.run pins s σ H _ I h) fun xv s1 ⟨v, H1, I1, r1, hT, n, xs, f, hsrc, hel, hR⟩ => ?_
  refine src_iterT hsrc I1 r1 hT fun o fp Pf St Mid hPf hW hsz2 hst hfp => ?_
  obtain ⟨ps, hPs, ht⟩ := hT.of_ok I1.hok
  have hPlt : P < s1.heap.objs.size := Heap.lt_size hPs
  have hP2 : (s1.heap.push o).get? P = some { cls := .none, data := .fields ps } := Heap.get?_push_of_some _ hPs
  have cd : PySem.W.CodeHd (s1.heap.push o) c P := TB.code.keeps fun b u e => Heap.get?_push_of_some _ (I1.bk b u e)
  have lim2 : (s1.heap.push o).NoLimit := I1.nolimit.push o
  have hcP : cStatics ≠ P := fun e => by
    obtain ⟨_, ⟨o', es, ep, ho, hd, _⟩, _⟩ := I1.nolimit
    rw [e, hPs] at ho
    cases ho
    cases hd
  have hcl : cStatics < s1.heap.objs.size := let ⟨_, hns, _⟩ := I1.nolimit; hns.lt
  have sz2 : (s1.heap.push o).objs.size = s1.heap.objs.size + 1 := Heap.size_push ..
  have nTb : ∀ b, H1 b = none → b ≠ P := fun b e z => by
    rw [z, hT] at e
    cases e
  -- what is left once the code object is known
  have go : ∀ (code : Value) (h3 : Heap) (tk : Nat) (ps' : Array Value), Heap.ExtBut P (s1.heap.push o) h3 → (s1.heap.push o).objs.size ≤ h3.objs.size → h3.get? P = some { cls := .none, data := .fields ps' } → TriplesOk ps'.toList →
      wpAny (model X.prog X.w) X.A (builtinsFor X.env.globals X.env.builtins) (fun bi s₄ => ∃ I fp wr n₀ Pg St₀ Mid pz F, Value.ref s1.heap.objs.size = .ref I ∧ (∀ A' : Around, A'.handled = none → WalksU X.prog X.w A' I fp wr n₀ Pg St₀ Mid) ∧ (∀ i vals, Pg i vals → ∃ va vb, vals = #[va, vb]) ∧ St₀ 0 s₄.heap ∧ (∀ b ∈ fp, b < s₄.heap.objs.size) ∧ s₄.heap.NoLimit ∧ cStatics ∉ wr ∧
          (∀ href : Heap, (∀ b o, s₄.heap.get? b = some o → href.get? b = some o) → QuietGenTD X.prog X.w (genEnv scope (cloFrom X.env.cells scope.names []) s₄.heap.objs.size code bi X.env) xa x [] elt (List.range s₄.heap.objs.size) wr Pg pz F href (X.A.depth + 1) (X.A.units + 8)) ∧
          (∀ a h₅ tk gs, gs.bare = true → s₄.heap.objs.size < a → h₅.objs.size = a + 1 → (∀ b o, s₄.heap.get? b = some o → h₅.get? b = some o) →
            WalksS X.prog X.w X.A.in4 a (a :: s₄.heap.objs.size :: List.range s₄.heap.objs.size) (s₄.heap.objs.size :: wr) (GenOnlyQ s₄.gens.size) (passing pz n₀ 0).length (fun j y => ∃ i, (passing pz n₀ 0)[j]? = some i ∧ F i y) (GenAt X.prog X.w X.A.in4 a s₄.gens.size s₄.heap.objs.size (List.range s₄.heap.objs.size) wr pz n₀ F) →
            GenAt X.prog X.w X.A.in4 a s₄.gens.size s₄.heap.objs.size (List.range s₄.heap.objs.size) wr pz n₀ F 0 { s₄ with gens := s₄.gens.push gs, toks := tk, heap := h₅ } →
            Q' (.ref a) { s₄ with gens := s₄.gens.push gs, toks := tk, heap := h₅ })) X.xe { s1 with heap := h3, toks := tk } := by
    intro code h3 tk ps' hx hsz hP3 ht3
    obtain ⟨bm, ob, e1, e2, e3, e4, e5, e6, e7, e8⟩ := TB.bm
    have keep3 : ∀ b u, b ≠ P → s1.heap.get? b = some u → h3.get? b = some u := fun b u hb e => hx b u hb (Heap.get?_push_of_some _ e)
    refine wpAny_builtinsFor (m := X.mg) (by rw [I1.ok.glob]; exact ((I1.mod.glob.keeps I1.bk).push o).extBut hx TB.gP) e1 e2 (keep3 _ _ e4 (I1.bk _ _ e5)) e6 e7 e8 ?_
    have hsz3 : s1.heap.objs.size < h3.objs.size := by omega
    refine ⟨s1.heap.objs.size, fp, [s1.heap.objs.size], n, Pf, St, Mid, fun _ => true, fun i y => y = .bool (f i), rfl, hW, hsz2, ?_, fun b hb => Nat.lt_of_le_of_lt (hfp b hb).1 hsz3, lim2.extBut hx hcP, ?_, ?_, ?_⟩
    · exact (hW X.A hr.hd).frame _ _ _ hst fun b hb u e => hx b u (hfp b hb).2 e
    · intro z
      rw [List.mem_singleton.mp z] at hcl
      exact Nat.lt_irrefl _ hcl
    · intro href hhref
      refine ⟨fun A' E' i va v s₂ m₂ hA hD hU hPv hn hma hm hk => ?_, fun A' E' i va v s₂ m₂ hA hD hU hPv hp hn hma hm hk => ?_⟩
      · simp only [List.forIn_nil]
        exact wpAny_pure ⟨rfl, kp_refl _⟩
      · have kept : ∀ b u, b ≠ P → s1.heap.get? b = some u → s₂.heap.get? b = some u := fun b u hb e => by
          have hlt := Heap.lt_size e
          refine hk b (List.mem_range.mpr ?_) (fun z => ?_) u (hhref b u (keep3 b u hb e))
          · show b < h3.objs.size
            exact Nat.lt_trans hlt hsz3
          · rw [List.mem_singleton.mp z] at hlt
            exact Nat.lt_irrefl _ hlt
        refine wpAny_mono (hel i v (hPf i va v hPv).1 (hPf i va v hPv).2 _ A' E' s₂ m₂ ⟨hA, hD, hU, rfl, I1.ok.glob, rfl, hn, hm, fun b u e => kept b u (nTb b (I1.bs b u e).2) (I1.bk b u e), I1.mod, fun b u e => ?_, fun j y w hN hσ hv hfr => ?_⟩) (fun y s3 r => ⟨r.1, r.2⟩) fun _ _ e => e
        · have hb : b ≠ P := fun z => by
            rw [z] at e
            unfold but at e
            rw [if_pos rfl] at e
            cases e
          rw [but_ne hb] at e
          refine (I1.hok b u e).stay (fun d w hd q => kept d w ?_ q) (fun d q => ?_) fun d ys q => ?_
          · rcases hd with z | z
            · rw [z]
              exact hb
            · intro e2
              rw [e2, hT] at z
              cases z
          · rw [but_ne fun e2 => by rw [e2, hT] at q; cases q]
            exact q
          · rw [but_ne fun e2 => by rw [e2, hT] at q; cases q]
            exact q
        · obtain ⟨m, hn1, hl⟩ := I1.loc
          obtain ⟨r, rv, l⟩ := hl j y w hN hσ (hv.elim (fun z => Or.inr (Or.inl z)) (fun z => Or.inr (Or.inr z)))
          rcases l with ⟨z, _⟩ | ⟨_, cc, hc, oc, he, hd⟩
          · rcases hv with z2 | z2
            · rw [z] at z2; cases z2
            · rw [z] at z2; cases z2
          · exact ⟨r, cc, rv, clo_lookup (lookup_mem' hfr) hc, oc, kept cc oc (nTb cc (I1.freeC y cc hc)) he, hd⟩
    · intro g h5 tk5 gs hgb hag hsz5 hk5 W5 hat
      simp only [GxR.passing_true, List.length_range] at W5
      refine hQ n f H1 g _ hR ⟨_, _, _, _, _, W5.in4_1, hat, fun j y sj Qj Ej hy hQj => ?_, fun s' hm => ?_⟩
      · obtain ⟨i, hij, rfl⟩ := hy
        obtain ⟨hj, ej⟩ := List.getElem?_eq_some_iff.mp hij
        rw [List.getElem_range] at ej
        subst ej
        exact wpAny_truthy_bool hQj
      · have nwr : ∀ b u, s1.heap.get? b = some u → b ∉ h3.objs.size :: [s1.heap.objs.size] := fun b u e hb => by
          have hl := Heap.lt_size e
          rcases List.mem_cons.mp hb with z | z
          · rw [z] at hl
            exact Nat.lt_irrefl _ (Nat.lt_trans hl hsz3)
          · rw [List.mem_singleton.mp z] at hl
            exact Nat.lt_irrefl _ hl
        exact inv_grown I1 hT (fun b u hb e => hm.heap b u (nwr b u e) (hk5 b u (keep3 b u hb e))) ⟨ps', hm.heap P _ (nwr P _ hPs) (hk5 P _ hP3), ht3⟩ hm.os (AllBare.movedS (I1.bare.push hgb) hm)
  refine ⟨lim2, ?_⟩
  cases hf : codeAmong gpos ps.toList with
  | some cv => exact wpAny_genexprCode_hit hcode (cd.code hP2 ht) hf (go cv (s1.heap.push o) s1.toks ps (Heap.ExtBut.refl _ _) (Nat.le_refl _) hP2 ht)
  | none =>
    refine wpAny_genexprCodeX hcode (cd.code hP2 ht) (cd.tab hP2) hf fun c' h' tk hx hge hlt hco' _ htab' _ => ?_
    obtain ⟨_, _, _, _, _, _, _, _, _, _, _, _, _, _, _, _, _, _, _, htr, _⟩ := hco'
    exact go _ h' tk _ hx (Nat.le_trans hge (Nat.le_of_lt hlt)) htab'.2 htr
def tGenT (X : Cx) (P : Addr) (scope : Scope) (x : Str) (elt : Expr) (fin : Nat → (Nat → Bool) → Bool) (te : TE) : TE := fun σ H Q => te σ H fun v H1 => Tab H1 P ∧ ∃ (n : Nat) (xs : Nat → V) (f : Nat → Bool), SrcT X.K H1 v n xs ∧ (∀ i u, i < n → RelV (xs i) u → QV X σ H1 P scope x u elt (.bl (f i))) ∧ Q (.bl (fin n f)) H1
theorem pe_allT {c P : Addr} {elt iter : Expr} {xa x : Str} {pa px pt p pos gpos : Pos} {kt : Nat} {scope : Scope} {te : TE} {k : Nat} (hr : Room k X.A) (hg : Gl X "all") (hm : X.mg "all" = none) (hb : bootBuiltins "all" = some (.builtin "all")) (TB : LamX.TabB X.base X.mg c P) (hcode : X.env.code = .ref c) (S : GxR.GenS X.env scope x) (hxa : scope.names.lookup xa = some .local) (hab : xa ≠ x)
    (hi : PE X iter te) (hs : ∀ v, genFold iter X.env v = pure v)
    (he : starEach [.GeneratorExp elt [⟨.Tuple [.Name xa pa, .Name x px] kt pt, iter, [], 0⟩] scope gpos] X.env = (false, eval (.GeneratorExp elt [⟨.Tuple [.Name xa pa, .Name x px] kt pt, iter, [], 0⟩] scope gpos) X.env) :: starEach [] X.env := by rfl) :
    PE X (.Call (.Name "all" p) [.GeneratorExp elt [⟨.Tuple [.Name xa pa, .Name x px] kt pt, iter, [], 0⟩] scope gpos] [] pos) (tGenT X P scope x elt allF te) := by
  refine ⟨fun pins s σ H Q I h => wpAny_Call_Name_kw (ld_blt I hg hm hb (PyProof.Rows.callWith_builtin1 ?_ he (by rfl)))⟩
  rw [he]
  show wpAny _ _ (spliced ((false, eval (.GeneratorExp elt [⟨.Tuple [.Name xa pa, .Name x px] kt pt, iter, [], 0⟩] scope gpos) X.env) :: backTo pos (starEach [] X.env))) _ _ s
  refine Calls.spliced_cons (gen_makeT (R := fun n f H1 => Q (.bl (allF n f)) H1) hr TB hcode S hxa hab hi hs I h fun n f H1 g s5 hR ⟨fp, wr, G, F, St₁, W, hst, htr, hI⟩ => Calls.spliced_nil ?_)
  exact call_all_walkS (W.self 0 _ _ _ hst ⟨g, fp, wr, G, _, F, St₁, _, rfl, W, hst, htr, fun s' hmv => ⟨.bl _, H1, hI s' hmv, rfl, hR⟩⟩)
end
section
variable {X : Cx}
theorem cr_range1 : CallR X (.type "range") (fun vs H Q => ∃ i, vs = [V.int i] ∧ ∀ p, H p = none → Q (.ref p) (upd H p (.rng 0 i))) := by
  intro pins s σ H vs us Q I r h
  obtain ⟨i, rfl, q⟩ := h
  cases r with
  | cons ri rn =>
    cases rn
    obtain ⟨t, rfl⟩ := ri
    refine call_range_1 ⟨.ref s.heap.objs.size, upd H s.heap.objs.size (.rng 0 i), I.laid (t' := _) (fun b o e => Heap.get?_push_of_some _ e) (Nat.le_refl _) ?_, rfl, q _ (I.hok.fresh (Nat.le_refl _))⟩
    exact ⟨_, _, _, Heap.get?_push_size _ rfl⟩
end
section
variable {K : PySem.W.Frag} {σ : L2.St} {H : Hp} {ta tb tc te : TE}
theorem ev_chain {f g : Int → Int → Bool} {i j k : Int} (ha : Ev ta σ H (.int i)) (hb : Ev tb σ H (.int j)) (hc : Ev tc σ H (.int k)) : Ev (tChain (rI0 fun i j => .bl (f i j)) (rI0 fun i j => .bl (g i j)) ta tb tc) σ H (.bl (f i j && g j k)) := fun H1 e Q q =>
  ha H1 e _ fun H2 e2 => hb H2 (e.trans e2) _ fun H3 e3 => ⟨i, j, rfl, rfl, f i j, rfl, by
    cases hf : f i j with
    | true =>
      rw [if_pos rfl]
      refine hc H3 ((e.trans e2).trans e3) _ fun H4 e4 => ⟨j, k, rfl, rfl, ?_⟩
      have := q H4 ((e2.trans e3).trans e4)
      rw [hf] at this
      exact this
    | false =>
      rw [if_neg Bool.false_ne_true]
      have := q H3 (e2.trans e3)
      rw [hf] at this
      exact this⟩
variable {X : Cx} {P : Addr} {scope : Scope} {x : Str} {elt : Expr} {fin : Nat → (Nat → Bool) → Bool}
/-- a generator expression over range(n) -/
theorem ev_genR {n : Int} {f : Nat → Bool} (h : Ev te σ H (.int n)) (hb : -(2 ^ 62) ≤ n ∧ n < 2 ^ 62) (hT : Tab H P) (he : ∀ H1, Ex H H1 → ∀ (i : Nat) u, (i : Int) < n → RelV (.int (i : Int)) u → QV X σ H1 P scope x u elt (.bl (f i))) :
    Ev (tGen X P scope x elt fin (tCB (fun vs H Q => ∃ i, vs = [V.int i] ∧ ∀ p, H p = none → Q (.ref p) (upd H p (.rng 0 i))) (tCons te tNil))) σ H (.bl (fin n.toNat f)) := fun H1 e Q q =>
  h H1 e _ fun H2 e2 => ⟨n, rfl, fun p hp => by
    have e3 := Ex.new (o := HO.rng 0 n) hp
    refine ⟨((hT.mono e).mono e2).mono e3, n.toNat, fun i => .int (0 + (i : Int)), f, .inr (.inr ⟨p, 0, n, rfl, upd_same, by rw [Int.sub_zero], by decide, by decide, hb.1, hb.2, fun i => rfl⟩), fun i u hi hu => he _ ((e.trans e2).trans e3) i u (by omega) (by have hu2 : RelV (.int (0 + (i : Int))) u := hu; rw [Int.zero_add] at hu2; exact hu2), q _ (e2.trans e3)⟩⟩
/-- a generator expression over a new list -/
theorem ev_genL {xs : List V} {f : Nat → Bool} (h : EvL te σ H xs) (hT : Tab H P) (he : ∀ H1, Ex H H1 → ∀ i u, i < xs.length → RelV (xs.getD i .non) u → QV X σ H1 P scope x u elt (.bl (f i))) :
    Ev (tGen X P scope x elt fin te) σ H (.bl (fin xs.length f)) := fun H1 e Q q =>
  h H1 e _ fun p H2 hp e2 h2 => ⟨hT.mono (e.trans e2), xs.length, fun i => xs.getD i .non, f, .inl ⟨p, xs, rfl, sq_of h2, rfl, fun i => rfl⟩, fun i u hi hu => he H2 (e.trans e2) i u hi hu, q H2 e2⟩
/-- over a list of pairs -/
theorem ev_genT {v : V} {n : Nat} {xs : Nat → V} {f : Nat → Bool} (h : Ev te σ H v) (hT : Tab H P) (hs : ∀ H1, Ex H H1 → SrcT X.K H1 v n xs) (he : ∀ H1, Ex H H1 → ∀ i u, i < n → RelV (xs i) u → QV X σ H1 P scope x u elt (.bl (f i))) :
    Ev (tGenT X P scope x elt fin te) σ H (.bl (fin n f)) := fun H1 e Q q => h H1 e _ fun H2 e2 => ⟨hT.mono (e.trans e2), n, xs, f, hs H2 (e.trans e2), he H2 (e.trans e2), q H2 e2⟩
/-- tuple(new list) -/
theorem eu_tupL {xs : List V} (h : EvL te σ H xs) : EvU (tCB (fun zs H Q => ∃ p ys, zs = [.ref p] ∧ ((SqL K H p ys ∧ ∀ l, H l = none → Q (.ref l) (upd H l (.tup ys))) ∨ (SqT K H p ys ∧ Q (.ref p) H))) (tCons te tNil)) σ H xs := fun H1 e Q q =>
  h H1 e _ fun p H2 hp e2 h2 => ⟨p, xs, rfl, .inl ⟨sq_of h2, fun l hl => q l _ (fresh_back e2 hl) (e2.trans (Ex.new hl)) upd_same⟩⟩
end
end LN

set_option Elab.async false
set_option linter.all false
set_option maxRecDepth 100000
set_option maxHeartbeats 4000000
namespace LP
open PySem PySem.Spec PyProof.Rows L2 Evl LT LG LS LX LO
/-! ### comprehensions whose elements are new objects: R i (those before) y heap -/
abbrev Rel := Nat → List V → V → Hp → Prop
def Mon (R : Rel) : Prop := ∀ i xs y H H', Ex H H' → R i xs y H → R i xs y H'
def EvR (te : TE) (σ : L2.St) (H : Hp) (n : Nat) (R : Rel) : Prop := ∀ H1, Ex H H1 → ∀ Q : VK, (∀ L xs H2, H1 L = none → Ex H1 H2 → H2 L = some (.lst xs) → xs.length = n → (∀ i y, xs[i]? = some y → R i (xs.take i) y H2) → Q (.ref L) H2) → te σ H1 Q
theorem but_ex {D : Addr} {H : Hp} : Ex (but D H) H := fun a o h => by
  unfold but at h
  split at h
  · cases h
  · exact h
theorem ex_but {D : Addr} {H H' : Hp} (e : Ex H H') : Ex (but D H) (but D H') := fun a o h => by
  unfold but at h ⊢
  split at h
  · cases h
  · rename_i n
    rw [if_neg n]
    exact e a o h
theorem but_upd {D : Addr} {H : Hp} {o : HO} : but D (upd H D o) = but D H := funext fun a => by
  unfold but
  split
  · rfl
  · rename_i n
    exact upd_ne n
/-- what is new later than D -/
theorem but_new {D l : Addr} {H2 H3 : Hp} {o : HO} (hD : H2 D ≠ none) (hl : H2 l = none) (h : H3 l = some o) : but D H3 l = some o := by
  rw [but_ne (fun e => hD (by rw [← e]; exact hl))]
  exact h
/-- what stood before D -/
theorem but_old {D l : Addr} {H H3 : Hp} {o : HO} (hD : H D = none) (h : H l = some o) (e : Ex H H3) : but D H3 l = some o := by
  rw [but_ne (fun z => by rw [z, hD] at h; cases h)]
  exact e _ _ h
def Cr (H : Hp) (R : Rel) (D : Addr) (i : Nat) (H' : Hp) : Prop := H D = none ∧ Ex H H' ∧ ∃ xs, H' D = some (.lst xs) ∧ xs.length = i ∧ ∀ j y, xs[j]? = some y → R j (xs.take j) y (but D H')
theorem cr_turn {H H' : Hp} {R : Rel} {D : Addr} {i : Nat} {te : TE} {σ2 : L2.St} (mon : Mon R) (p : Cr H R D i H') (hi : i < 50000)
    (he : H' D ≠ none → ∀ xs : List V, xs.length = i → (∀ j y, xs[j]? = some y → R j (xs.take j) y (but D H')) → ∀ Q : VK, (∀ y H3, Ex H' H3 → R i xs y (but D H3) → Q y H3) → te σ2 H' Q) :
    tYes σ2 H' fun b H3 => if b = true then te σ2 H3 fun y H4 => ∃ acc, H4 D = some (.lst acc) ∧ acc.length < sizeLine ∧ Cr H R D (i + 1) (upd H4 D (.lst (acc ++ [y]))) else Cr H R D (i + 1) H3 := by
  obtain ⟨p1, p2, xs, p3, p4, p5⟩ := p
  show te σ2 H' fun y H4 => ∃ acc, H4 D = some (.lst acc) ∧ acc.length < sizeLine ∧ Cr H R D (i + 1) (upd H4 D (.lst (acc ++ [y])))
  refine he (by rw [p3]; exact fun e => by cases e) xs p4 p5 _ fun y H4 e4 r => ⟨xs, e4 _ _ p3, sz_lt (by omega), p1, (p2.trans e4).mut p1, xs ++ [y], upd_same, by simp [p4], fun j z hz => ?_⟩
  rw [but_upd]
  by_cases hj : j < xs.length
  · rw [List.getElem?_append_left hj] at hz
    rw [List.take_append_of_le_length (Nat.le_of_lt hj)]
    exact mon _ _ _ _ _ (ex_but e4) (p5 j z hz)
  · have hj2 : j = xs.length := by
      have := (List.getElem?_eq_some_iff.mp hz).1
      simp at this
      omega
    subst hj2
    rw [List.getElem?_append_right (Nat.le_refl _), Nat.sub_self] at hz
    cases hz
    rw [List.take_left', ← p4] at *
    · rw [p4]; rw [p4] at r; exact r
    · rfl
section
variable {K : PySem.W.Frag} {σ : L2.St} {H : Hp} {R : Rel} {te tl : TE} {vs : List Nat} {j j2 : Nat}
theorem er_R1 {ta : TA} {n : Int} (h : EvA ta σ H [.int n]) (hn : 0 ≤ n ∧ n ≤ 40000) (hw : ∀ x, wipe ((wipe σ vs).set j (some x)) vs = wipe σ vs) (mon : Mon R)
    (he : ∀ (i : Nat) D H1, H D = none → Ex H H1 → H1 D ≠ none → (i : Int) < n → ∀ xs : List V, xs.length = i → (∀ j y, xs[j]? = some y → R j (xs.take j) y (but D H1)) → ∀ Q : VK, (∀ y H3, Ex H1 H3 → R i xs y (but D H3) → Q y H3) → te ((wipe σ vs).set j (some (.int (i : Int)))) H1 Q) :
    EvR (tLc (iRng1 ta) (gName j) tYes te vs) σ H n.toNat R := fun H0 e Q q => h H0 e _ fun H1 e1 => ⟨n, rfl, by omega, by omega, fun Dl hD =>
  lc_range (lo := 0) (n := n.toNat) (Cr H1 R Dl) ⟨hD, Ex.new hD, [], upd_same, rfl, fun j y hy => by simp at hy⟩ (fun i H' hi p => by
    have e0 : (0 : Int) + (i : Int) = (i : Int) := Int.zero_add _
    rw [e0]
    exact ⟨hw _, cr_turn mon p (by omega) (fun h1 xs h2 h3 => he i Dl H' (fresh_back (e.trans e1) hD) ((e.trans e1).trans p.2.1) h1 (by omega) xs h2 h3)⟩)
    (fun H' ⟨p1, p2, xs, p3, p4, p5⟩ => q Dl xs H' (fresh_back e1 p1) (e1.trans p2) p3 p4 fun i y hy => mon _ _ _ _ _ but_ex (p5 i y hy))⟩
theorem er_L {a : Addr} {ys : List V} (h : Ev tl σ H (.ref a)) (hx : SqL K H a ys) (hz : ys.length ≤ 40000) (hw : ∀ x, wipe ((wipe σ vs).set j (some x)) vs = wipe σ vs) (mon : Mon R)
    (he : ∀ (i : Nat) (x : V) D H1, H D = none → Ex H H1 → H1 D ≠ none → ys[i]? = some x → ∀ xs : List V, xs.length = i → (∀ j y, xs[j]? = some y → R j (xs.take j) y (but D H1)) → ∀ Q : VK, (∀ y H3, Ex H1 H3 → R i xs y (but D H3) → Q y H3) → te ((wipe σ vs).set j (some x)) H1 Q) :
    EvR (tLc (iList K tl) (gName j) tYes te vs) σ H ys.length R := fun H0 e Q q => h H0 e _ fun H1 e1 => ⟨a, rfl, ⟨ys, ex_l (e.trans e1) hx⟩, fun Dl hD =>
  lc_list (xs := ys) (Cr H1 R Dl) ⟨hD, Ex.new hD, [], upd_same, rfl, fun j y hy => by simp at hy⟩ (fun i H' _ p => ex_l ((e.trans e1).trans p.2.1) hx)
    (fun i x H' hi p => ⟨hw x, cr_turn mon p (by have := (List.getElem?_eq_some_iff.mp hi).1; omega) (fun h1 xs h2 h3 => he i x Dl H' (fresh_back (e.trans e1) hD) ((e.trans e1).trans p.2.1) h1 hi xs h2 h3)⟩)
    (fun H' ⟨p1, p2, xs, p3, p4, p5⟩ => q Dl xs H' (fresh_back e1 p1) (e1.trans p2) p3 p4 fun i y hy => mon _ _ _ _ _ but_ex (p5 i y hy))⟩
/-- over a list of pairs -/
theorem er_L2 {a : Addr} {ys : List V} (h : Ev tl σ H (.ref a)) (hx : SqL K H a ys) (hz : ys.length ≤ 40000) (hw : ∀ x y, wipe (((wipe σ vs).set j (some x)).set j2 (some y)) vs = wipe σ vs) (mon : Mon R)
    (he : ∀ (i : Nat) (x : V) D H1, H D = none → Ex H H1 → H1 D ≠ none → ys[i]? = some x → ∃ t u v, x = .ref t ∧ SqT K H1 t [u, v] ∧ ∀ xs : List V, xs.length = i → (∀ j y, xs[j]? = some y → R j (xs.take j) y (but D H1)) → ∀ Q : VK, (∀ y H3, Ex H1 H3 → R i xs y (but D H3) → Q y H3) → te (((wipe σ vs).set j (some u)).set j2 (some v)) H1 Q) :
    EvR (tLc (iList K tl) (gTup K 2 (gCons (gName j) (gCons (gName j2) gNil))) tYes te vs) σ H ys.length R := fun H0 e Q q => h H0 e _ fun H1 e1 => ⟨a, rfl, ⟨ys, ex_l (e.trans e1) hx⟩, fun Dl hD =>
  lc_list (xs := ys) (Cr H1 R Dl) ⟨hD, Ex.new hD, [], upd_same, rfl, fun j y hy => by simp at hy⟩ (fun i H' _ p => ex_l ((e.trans e1).trans p.2.1) hx)
    (fun i x H' hi p => by
      have h1 : H' Dl ≠ none := by
        obtain ⟨_, _, xs, p3, _⟩ := p
        rw [p3]
        exact fun e => by cases e
      obtain ⟨t, u, v, rfl, hT, k⟩ := he i x Dl H' (fresh_back (e.trans e1) hD) ((e.trans e1).trans p.2.1) h1 hi
      exact ⟨t, [u, v], rfl, hT, rfl, u, [v], rfl, v, [], rfl, rfl, hw u v, cr_turn mon p (by have := (List.getElem?_eq_some_iff.mp hi).1; omega) fun _ xs' h2 h3 => k xs' h2 h3⟩)
    (fun H' ⟨p1, p2, xs, p3, p4, p5⟩ => q Dl xs H' (fresh_back e1 p1) (e1.trans p2) p3 p4 fun i y hy => mon _ _ _ _ _ but_ex (p5 i y hy))⟩
end
/-! ### a list of known items, new or not -/
def EvF (te : TE) (σ : L2.St) (H : Hp) (xs : List V) : Prop := ∀ H1, Ex H H1 → ∀ Q : VK, (∀ p H2, Ex H1 H2 → H2 p = some (.lst xs) → Q (.ref p) H2) → te σ H1 Q
def fset (f : Nat → List Int) (s : Nat) (v : List Int) : Nat → List Int := fun x => if x = s then v else f x
def Z8 : List Int := [0, 0, 0, 0, 0, 0, 0, 0]
/-- a dict from sectors to lists of words -/
def Dz (H : Hp) (d : Addr) (n : Nat) (f : Nat → List Int) : Prop := ∃ kvs : List (Key × V), H d = some (.dK kvs) ∧ kvs.length ≤ n ∧ ∀ s : Nat, (valV kvs (.inl (s : Int)) = none ∧ f s = Z8) ∨ ∃ l, valV kvs (.inl (s : Int)) = some (.ref l) ∧ H l = some (.lst ((f s).map V.int))
theorem cut_lo (xs : List V) (n : Nat) : cutV xs none (some (n : Int)) = xs.take n := by
  unfold cutV
  rw [HT.sIx_none, HT.sIx_nat, List.drop_zero, Nat.sub_zero, List.take_eq_take_iff]
  omega
theorem cut_hi (xs : List V) (n : Nat) : cutV xs (some (n : Int)) none = xs.drop n := by
  unfold cutV
  rw [HT.sIx_none, HT.sIx_nat, List.take_of_length_le (by rw [List.length_drop]; omega)]
  by_cases h : n ≤ xs.length
  · rw [Nat.min_eq_left h]
  · rw [Nat.min_eq_right (by omega), List.drop_eq_nil_of_le (Nat.le_refl _), List.drop_eq_nil_of_le (by omega)]
section
variable {K : PySem.W.Frag} {σ : L2.St} {H H' : Hp} {ta tb te td tk tx : TE} {v : V} {xs ys : List V} {d : Addr} {n s : Nat} {f : Nat → List Int} {D : Ends} {tz : TS}
theorem el_f (h : EvL te σ H xs) : EvF te σ H xs := fun H1 e Q q => h H1 e Q fun p H2 _ e2 h2 => q p H2 e2 h2
theorem Dz.ex (D : Dz H d n f) (e : Ex H H') : Dz H' d n f := by
  obtain ⟨kvs, h, hl, hs⟩ := D
  exact ⟨kvs, e _ _ h, hl, fun s => (hs s).imp id fun ⟨l, a, b⟩ => ⟨l, a, e _ _ b⟩⟩
theorem Dz.le (D : Dz H d n f) {m : Nat} (h : n ≤ m) : Dz H d m f := by
  obtain ⟨kvs, h1, hl, hs⟩ := D
  exact ⟨kvs, h1, Nat.le_trans hl h, hs⟩
theorem ef_get (hd : Ev td σ H (.ref d)) (hD : Dz H d n f) (hk : Ev tk σ H (.int (s : Int))) (hx : EvL tx σ H (Z8.map V.int)) : EvF (tDGet2 td tk tx) σ H ((f s).map V.int) := fun H1 e Q q => by
  obtain ⟨kvs, h, _, hs⟩ := hD
  refine hd H1 e _ fun H2 e2 => ⟨d, rfl, .inl ⟨kvs, .inl (e2 _ _ (e _ _ h))⟩, hk H2 (e.trans e2) _ fun H3 e3 => hx H3 ((e.trans e2).trans e3) _ fun p H4 hp e4 h4 => ?_⟩
  have e14 := (e2.trans e3).trans e4
  rcases hs s with ⟨hn, hf⟩ | ⟨l, hv, hl⟩
  · refine ⟨none, ?_, ?_⟩
    · rw [← hn]
      exact DGet.k (k := Sum.inl (s : Int)) (e14 _ _ (e _ _ h))
    · rw [hf] at q
      exact q p H4 e14 h4
  · refine ⟨some (.ref l), ?_, q l H4 e14 (e14 _ _ (e _ _ hl))⟩
    rw [← hv]
    exact DGet.k (k := Sum.inl (s : Int)) (e14 _ _ (e _ _ h))
theorem q_asgF {i : Nat} (h : EvF te σ H xs) (k : ∀ p H1, Ex H H1 → H1 p = some (.lst xs) → tz D (σ.set i (some (.ref p))) H1) : tSeq (tAsg te (gName i)) tz D σ H := h H (Ex.refl H) _ fun p H1 e h1 => k p H1 e h1
/-- list(an evaluated list) -/
theorem el_listF (h : EvF te σ H xs) : EvL (tCB (rListS K) (tCons te tNil)) σ H xs := fun H1 e Q q =>
  h H1 e _ fun p H2 e2 h2 => ⟨p, xs, rfl, Or.inl (sq_of h2), fun l hl => q l _ (fresh_back e2 hl) (e2.trans (Ex.new hl)) upd_same⟩
theorem q_dcopy {i : Nat} (hd : Ev td σ H (.ref d)) (hD : Dz H d n f) (k : ∀ p H1, H p = none → Ex H H1 → Dz H1 p n f → tz D (σ.set i (some (.ref p))) H1) :
    tSeq (tAsg (tCB (fun xs H Q => ∃ (a : Addr) (kvs : List (Key × V)), xs = [.ref a] ∧ Rd H a (.dK kvs) ∧ ∀ p, H p = none → Q (.ref p) (upd H p (.dK kvs))) (tCons td tNil)) (gName i)) tz D σ H := by
  obtain ⟨kvs, h, hl, hs⟩ := hD
  refine hd H (Ex.refl H) _ fun H1 e1 => ⟨d, kvs, rfl, .inl (e1 _ _ h), fun p hp => k p _ (fresh_back e1 hp) (e1.trans (Ex.new hp)) ⟨kvs, upd_same, hl, fun s => (hs s).imp id fun ⟨l, a, b⟩ => ⟨l, a, (e1.trans (Ex.new hp)) _ _ b⟩⟩⟩
theorem s_dputL {zs : List Int} (hv : EvL te σ H (zs.map V.int)) (hd : Ev td σ H (.ref d)) (hk : Ev tk σ H (.int (s : Int))) (hD : Dz H d n f) (hn : n < 100000) (k : ∀ H1 o, Ex H H1 → Dz (upd H1 d o) d (n + 1) (fset f s zs) → D.nx σ (upd H1 d o)) : sDPut td tk te D σ H := by
  obtain ⟨kvs, h, hl, hs⟩ := hD
  refine hv H (Ex.refl H) _ fun l H1 hl1 e1 h1 => hd H1 e1 _ fun H2 e2 => hk H2 (e1.trans e2) _ fun H3 e3 => ?_
  have e13 := (e1.trans e2).trans e3
  have h3 := e13 _ _ h
  have l3 := e3 _ _ (e2 _ _ h1)
  have hld : l ≠ d := ne_of l3 h3 (by intro z; cases z)
  refine ⟨d, _, rfl, DPut.k (k := Sum.inl (s : Int)) h3 (sz_lt (by omega)), k H3 _ e13 ⟨_, upd_same, Nat.le_trans (length_putK _ _ _) (by omega), fun j => ?_⟩⟩
  rw [valV_put]
  by_cases hj : j = s
  · subst hj
    rw [if_pos rfl]
    refine .inr ⟨l, rfl, ?_⟩
    rw [upd_ne hld, l3]
    unfold fset
    rw [if_pos rfl]
  · rw [if_neg (fun z => hj (by cases z; rfl))]
    have ef : fset f s zs j = f j := if_neg hj
    rw [ef]
    refine (hs j).imp id fun ⟨m, a, b⟩ => ⟨m, a, ?_⟩
    have b3 := e13 _ _ b
    rw [upd_ne (ne_of b3 h3 (by intro z; cases z))]
    exact b3
theorem el_catL (ha : EvL ta σ H xs) (hb : EvL tb σ H ys) (hz : xs.length + ys.length ≤ 100000) : EvL (tOp rCat ta tb) σ H (xs ++ ys) := fun H1 e Q q =>
  ha H1 e _ fun a H2 ha2 e2 h2 => hb H2 (e.trans e2) _ fun b H3 hb3 e3 h3 => ⟨a, b, xs, ys, rfl, rfl, e3 _ _ h2, h3, sz_of hz, fun p hp => q p _ (fresh_back (e2.trans e3) hp) ((e2.trans e3).trans (Ex.new hp)) upd_same⟩
theorem el_cat {l : Addr} (ha : Ev ta σ H (.ref l)) (hl : H l = some (.lst xs)) (hb : EvL tb σ H ys) (hz : xs.length + ys.length ≤ 100000) : EvL (tOp rCat ta tb) σ H (xs ++ ys) := fun H1 e Q q =>
  ha H1 e _ fun H2 e2 => hb H2 (e.trans e2) _ fun b H3 hb3 e3 h3 => ⟨l, b, xs, ys, rfl, rfl, e3 _ _ (e2 _ _ (e _ _ hl)), h3, sz_of hz, fun p hp => q p _ (fresh_back (e2.trans e3) hp) ((e2.trans e3).trans (Ex.new hp)) upd_same⟩
theorem el_rep1 {z : Int} (ha : EvL ta σ H [v]) (hb : Ev tb σ H (.int z)) (h0 : 0 ≤ z) (h1 : z ≤ 100000) : EvL (tOp rRep ta tb) σ H (List.replicate z.toNat v) := fun H1 e Q q =>
  ha H1 e _ fun a H2 ha2 e2 h2 => hb H2 (e.trans e2) _ fun H3 e3 => ⟨a, z, [v], rfl, rfl, e3 _ _ h2, by omega, by omega, sz_of (by simp; omega), fun p hp => by
    have := q p (upd H3 p (.lst (List.replicate z.toNat [v]).flatten)) (fresh_back (e2.trans e3) hp) ((e2.trans e3).trans (Ex.new hp))
    rw [show (List.replicate z.toNat [v]).flatten = List.replicate z.toNat v by
      induction z.toNat with
      | zero => rfl
      | succ k ih => rw [List.replicate_succ, List.flatten_cons, ih]; rfl] at this ⊢
    exact this upd_same⟩
theorem ev_min2 {i j : Int} (ha : Ev ta σ H (.int i)) (hb : Ev tb σ H (.int j)) : Ev (tCB (fun xs H Q => ∃ i j, xs = [.int i, .int j] ∧ Q (.int (if j < i then j else i)) H) (tCons ta (tCons tb tNil))) σ H (.int (if j < i then j else i)) := ev_cb (ea_cons ha (ea_cons hb ea_nil)) fun H1 e Q q => ⟨i, j, rfl, q H1 (Ex.refl H1)⟩
theorem er_asg {i : Nat} {R : Rel} (h : EvR te σ H n R) (k : ∀ L xs H1, H L = none → Ex H H1 → H1 L = some (.lst xs) → xs.length = n → (∀ i y, xs[i]? = some y → R i (xs.take i) y H1) → tz D (σ.set i (some (.ref L))) H1) : tSeq (tAsg te (gName i)) tz D σ H := h H (Ex.refl H) _ k
theorem er_ret {R : Rel} (h : EvR te σ H n R) (k : ∀ L xs H1, H L = none → Ex H H1 → H1 L = some (.lst xs) → xs.length = n → (∀ i y, xs[i]? = some y → R i (xs.take i) y H1) → D.rt (.ref L) H1) : tRet te D σ H := h H (Ex.refl H) _ k
end
/-! ### more statements -/
section
variable {K : PySem.W.Frag} {σ : L2.St} {H : Hp} {ta tb te : TE} {t : TA} {xs ys : List V} {l C p dx : Addr} {fs : List (Str × V)} {m : Str} {n : Nat} {D : Ends} {tz : TS}
theorem s_setLL {j : Nat} (hl : H l = some (.lst xs)) (h : EvL te σ H ys) (ho : Ev ta σ H (.ref l)) (hi : Ev tb σ H (.int (j : Int))) (hj : j < xs.length) (k : ∀ q H1, H q = none → Ex H H1 → H1 q = some (.lst ys) → D.nx σ (upd H1 l (.lst (xs.set j (.ref q))))) :
    tAsg te (gSub ta tb rSetL) D σ H := h H (Ex.refl H) _ fun q H1 hq e1 h1 => ho H1 e1 _ fun H2 e2 => hi H2 (e1.trans e2) _ fun H3 e3 => ⟨l, xs, (j : Int), j, rfl, rfl, ((e1.trans e2).trans e3) l _ hl, ixN_nat hj, k q H3 hq ((e1.trans e2).trans e3) (e3 _ _ (e2 _ _ h1))⟩
theorem q_fldR {R : Rel} (hv : EvR te σ H n R) (ha : Ev ta σ H (.ref p)) (hi : H p = some (.ins C dx fs)) (c : Cls K C) (nA : NoAttr K C m) (hz : fs.length < 1000) (k : ∀ L xs H1 H2, H L = none → Ex H H1 → Ex H1 H2 → H2 L = some (.lst xs) → xs.length = n → (∀ i y, xs[i]? = some y → R i (xs.take i) y H1) → tz D σ (upd H2 p (.ins C dx (putF m (.ref L) fs)))) : tSeq (sFld K ta te m) tz D σ H :=
  hv H (Ex.refl _) _ fun L xs H1 hL e1 h1 hn hr => ha H1 e1 _ fun H2 e2 => ⟨p, C, dx, fs, rfl, e2 _ _ (e1 _ _ hi), c, nA, hz, k L xs H1 H2 hL e1 e2 (e2 _ _ h1) hn hr⟩
theorem q_forZ {a b : Addr} {g : TG} {tu : TS} (h : EvA t σ H [.ref a, .ref b]) (hx : SqL K H a xs) (hy : SqL K H b ys) (Pv : Nat → L2.St → Hp → Prop) (h0 : ∀ H1, Ex H H1 → Pv 0 σ H1) (hl : ∀ i σ' H', Pv i σ' H' → SqL K H' a xs ∧ SqL K H' b ys)
    (hs : ∀ i x y T σ' H', xs[i]? = some x → ys[i]? = some y → Pv i σ' H' → H' T = none → g (.ref T) σ' (upd H' T (.tup [x, y])) fun σ2 H2 => tu { D with nx := Pv (i + 1), ct := Pv (i + 1), bk := tz D } σ2 H2) (hd : ∀ σ' H', Pv (min xs.length ys.length) σ' H' → tz D σ' H') : tSeq (tFor (iZip K t) g tu) tz D σ H :=
  h H (Ex.refl H) _ fun H1 e => ⟨a, b, xs, ys, rfl, ex_l e hx, ex_l e hy, for_it (D := { D with nx := tz D }) (walk_zip rfl) Pv (h0 H1 e) (fun i σ' H' _ p => hl i σ' H' p) (fun i v σ' H' H2 hi p y => by
    obtain ⟨T, x, z, rfl, hT, rfl, h1, h2⟩ := y
    exact hs i x z T σ' H' h1 h2 p hT) hd⟩
end
theorem refs_of : ∀ {xs : List V}, (∀ y ∈ xs, ∃ a, y = V.ref a) → ∃ ks : List Addr, xs = ks.map V.ref
  | [], _ => ⟨[], rfl⟩
  | x :: r, h => by
    obtain ⟨a, rfl⟩ := h x List.mem_cons_self
    obtain ⟨ks, e⟩ := refs_of fun y hy => h y (List.mem_cons_of_mem _ hy)
    exact ⟨a :: ks, by rw [e]; rfl⟩
/-- a method that is passed a new list -/
theorem mR_run {sp : Sp} {σ : L2.St} {H : Hp} {ta te : TE} {C p dx : Addr} {fs : List (Str × V)} {m : Str} {xs : List V} {D : Ends} {E : XK} (ha : Ev ta σ H (.ref p)) (hi : H p = some (.ins C dx fs)) (hl : fs.lookup m = none) (ht : EvL te σ H xs) (k : ∀ c H1, H c = none → Ex H H1 → H1 c = some (.lst xs) → sp [.ref p, .ref c] H1 (fun _ H2 => D.nx σ H2) E) : tDrop (tMeth C m sp [] E ta (tCons te tNil)) D σ H :=
  ha H (Ex.refl _) _ fun H2 e2 => ⟨p, dx, fs, rfl, e2 _ _ hi, hl, ht H2 e2 _ fun c H3 hc e3 h3 => k c H3 (fresh_back e2 hc) (e2.trans e3) h3⟩
section
variable {K : PySem.W.Frag} {σ : L2.St} {H : Hp} {ta tb te t1 : TE} {t : TA} {v : V} {xs ys vs : List V} {C p dx a : Addr} {fs : List (Str × V)} {m : Str} {sp : Sp} {D : Ends} {tz : TS}
theorem ev_int1 {i : Int} (h : Ev te σ H (.int i)) : Ev (tCB (fun xs H Q => (∃ i, xs = [V.int i] ∧ Q (V.int i) H) ∨ ∃ k : Bool, xs = [V.bl k] ∧ Q (V.int (if k then 1 else 0)) H) (tCons te tNil)) σ H (.int i) := ev_cb (ea_cons h ea_nil) fun H1 _ Q q => .inl ⟨i, rfl, q _ (Ex.refl _)⟩
theorem ef_var (h : Ev te σ H (.ref a)) (ha : H a = some (.lst xs)) : EvF te σ H xs := fun H1 e Q q => h H1 e _ fun H2 e2 => q a H2 e2 (e2 _ _ (e _ _ ha))
theorem ef_is (h : EvF te σ H xs) (e : xs = ys) : EvF te σ H ys := e ▸ h
theorem el_meth {E : XK} (ha : Ev ta σ H (.ref p)) (hi : H p = some (.ins C dx fs)) (hl : fs.lookup m = none) (ht : EvA t σ H vs) (hs : SpL sp (.ref p :: vs) H xs) : EvL (tMeth C m sp [] E ta t) σ H xs := fun H1 e Q q =>
  ha H1 e _ fun H2 e2 => ⟨p, dx, fs, rfl, e2 _ _ (e _ _ hi), hl, ht H2 (e.trans e2) _ fun H3 e3 => by
    rw [List.append_nil]
    exact hs H3 ((e.trans e2).trans e3) Q (fun l H4 hl e4 h4 => q l H4 (fresh_back (e2.trans e3) hl) ((e2.trans e3).trans e4) h4) E⟩
/-- in a try's body: o.m(e, a new list), o.m(a new list), o.m(e ..) -/
theorem s_mA2L {E : L2.St → XK} (ha : Ev ta σ H (.ref p)) (hi : H p = some (.ins C dx fs)) (hl : fs.lookup m = none) (h1 : Ev t1 σ H v) (ht : EvL te σ H xs) (k : ∀ c H1, H c = none → Ex H H1 → H1 c = some (.lst xs) → sp [.ref p, v, .ref c] H1 (fun _ H2 => D.nx σ H2) (E σ)) : tDrop (tMethA C m sp E ta (tCons t1 (tCons te tNil))) D σ H :=
  ha H (Ex.refl _) _ fun H2 e2 => ⟨p, dx, fs, rfl, e2 _ _ hi, hl, h1 H2 e2 _ fun H3 e3 => ht H3 (e2.trans e3) _ fun c H4 hc e4 h4 => k c H4 (fresh_back (e2.trans e3) hc) ((e2.trans e3).trans e4) h4⟩
theorem s_mA1L {E : L2.St → XK} (ha : Ev ta σ H (.ref p)) (hi : H p = some (.ins C dx fs)) (hl : fs.lookup m = none) (ht : EvL te σ H xs) (k : ∀ c H1, H c = none → Ex H H1 → H1 c = some (.lst xs) → sp [.ref p, .ref c] H1 (fun _ H2 => D.nx σ H2) (E σ)) : tDrop (tMethA C m sp E ta (tCons te tNil)) D σ H :=
  ha H (Ex.refl _) _ fun H2 e2 => ⟨p, dx, fs, rfl, e2 _ _ hi, hl, ht H2 e2 _ fun c H3 hc e3 h3 => k c H3 (fresh_back e2 hc) (e2.trans e3) h3⟩
theorem s_mAV {E : L2.St → XK} (ha : Ev ta σ H (.ref p)) (hi : H p = some (.ins C dx fs)) (hl : fs.lookup m = none) (ht : EvA t σ H vs) (k : ∀ H1, Ex H H1 → sp (.ref p :: vs) H1 (fun _ H2 => D.nx σ H2) (E σ)) : tDrop (tMethA C m sp E ta t) D σ H := mA_run (Q := fun _ H2 => D.nx σ H2) ha hi hl ht k
end
/-! ### what is frozen: all that G has; what is new joins it, but for X -/
open Classical in
noncomputable def grow (G H H1 : Hp) (X : Addr → Prop) : Hp := fun a => if G a ≠ none then G a else if H a = none ∧ ¬ X a then H1 a else none
section
variable {G H H1 : Hp} {X : Addr → Prop} {a : Addr} {o : HO}
theorem grow_ex : Ex G (grow G H H1 X) := fun a o h => by
  unfold grow
  rw [if_pos (by rw [h]; exact fun e => by cases e)]
  exact h
theorem grow_sub (e : Ex G H1) : Ex (grow G H H1 X) H1 := fun a o h => by
  unfold grow at h
  split at h
  · exact e a o h
  · split at h
    · exact h
    · cases h
theorem grow_mono {H2 : Hp} (e : Ex H1 H2) : Ex (grow G H H1 X) (grow G H H2 X) := fun a o h => by
  unfold grow at h ⊢
  split at h
  · rename_i c
    rw [if_pos c]
    exact h
  · rename_i c
    rw [if_neg c]
    split at h
    · rename_i c2
      rw [if_pos c2]
      exact e _ _ h
    · cases h
theorem grow_no (h : H a ≠ none) (g : G a = none) : grow G H H1 X a = none := by
  unfold grow
  rw [if_neg (by rw [g]; exact fun e => e rfl), if_neg fun e => h e.1]
theorem grow_X (x : X a) (g : G a = none) : grow G H H1 X a = none := by
  unfold grow
  rw [if_neg (by rw [g]; exact fun e => e rfl), if_neg fun e => e.2 x]
theorem grow_new (g : G a = none) (h : H a = none) (x : ¬ X a) (h1 : H1 a = some o) : grow G H H1 X a = some o := by
  unfold grow
  rw [if_neg (by rw [g]; exact fun e => e rfl), if_pos ⟨h, x⟩]
  exact h1
end
theorem ef_ref {te : TE} {σ : L2.St} {H : Hp} {a : Addr} {xs : List V} (h : Ev te σ H (.ref a)) (ha : H a = some (.lst xs)) : EvF te σ H xs := ef_var h ha
theorem ev_lenT {K : PySem.W.Frag} {ta : TE} {σ : L2.St} {H : Hp} {p : Addr} {xs : List V} (ha : Ev ta σ H (.ref p)) (h : SqT K H p xs) : Ev (tCB (rLenS K) (tCons ta tNil)) σ H (.int (xs.length : Int)) := ev_cb (ea_cons ha ea_nil) fun H1 e Q q => ⟨p, xs, rfl, .inr (ex_t e h), q H1 (Ex.refl H1)⟩
theorem ints_inj : ∀ {a b : List Int}, a.map V.int = b.map V.int → a = b
  | [], [], _ => rfl
  | [], _ :: _, h => by simp at h
  | _ :: _, [], h => by simp at h
  | a :: r, b :: s, h => by
    rw [List.map_cons, List.map_cons] at h
    injection h with h1 h2
    rw [V.int.inj h1, ints_inj h2]
/-! ### a dict that is being made: its lists are frozen or new -/
def DzG (G H0 H' : Hp) (d : Addr) (n : Nat) (f : Nat → List Int) : Prop := ∃ kvs : List (Key × V), H' d = some (.dK kvs) ∧ kvs.length ≤ n ∧ ∀ s : Nat, (valV kvs (.inl (s : Int)) = none ∧ f s = Z8) ∨ ∃ l, valV kvs (.inl (s : Int)) = some (.ref l) ∧ (G l = some (.lst ((f s).map V.int)) ∨ (H0 l = none ∧ H' l = some (.lst ((f s).map V.int))))
section
variable {G H0 H H' : Hp} {σ : L2.St} {te td tk : TE} {d : Addr} {n s : Nat} {f : Nat → List Int} {D : Ends} {tz : TS}
theorem DzG.ex (h : DzG G H0 H d n f) (e : Ex H H') : DzG G H0 H' d n f := by
  obtain ⟨kvs, h, hl, hs⟩ := h
  exact ⟨kvs, e _ _ h, hl, fun s => (hs s).imp id fun ⟨l, a, b⟩ => ⟨l, a, b.imp id fun c => ⟨c.1, e _ _ c.2⟩⟩⟩
theorem DzG.dz (h : DzG G H0 H d n f) (e : Ex G H) : Dz H d n f := by
  obtain ⟨kvs, h, hl, hs⟩ := h
  exact ⟨kvs, h, hl, fun s => (hs s).imp id fun ⟨l, a, b⟩ => ⟨l, a, b.elim (fun c => e _ _ c) fun c => c.2⟩⟩
theorem DzG.grown (h : DzG G H0 H d n f) (hd : H0 d = none) (g : Ex G H0) : Dz (grow G H0 H fun _ => False) d n f := by
  obtain ⟨kvs, h, hl, hs⟩ := h
  exact ⟨kvs, grow_new (fresh_back g hd) hd id h, hl, fun s => (hs s).imp id fun ⟨l, a, b⟩ => ⟨l, a, b.elim (fun c => grow_ex _ _ c) fun c => grow_new (fresh_back g c.1) c.1 id c.2⟩⟩
theorem q_dcopyG {i : Nat} (g : Ex G H) (hd : Ev td σ H (.ref d)) (hD : Dz G d n f) (k : ∀ p H1, H p = none → Ex H H1 → DzG G H H1 p n f → tz D (σ.set i (some (.ref p))) H1) :
    tSeq (tAsg (tCB (fun xs H Q => ∃ (a : Addr) (kvs : List (Key × V)), xs = [.ref a] ∧ Rd H a (.dK kvs) ∧ ∀ p, H p = none → Q (.ref p) (upd H p (.dK kvs))) (tCons td tNil)) (gName i)) tz D σ H := by
  obtain ⟨kvs, h, hl, hs⟩ := hD
  refine hd H (Ex.refl H) _ fun H1 e1 => ⟨d, kvs, rfl, .inl (e1 _ _ (g _ _ h)), fun p hp => k p _ (fresh_back e1 hp) (e1.trans (Ex.new hp)) ⟨kvs, upd_same, hl, fun s => (hs s).imp id fun ⟨l, a, b⟩ => ⟨l, a, .inl b⟩⟩⟩
theorem s_dputG {zs : List Int} (g : Ex H0 H) (hv : EvL te σ H (zs.map V.int)) (hd : Ev td σ H (.ref d)) (hk : Ev tk σ H (.int (s : Int))) (hD : DzG G H0 H d n f) (hn : n < 100000) (k : ∀ H1 o, Ex H H1 → DzG G H0 (upd H1 d o) d (n + 1) (fset f s zs) → D.nx σ (upd H1 d o)) : sDPut td tk te D σ H := by
  obtain ⟨kvs, h, hl, hs⟩ := hD
  refine hv H (Ex.refl H) _ fun l H1 hl1 e1 h1 => hd H1 e1 _ fun H2 e2 => hk H2 (e1.trans e2) _ fun H3 e3 => ?_
  have e13 := (e1.trans e2).trans e3
  have h3 := e13 _ _ h
  have l3 := e3 _ _ (e2 _ _ h1)
  have hld : l ≠ d := ne_of l3 h3 (by intro z; cases z)
  refine ⟨d, _, rfl, DPut.k (k := Sum.inl (s : Int)) h3 (sz_lt (by omega)), k H3 _ e13 ⟨_, upd_same, Nat.le_trans (length_putK _ _ _) (by omega), fun j => ?_⟩⟩
  rw [valV_put]
  by_cases hj : j = s
  · subst hj
    rw [if_pos rfl]
    refine .inr ⟨l, rfl, .inr ⟨fresh_back g hl1, ?_⟩⟩
    rw [upd_ne hld, l3]
    unfold fset
    rw [if_pos rfl]
  · rw [if_neg (fun z => hj (by cases z; rfl))]
    have ef : fset f s zs j = f j := if_neg hj
    rw [ef]
    refine (hs j).imp id fun ⟨m, a, b⟩ => ⟨m, a, b.imp id fun c => ⟨c.1, ?_⟩⟩
    have b3 := e13 _ _ c.2
    rw [upd_ne (ne_of b3 h3 (by intro z; cases z))]
    exact b3
end
section
variable {K : PySem.W.Frag} {σ : L2.St} {H : Hp} {t1 t2 te : TE} {v1 v2 : V} {xs : List V} {l : Addr} {sp : Sp} {E : XK} {D : Ends} {tz : TS}
/-- x = f(e, e', a new list) -/
theorem q_call3L {i : Nat} (h1 : Ev t1 σ H v1) (h2 : Ev t2 σ H v2) (h3 : EvL te σ H xs) (k : ∀ c H1, H c = none → Ex H H1 → H1 c = some (.lst xs) → sp [v1, v2, .ref c] H1 (fun v H2 => tz D (σ.set i (some v)) H2) E) : tSeq (tAsg (tCall sp [] E (tCons t1 (tCons t2 (tCons te tNil)))) (gName i)) tz D σ H :=
  h1 H (Ex.refl _) _ fun H1 e1 => h2 H1 e1 _ fun H2 e2 => h3 H2 (e1.trans e2) _ fun c H3 hc e3 h3' => k c H3 (fresh_back (e1.trans e2) hc) ((e1.trans e2).trans e3) h3'
/-- x = x + [(e, e')] -/
theorem s_snocT {i : Nat} (ha : Ev te σ H (.ref l)) (hl : H l = some (.lst xs)) (h1 : Ev t1 σ H v1) (h2 : Ev t2 σ H v2) (hz : xs.length < 10000) (k : ∀ t L H1, H t = none → H L = none → Ex H H1 → H1 t = some (.tup [v1, v2]) → H1 L = some (.lst (xs ++ [.ref t])) → D.nx (σ.set i (some (.ref L))) H1) :
    tAsg (tOp rCat te (tLst (tCons (tTup (tCons t1 (tCons t2 tNil))) tNil))) (gName i) D σ H :=
  ha H (Ex.refl _) _ fun H1 e1 => h1 H1 e1 _ fun H2 e2 => h2 H2 (e1.trans e2) _ fun H3 e3 => ⟨by show 2 ≤ sizeLine; decide, fun t ht => ⟨by show 1 ≤ sizeLine; decide, fun b hb => by
    have e4 := Ex.new (o := .tup [v1, v2]) ht
    have e5 := Ex.new (o := .lst [.ref t]) hb
    have e13 := (e1.trans e2).trans e3
    refine ⟨l, b, xs, [.ref t], rfl, rfl, e5 _ _ (e4 _ _ (e13 _ _ hl)), upd_same, sz_of (by simp; omega), fun L hL => ?_⟩
    have e6 := Ex.new (o := .lst (xs ++ [.ref t])) hL
    exact k t L _ (fresh_back e13 ht) (fresh_back ((e13.trans e4).trans e5) hL) (((e13.trans e4).trans e5).trans e6) (e6 _ _ (e5 _ _ upd_same)) upd_same⟩⟩
end
end LP

set_option Elab.async false
set_option linter.all false
set_option maxRecDepth 100000
set_option maxHeartbeats 4000000
namespace LV
open PySem PySem.Spec PyProof.Rows L2 Evl LT LG LH
section
variable {K : PySem.W.Frag} {σ : L2.St} {H : Hp} {tl te : TE} {ta : TA} {P a b : Addr} {xs ys : List V} {okc : Nat → (Nat → V) → V → Prop} {vals : Nat → V} {r : V} {j j2 : Nat} {vs : List Nat}
/-- a generator expression over a list that stands, over a tuple, a range, a text, two lists: elements that leave what is known -/
theorem ev_gxL (h : Ev tl σ H (.ref a)) (hx : SqL K H a xs) (hT : Tab H P) (ok : okc xs.length vals r) (hw : ∀ x, wipe ((wipe σ vs).set j (some x)) vs = wipe σ vs) (he : ∀ (i : Nat) (x : V) H1, Ex H H1 → xs[i]? = some x → Ev te ((wipe σ vs).set j (some x)) H1 (vals i)) : Ev (tGX P okc (iList K tl) (gName j) te vs) σ H r := fun H1 e Q q =>
  h H1 e _ fun H2 e2 => ⟨a, rfl, ⟨xs, ex_l (e.trans e2) hx⟩, hT.mono (e.trans e2), xs.length, vals, r, fun _ H' => Ex H2 H', ok, Ex.refl _, fun i H' hi w => ⟨⟨xs, xs[i], ex_l ((e.trans e2).trans w) hx, List.getElem?_eq_getElem hi⟩, fun x H3 hy => by
    obtain ⟨rfl, hy⟩ := hy
    exact ⟨hw x, he i x _ ((e.trans e2).trans w) (hy xs (ex_l ((e.trans e2).trans w) hx)) _ (Ex.refl _) _ fun H4 e4 => ⟨rfl, w.trans e4⟩⟩⟩, fun H' w => ⟨xs, ex_l ((e.trans e2).trans w) hx, Nat.le_refl _⟩, fun i H' _ w => q H' (e2.trans w)⟩
theorem ev_gxT (h : Ev tl σ H (.ref a)) (hx : SqT K H a xs) (hT : Tab H P) (ok : okc xs.length vals r) (hw : ∀ x, wipe ((wipe σ vs).set j (some x)) vs = wipe σ vs) (he : ∀ (i : Nat) (x : V) H1, Ex H H1 → xs[i]? = some x → Ev te ((wipe σ vs).set j (some x)) H1 (vals i)) : Ev (tGX P okc (iTup K tl) (gName j) te vs) σ H r := fun H1 e Q q =>
  h H1 e _ fun H2 e2 => ⟨a, rfl, ⟨xs, ex_t (e.trans e2) hx⟩, hT.mono (e.trans e2), xs.length, vals, r, fun _ H' => Ex H2 H', ok, Ex.refl _, fun i H' hi w => ⟨⟨xs, xs[i], ex_t ((e.trans e2).trans w) hx, List.getElem?_eq_getElem hi⟩, fun x H3 hy => by
    obtain ⟨rfl, hy⟩ := hy
    exact ⟨hw x, he i x _ ((e.trans e2).trans w) (hy xs (ex_t ((e.trans e2).trans w) hx)) _ (Ex.refl _) _ fun H4 e4 => ⟨rfl, w.trans e4⟩⟩⟩, fun H' w => ⟨xs, ex_t ((e.trans e2).trans w) hx, Nat.le_refl _⟩, fun i H' _ w => q H' (e2.trans w)⟩
theorem ev_gxR {n : Int} (h : EvA ta σ H [.int n]) (hn : 0 ≤ n ∧ n ≤ 100000) (hT : Tab H P) (ok : okc n.toNat vals r) (hw : ∀ x, wipe ((wipe σ vs).set j (some x)) vs = wipe σ vs) (he : ∀ (i : Nat) H1, Ex H H1 → (i : Int) < n → Ev te ((wipe σ vs).set j (some (.int (i : Int)))) H1 (vals i)) : Ev (tGX P okc (iRng1 ta) (gName j) te vs) σ H r := fun H1 e Q q =>
  h H1 e _ fun H2 e2 => ⟨n, rfl, by omega, by omega, hT.mono (e.trans e2), n.toNat, vals, r, fun _ H' => Ex H2 H', ok, Ex.refl _, fun i H' hi w => ⟨hi, fun x H3 hy => by
    obtain ⟨rfl, rfl⟩ := hy
    rw [Int.zero_add]
    exact ⟨hw _, he i _ ((e.trans e2).trans w) (by omega) _ (Ex.refl _) _ fun H4 e4 => ⟨rfl, w.trans e4⟩⟩⟩, fun H' w => Nat.le_refl _, fun i H' _ w => q H' (e2.trans w)⟩
theorem ev_gxS {z : Str} (h : Ev tl σ H (.str z)) (hT : Tab H P) (ok : okc z.cps.size vals r) (hw : ∀ x, wipe ((wipe σ vs).set j (some x)) vs = wipe σ vs) (he : ∀ (i : Nat) (c : Nat) H1, Ex H H1 → z.cps[i]? = some c → Ev te ((wipe σ vs).set j (some (.str ⟨#[c]⟩))) H1 (vals i)) : Ev (tGX P okc (iStr tl) (gName j) te vs) σ H r := fun H1 e Q q =>
  h H1 e _ fun H2 e2 => ⟨z, rfl, hT.mono (e.trans e2), z.cps.size, vals, r, fun _ H' => Ex H2 H', ok, Ex.refl _, fun i H' hi w => ⟨hi, fun x H3 hy => by
    obtain ⟨rfl, c, hc, rfl⟩ := hy
    exact ⟨hw _, he i c _ ((e.trans e2).trans w) hc _ (Ex.refl _) _ fun H4 e4 => ⟨rfl, w.trans e4⟩⟩⟩, fun H' w => Nat.le_refl _, fun i H' _ w => q H' (e2.trans w)⟩
/-- over zip of two lists -/
theorem ev_gxZ {n : Nat} (h : EvA ta σ H [.ref a, .ref b]) (hx : SqL K H a xs) (hy : SqL K H b ys) (hn : n = min xs.length ys.length) (hT : Tab H P) (ok : okc n vals r) (hw : ∀ x y, wipe (((wipe σ vs).set j (some x)).set j2 (some y)) vs = wipe σ vs)
    (he : ∀ (i : Nat) (x y : V) H1, Ex H H1 → xs[i]? = some x → ys[i]? = some y → Ev te (((wipe σ vs).set j (some x)).set j2 (some y)) H1 (vals i)) : Ev (tGX P okc (iZip K ta) (gTup K 2 (gCons (gName j) (gCons (gName j2) gNil))) te vs) σ H r := fun H1 e Q q =>
  h H1 e _ fun H2 e2 => ⟨a, b, xs, ys, rfl, ex_l (e.trans e2) hx, ex_l (e.trans e2) hy, hT.mono (e.trans e2), n, vals, r, fun _ H' => Ex H2 H', ok, Ex.refl _, fun i H' hi w => ⟨⟨xs, ys, xs[i]'(by omega), ys[i]'(by omega), ex_l ((e.trans e2).trans w) hx, ex_l ((e.trans e2).trans w) hy, List.getElem?_eq_getElem _, List.getElem?_eq_getElem _⟩, fun x H3 hz => by
    obtain ⟨T, x1, y1, rfl, hT1, rfl, h1, h2⟩ := hz
    have e3 := ((e.trans e2).trans w).trans (Ex.new (o := .tup [x1, y1]) hT1)
    refine ⟨T, _, rfl, st_of upd_same, rfl, _, _, rfl, _, _, rfl, rfl, hw x1 y1, ?_⟩
    exact he i x1 y1 _ e3 (h1 xs (ex_l ((e.trans e2).trans w) hx)) (h2 ys (ex_l ((e.trans e2).trans w) hy)) _ (Ex.refl _) _ fun H4 e4 => ⟨rfl, (w.trans (Ex.new hT1)).trans e4⟩⟩, fun H' w => ⟨xs, ys, ex_l ((e.trans e2).trans w) hx, ex_l ((e.trans e2).trans w) hy, by omega⟩, fun i H' _ w => q H' (e2.trans w)⟩
theorem ok_all {n : Nat} (f : Nat → Bool) : okAll n (fun i => .bl (f i)) (.bl (allF n f)) := ⟨f, rfl, rfl⟩
theorem ok_any {n : Nat} (f : Nat → Bool) : okAny n (fun i => .bl (f i)) (.bl (anyF n f)) := ⟨f, rfl, rfl⟩
theorem ok_sum {n : Nat} (f : Nat → Int) (h : ∀ j, j < n → InLong (f j) ∧ InLong (preSum f (j + 1))) : okSum n (fun i => .int (f i)) (.int (preSum f n)) := ⟨f, rfl, rfl, h⟩
theorem ok_max {n : Nat} (f : Nat → Int) (h : 0 < n) : okMax n (fun i => .int (f i)) (.int (topI f (n - 1))) := ⟨f, rfl, rfl, h⟩
/-- sum(a new list of ints) -/
theorem ev_sumN {ns : List Int} (h : EvL te σ H (ns.map V.int)) : Ev (tCB (rSum K) (tCons te tNil)) σ H (.int ns.sum) := fun H1 e Q q =>
  h H1 e _ fun p H2 _ e2 h2 => ⟨p, ns, rfl, sq_of h2, q H2 e2⟩
end
end LV
namespace LV
open PySem PySem.Spec PyProof.Rows L2 Evl LT LG LH LP StX
section
variable {K : PySem.W.Frag} {σ : L2.St} {H H' : Hp} {tl te ta tb : TE} {t : TA} {p l : Addr} {xs ys : List V} {v : V} {D : Ends} {tz : TS}
theorem ea_starT (h : Ev te σ H (.ref p)) (hx : SqT K H p xs) (hr : EvA t σ H ys) : EvA (tStar K te t) σ H (xs ++ ys) := fun H1 e Q q =>
  h H1 e _ fun H2 e2 => ⟨p, xs, rfl, .inl (ex_t (e.trans e2) hx), hr H2 (e.trans e2) _ fun H3 e3 => q H3 (e2.trans e3)⟩
theorem ea_starN (h : EvL te σ H xs) (hr : EvA t σ H ys) : EvA (tStar K te t) σ H (xs ++ ys) := fun H1 e Q q =>
  h H1 e _ fun p H2 _ e2 h2 => ⟨p, xs, rfl, .inr (sq_of h2), hr H2 (e.trans e2) _ fun H3 e3 => q H3 (e2.trans e3)⟩
theorem cut_mid (xs : List V) {i j : Nat} (h : i ≤ j) (hj : j ≤ xs.length) : cutV xs (some (i : Int)) (some (j : Int)) = (xs.drop i).take (j - i) := by
  unfold cutV
  rw [HT.sIx_nat, HT.sIx_nat]; try rw [show min j xs.length = j from Nat.min_eq_left hj]
  rw [show min i xs.length = i from Nat.min_eq_left (Nat.le_trans h hj)]
/-- xs[i] of a new list -/
theorem ev_ixN {i : Int} (ha : EvL ta σ H xs) (hb : ∀ H1, Ex H H1 → Ev tb σ H1 (.int i)) (h : atI xs i = some v) : Ev (tOp (rIxL K) ta tb) σ H v := ev_opL1 ha hb fun p H1 h1 _ => rv_ixL (sq_of h1) h
/-- tuple(a list that stands or is new) is eu_tupL; of a tuple: the same -/
theorem ev_tupT (h : Ev te σ H (.ref p)) (hx : SqT K H p xs) : Ev (tCB (fun zs H Q => ∃ p ys, zs = [.ref p] ∧ ((SqL K H p ys ∧ ∀ l, H l = none → Q (.ref l) (upd H l (.tup ys))) ∨ (SqT K H p ys ∧ Q (.ref p) H))) (tCons te tNil)) σ H (.ref p) := fun H1 e Q q =>
  h H1 e _ fun H2 e2 => ⟨p, xs, rfl, .inr ⟨ex_t (e.trans e2) hx, q H2 e2⟩⟩
theorem ev_lenL (ha : Ev te σ H (.ref p)) (h : H p = some (.lst xs)) : Ev (tCB (rLenS K) (tCons te tNil)) σ H (.int (xs.length : Int)) := ev_len ha (sq_of h)
/-- a tuple made of a new tuple and .. -/
theorem q_appUL {ys : List V} (hl : H l = some (.lst xs)) (ha : Ev ta σ H (.ref l)) (h : EvU te σ H ys) (hz : xs.length < 100000) (k : ∀ p H1, H p = none → Ex H H1 → H1 p = some (.tup ys) → tz D σ (upd H1 l (.lst (xs ++ [.ref p])))) :
    tSeq (tDrop (tBM K "list" rAppend ta (tCons te tNil))) tz D σ H := q_appU hl ha h hz k
end
/-! ### heaps in which one object may change -/
def Bx (p : Addr) (H H' : Hp) : Prop := ∀ a o, a ≠ p → H a = some o → H' a = some o
theorem Bx.of {p : Addr} {H H' : Hp} (e : Ex H H') : Bx p H H' := fun a o _ h => e a o h
theorem Bx.trans {p : Addr} {H H1 H2 : Hp} (e : Bx p H H1) (f : Bx p H1 H2) : Bx p H H2 := fun a o n h => f a o n (e a o n h)
theorem Bx.up {p : Addr} {H H' : Hp} {o : HO} (e : Bx p H H') : Bx p H (upd H' p o) := fun a u n h => by
  rw [upd_ne n]
  exact e a u n h
theorem Bx.ex {p : Addr} {H0 H H' : Hp} (e : Ex H0 H) (f : Bx p H H') (n : H0 p = none) : Ex H0 H' := fun a o h => f a o (fun z => by rw [z, n] at h; cases h) (e a o h)
theorem Bx.back {p q : Addr} {H H' : Hp} (e : Bx p H H') (n : q ≠ p) (h : H' q = none) : H q = none := by
  cases h1 : H q with
  | none => rfl
  | some o =>
    rw [e q o n h1] at h
    cases h
end LV
namespace LV
open PySem PySem.Spec PyProof.Rows L2 Evl LT LG LH LP StX
section
variable {σ : L2.St} {H : Hp} {t1 t2 te : TE} {v1 v2 : V} {xs ys : List V} {sp : Sp} {E : XK} {D : Ends} {tz : TS}
/-- x = f(e, a new list) -/
theorem q_call2L {i : Nat} (h1 : Ev t1 σ H v1) (h2 : EvL te σ H xs) (k : ∀ c H1, H c = none → Ex H H1 → H1 c = some (.lst xs) → sp [v1, .ref c] H1 (fun v H2 => tz D (σ.set i (some v)) H2) E) : tSeq (tAsg (tCall sp [] E (tCons t1 (tCons te tNil))) (gName i)) tz D σ H :=
  h1 H (Ex.refl _) _ fun H1 e1 => h2 H1 e1 _ fun c H2 hc e2 h3 => k c H2 (fresh_back e1 hc) (e1.trans e2) h3
theorem ev_is' (h : EvU te σ H xs) (e : xs = ys) : EvU te σ H ys := by
  rw [← e]
  exact h
end
end LV
namespace LV
open PySem PySem.Spec PyProof.Rows L2 Evl LT LG LH LP StX
/-! ### a heap without some of its objects -/
def frz (S : List Addr) (H : Hp) : Hp := fun a => if a ∈ S then none else H a
theorem frz_ne {S : List Addr} {H : Hp} {a : Addr} (h : a ∉ S) : frz S H a = H a := if_neg h
theorem frz_upd {S : List Addr} {H : Hp} {a : Addr} {o : HO} (h : a ∈ S) : frz S (upd H a o) = frz S H := funext fun b => by
  unfold frz
  by_cases hb : b ∈ S
  · rw [if_pos hb, if_pos hb]
  · rw [if_neg hb, if_neg hb, upd_ne fun z => hb (by rw [z]; exact h)]
theorem frz_ex {S : List Addr} {H : Hp} : Ex (frz S H) H := fun a o h => by
  unfold frz at h
  by_cases hb : a ∈ S
  · rw [if_pos hb] at h
    cases h
  · rw [if_neg hb] at h
    exact h
theorem ex_frz {S : List Addr} {H H' : Hp} (e : Ex H H') : Ex (frz S H) (frz S H') := fun a o h => by
  unfold frz at h ⊢
  by_cases hb : a ∈ S
  · rw [if_pos hb] at h
    cases h
  · rw [if_neg hb] at h ⊢
    exact e _ _ h
theorem frz_some {S : List Addr} {H : Hp} {a : Addr} {o : HO} (h : frz S H a = some o) : a ∉ S ∧ H a = some o := by
  unfold frz at h
  by_cases hb : a ∈ S
  · rw [if_pos hb] at h
    cases h
  · rw [if_neg hb] at h
    exact ⟨hb, h⟩
theorem Bx.mut {p w : Addr} {H H' : Hp} {o : HO} (e : Bx p H H') (h : H w = none) : Bx p H (upd H' w o) := fun a u n ha => by
  rw [upd_ne fun z => by rw [z, h] at ha; cases ha]
  exact e a u n ha
theorem Bx.l {K : PySem.W.Frag} {p a : Addr} {H H' : Hp} {xs : List V} (e : Bx p H H') (n : a ≠ p) (h : SqL K H a xs) : SqL K H' a xs := by
  rcases h with (h | ⟨o, h⟩) | h
  · exact .inl (.inl (e _ _ n h))
  · exact .inl (.inr ⟨o, e _ _ n h⟩)
  · exact .inr h
end LV
namespace LV
open PySem PySem.Spec PyProof.Rows L2 Evl LT LG LH LP StX
/-- what a for over the list a asks -/
abbrev FB (K : PySem.W.Frag) (a : Addr) (g : TG) (tb : TS) (D : Ends) (σ : L2.St) (H : Hp) : Prop := ∃ W : Nat → Nat → L2.St → Hp → Prop, (∃ m, W 0 m σ H) ∧ ∀ i m σ H, W i m σ H →
  ((Itl K a).stop i H ∧ D.nx σ H) ∨ ((Itl K a).go i H ∧ ∃ N : L2.St → Hp → Prop, (∀ σ' H', N σ' H' → ∃ m', m' < m ∧ W (i + 1) m' σ' H') ∧ ∀ x H', (Itl K a).yld i H x H' → g x σ H' fun σ2 H2 => tb { D with nx := N, ct := N, bk := D.nx } σ2 H2)
/-- for .. in f(..): the call makes a list -/
theorem s_forCall {K : PySem.W.Frag} {σ : L2.St} {H : Hp} {g : TG} {tb : TS} {D : Ends} {sp : Sp} {E : XK} {tr : TA} {vs : List V} (h : EvA tr σ H vs) (k : ∀ H1, Ex H H1 → sp vs H1 (fun x H2 => ∃ a, x = V.ref a ∧ (∃ xs, SqL K H2 a xs) ∧ FB K a g tb D σ H2) E) : tFor (iList K (tCall sp [] E tr)) g tb D σ H :=
  h H (Ex.refl _) _ fun H1 e1 => by
    rw [List.append_nil]
    exact k H1 e1
theorem q_forCall {K : PySem.W.Frag} {σ : L2.St} {H : Hp} {g : TG} {tb tz : TS} {D : Ends} {sp : Sp} {E : XK} {tr : TA} {vs : List V} (h : EvA tr σ H vs) (k : ∀ H1, Ex H H1 → sp vs H1 (fun x H2 => ∃ a, x = V.ref a ∧ (∃ xs, SqL K H2 a xs) ∧ FB K a g tb { D with nx := tz D } σ H2) E) : tSeq (tFor (iList K (tCall sp [] E tr)) g tb) tz D σ H := s_forCall (D := { D with nx := tz D }) h k
section
variable {P : Program} {w : World} {K : PySem.W.Frag} {mg : Str → Option Value} {base : Heap}
/-- as FunC.ok, for a def that may raise -/
theorem _root_.LS.FunC.okX {x qual : Str} {st : Stmt} {f c : Addr} {fd : FuncData} {N ps : List Str} {k : Nat} {sp : Sp} (F : LS.FunC K x qual st f fd c) (S : FnScope N ps (defScope st)) (len : ∀ vs H Q E, sp vs H Q E → vs.length = ps.length)
    (hbody : ∀ (A : Around) (outer : List Env) (s : Shared) (H : Hp) (vs : List V) (Q : VK) (E : XK), Room k (A.deeper (envOfC qual (defScope st) s.heap.objs.size f (.ref c))) → sp vs H Q E →
      ∃ t, PSs (cxOf (L2.CX P w) P w K mg base N qual (defScope st) f (.ref c) A outer s H E) (defBody st) t ∧ t { nx := fun _ H' => Q .non H', rt := Q } (start N vs) H) : FnOk P w K mg base (L2.CX P w) (k + 1) f fd ps sp := by
  obtain ⟨oc, od, kV, doc, pm, an, ct, osl, rfl, lk, hcd⟩ := F.ex
  exact fn_of lk hcd S len fun A outer s H vs Q E hr hsp => hbody A outer s H vs Q E hr hsp
end
end LV

set_option Elab.async false
set_option linter.all false
set_option maxRecDepth 100000
set_option maxHeartbeats 4000000
namespace HE
open PySem PySem.Spec PyProof.Rows L2 Evl LT
/-! ### the head by facts: defs, their code objects, the walk's end -/
theorem fun_of {K : PySem.W.Frag} {x qual : Str} {st : Stmt} {f : Addr} {fd : FuncData} (F : FunD K x qual (defArgs st) (defBody st) (defScope st) [] [] f fd) : Fun K x qual st f fd := by
  obtain ⟨oc, od, dV, kV, doc, pm, an, cdv, ct, osl, rfl, lk, hcd, hd, _⟩ := F.ex
  have e : dV = .none := by
    rcases hd with ⟨_, h⟩ | ⟨h, _⟩
    · exact h
    · exact absurd rfl h
  subst e
  exact ⟨⟨oc, od, kV, doc, pm, an, cdv, ct, osl, rfl, lk, hcd⟩, F.kp⟩
theorem funC_of {K : PySem.W.Frag} {x qual : Str} {st : Stmt} {p : He.Defn} {fd : FuncData} (F : Fun K x qual st (He.fAd K p) fd) : LS.FunC K x qual st (He.fAd K p) fd (He.codeOf K p) := by
  obtain ⟨oc, od, kV, doc, pm, an, cdv, ct, osl, rfl, lk, hcd⟩ := F.ex
  obtain ⟨c, rfl⟩ := He.codeIn_ref hcd
  have e : He.codeOf K p = c := He.codeOf_eq lk rfl
  rw [e]
  exact ⟨⟨oc, od, kV, doc, pm, an, ct, osl, rfl, lk, hcd⟩, F.kp⟩
/-- what the Bool ex tells of the classes -/
def eqS (a b : Option (Option Value)) : Bool := decide (a = b)
theorem eqS_ok {a b : Option (Option Value)} (h : eqS a b = true) : a = b := of_decide_eq_true h
def dictC (K : PySem.W.Frag) (x : Str) : Bool := PySem.W.hasDictIn K (He.ga K x)
def subC (K : PySem.W.Frag) (x y : Str) (b : Bool) : Bool := decide (PySem.W.subIn K (.ref (He.ga K x)) (.ref (He.ga K y)) = some b)
theorem subC_ok {K : PySem.W.Frag} {x y : Str} {b : Bool} (h : subC K x y b = true) : PySem.W.subIn K (.ref (He.ga K x)) (.ref (He.ga K y)) = some b := of_decide_eq_true h
def excC (K : PySem.W.Frag) (x : Str) : Bool := eqS (PySem.W.findIn K (.ref (He.ga K x)) "__getattribute__") (some (some (.builtin "BaseException.__getattribute__"))) && (eqS (PySem.W.findIn K (.ref (He.ga K x)) "__getattr__") (some none) &&
  (decide (PySem.W.subIn K (.ref (He.ga K x)) (.type "BaseException") = some true) && (PySem.W.hasDictIn K (He.ga K x) && (eqS (PySem.W.findIn K (.ref (He.ga K x)) "__class__") (some (some (.builtin "object.__class__"))) &&
  (eqS (PySem.W.specialIn K (.builtin "object.__class__") "__get__") (some (some (.builtin "getset_descriptor.__get__"))) && (decide (PySem.W.takesIn K (.builtin "object.__class__") = some true) && decide (PySem.W.mroIn K (He.ga K x) (.type "object") = some true)))))))
theorem excC_ok {K : PySem.W.Frag} {x : Str} (h : excC K x = true) : ExcC K (He.ga K x) := by
  obtain ⟨h1, h⟩ := He.ba h
  obtain ⟨h2, h⟩ := He.ba h
  obtain ⟨h3, h⟩ := He.ba h
  obtain ⟨h4, h⟩ := He.ba h
  obtain ⟨h5, h⟩ := He.ba h
  obtain ⟨h6, h⟩ := He.ba h
  obtain ⟨h7, h8⟩ := He.ba h
  exact ⟨eqS_ok h1, eqS_ok h2, of_decide_eq_true h3, h4, eqS_ok h5, eqS_ok h6, of_decide_eq_true h7, of_decide_eq_true h8⟩
theorem xc_of {K : PySem.W.Frag} {h : Heap} {mg : Str → Option Value} {x : Str} (X : K.In h) (G : h.Ns mainGlobals mg) (g : (He.Fa.glo x).ok K = true) (c : (He.Fa.exc x).ok K = true) (d : dictC K x = true) : LX.Xc K mg x (He.ga K x) := by
  obtain ⟨h1, h2, h3, h4⟩ := He.exc_ok c
  exact ⟨He.glo_ok X G g, h1, h2, h3, h4, d⟩
theorem binds1 {K : PySem.W.Frag} {x qual y : Str} {st : Stmt} {f : Addr} {fd : FuncData} (F : Fun K x qual st f fd) (h : ∀ (kV doc pm : Value) (an : Option Addr) (cdv ct : Value) (u : Value), bindArgs (PySem.W.fnOf x qual (defArgs st) (defBody st) (defScope st) .none kV doc pm an cdv ct) ⟨[u], []⟩ = pure [(y, u)]) (s : Shared) (u : Value) : BindsTo s fd ⟨[u], []⟩ [(y, u)] := by
  obtain ⟨oc, od, kV, doc, pm, an, cdv, ct, osl, rfl, lk, hcd⟩ := F.ex
  exact .of_eq (h kV doc pm an cdv ct u)
/-- the walk, tables of any defs (methods too) -/
theorem walk_facts {l : PySem.W.OpenLaw} {n k : Nat} {q : Program} {loose : List Str} {XP : (Str → Option Value) → Heap → Prop} {YP : World → Heap → Prop} {d : DefRec} {x : Str}
    (hn : l.most = some n) (hn2 : n ≤ sizeLine) (hdf : d.params.defaults = []) (hr : Room k callerA)
    (F : ∀ (w : World) (mg : Str → Option Value) (fa : Addr) (h : Heap), YP w h → h.Ns mainGlobals mg → mg d.name = some (.ref fa) →
      ∃ (K : PySem.W.Frag) (fd : FuncData) (cs : List (Addr × Addr)) (sp : Sp), K.In h ∧ (∀ p ∈ cs, h.get? p.2 = some { cls := .none, data := .fields #[] } ∧ K.lookup p.2 = none ∧ PySem.W.CodeHd h p.1 p.2) ∧ (∀ (s : Shared) (u : Value), BindsTo s fd ⟨[u], []⟩ [(x, u)]) ∧
        (∀ (H : Hp) (a : Addr) (ns : List Int), ns.length ≤ n → (∀ p ∈ cs, Tab H p.2) → SqL K H a (ns.map V.int) → ∀ Q : VK, (∀ H', Ex H H' → Q (.bl true) H') → sp [.ref a] H Q fun _ _ _ => False) ∧
        ∀ base : Heap, K.In base → base.Ns mainGlobals mg → (∀ p ∈ cs, LamX.TabB base mg p.1 p.2) → FnOk l.prog w K mg base CX0 k fa fd [x] sp) :
    PySem.W.WalkO q loose XP YP l.row.toRowW d [] (fun f vs => PySem.call f vs) := by
  refine LamX.walk_ofTsE (x := x) (CX := fun _ => CX0) hn hn2 hdf hr (fun w mg fa h Y G hmg => ?_) (fun _ _ _ _ _ z => z)
  obtain ⟨K, fd, cs, sp, KX, hcs, hb, hsp, hF⟩ := F w mg fa h Y G hmg
  refine ⟨K, KX, fd, cs, spExt (cs.map fun p => p.2) sp, fun p hp => (hcs p hp).1, fun p hp => (hcs p hp).2.1, fun p hp => (hcs p hp).2.2, hb, fun H a ns hlen _ hH hS => ⟨fun b hb => ?_, ?_⟩, fun base h1 h2 h3 => ok_ext (hF base h1 h2 h3)⟩
  · obtain ⟨p, hp, rfl⟩ := List.mem_map.mp hb
    exact hH p hp
  · have hnt : ∀ p ∈ cs, extH (cs.map fun p => p.2) H p.2 = some (.ext (TabPhi p.2)) := fun p hp => extH_in (List.mem_map.mpr ⟨p, hp, rfl⟩)
    refine hsp _ a ns hlen hnt ?_ _ fun H' e => ⟨fun b hb => ?_, fun _ => rfl⟩
    · have out : ∀ {u : HO}, H a = some u → (∀ ts, u ≠ .tbl ts) → extH (cs.map fun p => p.2) H a = some u := fun {u} h1 h2 => by
        rw [extH_out fun hb => ?_]
        · exact h1
        · obtain ⟨p, hp, e⟩ := List.mem_map.mp hb
          have := hH p hp
          have e : p.2 = a := e
          rw [e, h1] at this
          cases this
          exact h2 _ rfl
      rcases hS with (h1 | ⟨o, h1⟩) | h1
      · exact .inl (.inl (out h1 fun _ z => by cases z))
      · exact .inl (.inr ⟨o, out h1 fun _ z => by cases z⟩)
      · exact .inr h1
    · obtain ⟨p, hp, rfl⟩ := List.mem_map.mp hb
      exact e _ _ (hnt p hp)
end HE

set_option Elab.async false
set_option linter.all false
set_option maxRecDepth 100000
set_option maxHeartbeats 4000000
namespace LK
open PySem PySem.Spec PyProof.Rows L2 Evl

/-! ### data that == serves -/
def Sh (n : Nat) (d : PyData) : Prop := d.canLay0 = true ∧ d.depth ≤ n
theorem sh_int (i : Int) (n : Nat := 0) : Sh n (.int i) := ⟨by simp [PyData.canLay0], by simp [PyData.depth]⟩
theorem sh_bool (b : Bool) (n : Nat := 0) : Sh n (.bool b) := ⟨by simp [PyData.canLay0], by simp [PyData.depth]⟩
theorem sh_none (n : Nat := 0) : Sh n .none := ⟨by simp [PyData.canLay0], by simp [PyData.depth]⟩
theorem sh_all {n : Nat} : ∀ {ds : List PyData}, (∀ d ∈ ds, Sh n d) → PyData.canLayAll0 ds = true ∧ PyData.depthAll ds ≤ n
  | [], _ => ⟨by simp [PyData.canLayAll0], by simp [PyData.depthAll]⟩
  | d :: ds, h => by
    obtain ⟨h1, h2⟩ := h d List.mem_cons_self
    obtain ⟨h3, h4⟩ := sh_all fun e he => h e (List.mem_cons_of_mem _ he)
    refine ⟨?_, ?_⟩
    · rw [PyData.canLayAll0, h1, h3]
      rfl
    · rw [PyData.depthAll]
      omega
theorem sh_tup {n : Nat} {ds : List PyData} (h : ∀ d ∈ ds, Sh n d) : Sh (n + 1) (.tuple ds) := by
  obtain ⟨h1, h2⟩ := sh_all h
  refine ⟨?_, ?_⟩
  · rw [PyData.canLay0]
    exact h1
  · rw [PyData.depth]
    omega
theorem sh_lst {n : Nat} {ds : List PyData} (h : ∀ d ∈ ds, Sh n d) : Sh (n + 1) (.list ds) := by
  obtain ⟨h1, h2⟩ := sh_all h
  refine ⟨?_, ?_⟩
  · rw [PyData.canLay0]
    exact h1
  · rw [PyData.depth]
    omega
theorem Sh.up {n m : Nat} {d : PyData} (h : Sh n d) (e : n ≤ m) : Sh m d := ⟨h.1, Nat.le_trans h.2 e⟩
theorem Sh.shaped {n : Nat} {d : PyData} (h : Sh n d) (e : n ≤ 64) : SeqAt.shaped d = true := by
  unfold SeqAt.shaped
  rw [h.1, decide_eq_true (Nat.le_trans h.2 e)]
  rfl
theorem Sh.refl {n : Nat} {d : PyData} (h : Sh n d) : PyData.eqv d d = true := SeqAt.eqv_refl d h.1
theorem sh_ints (ns : List Int) : ∀ d ∈ ns.map PyData.int, Sh 0 d := fun d hd => by
  obtain ⟨i, _, rfl⟩ := List.mem_map.mp hd
  exact sh_int i
section
variable {K : PySem.W.Frag} {H H' : Hp}
theorem dp_ints : ∀ ns : List Int, DpAll K H (ns.map V.int) (ns.map PyData.int)
  | [] => .nil
  | n :: r => .cons (.int n) (dp_ints r)
mutual
theorem dp_mono (e : Ex H H') : ∀ {v : V} (d : PyData), Dp K H v d → Dp K H' v d
  | _, .none, h => by cases h; exact .non
  | _, .bool b, h => by cases h; exact .bl b
  | _, .int i, h => by cases h; exact .int i
  | _, .str x, h => by cases h; exact .str x
  | _, .list ds, h => by
    cases h with
    | lst h1 h2 => exact .lst (ex_l e h1) (dpa_mono e ds h2)
  | _, .tuple ds, h => by
    cases h with
    | tup h1 h2 => exact .tup (ex_t e h1) (dpa_mono e ds h2)
  | _, .dict _, h => by cases h
theorem dpa_mono (e : Ex H H') : ∀ {vs : List V} (ds : List PyData), DpAll K H vs ds → DpAll K H' vs ds
  | _, [], h => by cases h; exact .nil
  | _, d :: ds, h => by
    cases h with
    | cons h1 h2 => exact .cons (dp_mono e d h1) (dpa_mono e ds h2)
end
/-- two values of the same data: == True, != False -/
theorem rv_eqD {x y : V} {d : PyData} {n : Nat} (hx : Dp K H x d) (hy : Dp K H y d) (s : Sh n d) (hn : n ≤ 64) : RV (rEqD K) x y H (.bl true) := rv_val fun H1 e Q q =>
  ⟨d, d, dp_mono e d hx, dp_mono e d hy, s.shaped hn, s.shaped hn, by rw [s.refl]; exact q⟩
theorem rv_neD {x y : V} {d : PyData} {n : Nat} (hx : Dp K H x d) (hy : Dp K H y d) (s : Sh n d) (hn : n ≤ 64) : RV (rNeD K) x y H (.bl false) := rv_val fun H1 e Q q =>
  ⟨d, d, dp_mono e d hx, dp_mono e d hy, s.shaped hn, s.shaped hn, by rw [s.refl]; exact q⟩
/-- of any two data -/
theorem rv_neDD {x y : V} {d f : PyData} {n : Nat} (hx : Dp K H x d) (hy : Dp K H y f) (s : Sh n d) (s' : Sh n f) (hn : n ≤ 64) : RV (rNeD K) x y H (.bl (!PyData.eqv d f)) := rv_val fun H1 e Q q =>
  ⟨d, f, dp_mono e d hx, dp_mono e f hy, s.shaped hn, s'.shaped hn, q⟩
theorem rv_eqDD {x y : V} {d f : PyData} {n : Nat} (hx : Dp K H x d) (hy : Dp K H y f) (s : Sh n d) (s' : Sh n f) (hn : n ≤ 64) : RV (rEqD K) x y H (.bl (PyData.eqv d f)) := rv_val fun H1 e Q q =>
  ⟨d, f, dp_mono e d hx, dp_mono e f hy, s.shaped hn, s'.shaped hn, q⟩
theorem rv_ltT {a b : Addr} {ns ms : List Int} (ha : SqT K H a (ns.map V.int)) (hb : SqT K H b (ms.map V.int)) : RV (rLtT K) (.ref a) (.ref b) H (.bl (HT.lexLt ns ms)) := rv_val fun H1 e Q q =>
  ⟨a, b, ns, ms, rfl, rfl, ex_t e ha, ex_t e hb, q⟩
def leV (ns ms : List Int) : Bool := Ob.lexAt (fun j => decide (ns.getD j 0 = ms.getD j 0)) (fun j => decide (ns.getD j 0 ≤ ms.getD j 0)) (decide (ns.length ≤ ms.length)) 0 (min ns.length ms.length)
theorem rv_leT {a b : Addr} {ns ms : List Int} (ha : SqT K H a (ns.map V.int)) (hb : SqT K H b (ms.map V.int)) : RV (rLeT K) (.ref a) (.ref b) H (.bl (leV ns ms)) := rv_val fun H1 e Q q =>
  ⟨a, b, ns, ms, rfl, rfl, ex_t e ha, ex_t e hb, q⟩

/-! ### reading a cell of the script -/
def cellv (ns : List Int) (k : Nat) : Int := ns.getD k 0
theorem cellv_in {ns : List Int} {k : Nat} (hk : k < ns.length) : (ns.map V.int)[k]? = some (.int (cellv ns k)) := by
  rw [List.getElem?_map, List.getElem?_eq_getElem hk]
  unfold cellv
  rw [List.getD_eq_getElem?_getD, List.getElem?_eq_getElem hk]
  rfl
theorem cellv_out {ns : List Int} {k : Nat} (hk : ns.length ≤ k) : cellv ns k = 0 := by
  unfold cellv
  rw [List.getD_eq_getElem?_getD, List.getElem?_eq_none hk]
  rfl
def spCel (K : PySem.W.Frag) : Sp := fun vs H Q _ => ∃ (a : Addr) (ns : List Int) (k : Nat), vs = [.ref a, .int (k : Int)] ∧ SqL K H a (ns.map V.int) ∧ RetV (.int (cellv ns k)) H Q
theorem sv_cell {a : Addr} {ns : List Int} {k : Nat} {z : Int} (h : SqL K H a (ns.map V.int)) (e : z = (k : Int)) : SpV (spCel K) [.ref a, .int z] H (.int (cellv ns k)) := fun H1 e1 Q q E =>
  ⟨a, ns, k, by rw [e], ex_l e1 h, fun H2 e2 => q H2 e2⟩
end
end LK

namespace K06
open PySem PySem.Spec PyProof.Rows L2 Evl LK LT LG LS LQ LX LO LN LP
def top (i : Nat) : Stmt := PySem.Challenge.pw_laminae_k06_disk_from_image.main.body.getD i (.Pass ⟨0, 0, 0, 0⟩)
abbrev sIw : Stmt := top 7
theorem scIw : FnScope ["value"] ["value"] (defScope sIw) := ⟨rfl, rfl, rfl, by decide +kernel, rfl, by decide +kernel, by decide +kernel⟩
abbrev sAre : Stmt := top 8
theorem scAre : FnScope ["values", "many"] ["values", "many"] (defScope sAre) := ⟨rfl, rfl, rfl, by decide +kernel, rfl, by decide +kernel, by decide +kernel⟩
abbrev sSize : Stmt := top 14
theorem scSize : FnScope ["blocks"] ["blocks"] (defScope sSize) := ⟨rfl, rfl, rfl, by decide +kernel, rfl, by decide +kernel, by decide +kernel⟩
abbrev sInit : Stmt := inClass (top 15) 0
theorem scInit : FnScope ["self", "blocks", "_"] ["self", "blocks"] (defScope sInit) := ⟨rfl, rfl, rfl, by decide +kernel, rfl, by decide +kernel, by decide +kernel⟩
abbrev sRead : Stmt := inClass (top 15) 1
theorem scRead : FnScope ["self", "sector"] ["self", "sector"] (defScope sRead) := ⟨rfl, rfl, rfl, by decide +kernel, rfl, by decide +kernel, by decide +kernel⟩
abbrev sWrite : Stmt := inClass (top 15) 2
theorem scWrite : FnScope ["self", "sector", "words", "written"] ["self", "sector", "words"] (defScope sWrite) := ⟨rfl, rfl, rfl, by decide +kernel, rfl, by decide +kernel, by decide +kernel⟩
abbrev sFlush : Stmt := inClass (top 15) 3
theorem scFlush : FnScope ["self"] ["self"] (defScope sFlush) := ⟨rfl, rfl, rfl, by decide +kernel, rfl, by decide +kernel, by decide +kernel⟩
abbrev sWait : Stmt := inClass (top 15) 4
theorem scWait : FnScope ["self", "sector", "words"] ["self"] (defScope sWait) := ⟨rfl, rfl, rfl, by decide +kernel, rfl, by decide +kernel, by decide +kernel⟩
abbrev sImg : Stmt := inClass (top 15) 7
theorem scImg : FnScope ["self", "words"] ["self"] (defScope sImg) := ⟨rfl, rfl, rfl, by decide +kernel, rfl, by decide +kernel, by decide +kernel⟩
abbrev sLast : Stmt := inClass (top 15) 8
theorem scLast : FnScope ["self", "words"] ["self"] (defScope sLast) := ⟨rfl, rfl, rfl, by decide +kernel, rfl, by decide +kernel, by decide +kernel⟩
abbrev sSec : Stmt := inClass (top 15) 9
theorem scSec : FnScope ["self", "sector"] ["self", "sector"] (defScope sSec) := ⟨rfl, rfl, rfl, by decide +kernel, rfl, by decide +kernel, by decide +kernel⟩
abbrev sBeg : Stmt := inClass (top 15) 10
theorem scBeg : FnScope ["self"] ["self"] (defScope sBeg) := ⟨rfl, rfl, rfl, by decide +kernel, rfl, by decide +kernel, by decide +kernel⟩
abbrev sSet : Stmt := inClass (top 15) 11
theorem scSet : FnScope ["self", "choices", "sector", "words", "many"] ["self", "choices"] (defScope sSet) := ⟨rfl, rfl, rfl, by decide +kernel, rfl, by decide +kernel, by decide +kernel⟩
abbrev sDf : Stmt := top 16
theorem scDf : FnScope ["image", "blocks", "left", "disk", "sector", "words"] ["image"] (defScope sDf) := ⟨rfl, rfl, rfl, by decide +kernel, rfl, by decide +kernel, by decide +kernel⟩
abbrev sTape : Stmt := top 18
theorem scTape : FnScope ["script", "tape", "k", "value", "step"] ["script"] (defScope sTape) := ⟨rfl, rfl, rfl, by decide +kernel, rfl, by decide +kernel, by decide +kernel⟩
abbrev sAt : Stmt := top 19
theorem scAt : FnScope ["tape", "k"] ["tape", "k"] (defScope sAt) := ⟨rfl, rfl, rfl, by decide +kernel, rfl, by decide +kernel, by decide +kernel⟩
abbrev sZer : Stmt := top 20
theorem scZer : FnScope [] [] (defScope sZer) := ⟨rfl, rfl, rfl, by decide +kernel, rfl, by decide +kernel, by decide +kernel⟩
abbrev sWords : Stmt := top 21
theorem scWords : FnScope ["number", "extra", "words", "j"] ["number", "extra"] (defScope sWords) := ⟨rfl, rfl, rfl, by decide +kernel, rfl, by decide +kernel, by decide +kernel⟩
abbrev sEq : Stmt := top 25
theorem scEq : FnScope ["told", "due", "j"] ["told", "due"] (defScope sEq) := ⟨rfl, rfl, rfl, by decide +kernel, rfl, by decide +kernel, by decide +kernel⟩
abbrev sSp : Stmt := top 27
theorem scSp : FnScope ["image", "kind", "sector", "words", "k"] ["image", "kind", "sector"] (defScope sSp) := ⟨rfl, rfl, rfl, by decide +kernel, rfl, by decide +kernel, by decide +kernel⟩
abbrev sTo : Stmt := top 28
theorem scTo : FnScope ["image", "disk", "e"] ["image"] (defScope sTo) := ⟨rfl, rfl, rfl, by decide +kernel, rfl, by decide +kernel, by decide +kernel⟩
abbrev sTs : Stmt := top 29
theorem scTs : FnScope ["blocks", "e"] ["blocks"] (defScope sTs) := ⟨rfl, rfl, rfl, by decide +kernel, rfl, by decide +kernel, by decide +kernel⟩
abbrev sLaw : Stmt := top 30
theorem scLaw : FnScope ["script", "tape", "blocks", "image", "k", "sector", "size", "kept", "disk", "lasting", "words"] ["script"] (defScope sLaw) := ⟨rfl, rfl, rfl, by decide +kernel, rfl, by decide +kernel, by decide +kernel⟩
structure Txt (mg : Str → Option Value) (K : PySem.W.Frag) (C : Addr) : Prop where
  len : mg "len" = none
  range : mg "range" = none
  tuple : mg "tuple" = none
  list : mg "list" = none
  dict : mg "dict" = none
  isinstance : mg "isinstance" = none
  zip : mg "zip" = none
  abs : mg "abs" = none
  int : mg "int" = none
  bool : mg "bool" = none
  min : mg "min" = none
  all : mg "all" = none
  divmod : mg "divmod" = none
  enumerate : mg "enumerate" = none
  gMIN_BLOCKS : ∃ t, mg "MIN_BLOCKS" = some (.int 96 t)
  gMAX_BLOCKS : ∃ t, mg "MAX_BLOCKS" = some (.int 256 t)
  gSECTOR_WORDS : ∃ t, mg "SECTOR_WORDS" = some (.int 8 t)
  gBLOCK_SECTORS : ∃ t, mg "BLOCK_SECTORS" = some (.int 4 t)
  cl : Cls K C
  nb : NoAttr K C "blocks"
  nk : NoAttr K C "_kept"
  ns : NoAttr K C "_shown"
  nw : NoAttr K C "_writes"
  np : NoAttr K C "_powered"
  nf : NoAttr K C "_before_failure"
  mgC : mg "Disk" = some (.ref C)
/-! ### the tape: some numbers from 0 to 999 -/
def Good (ts : List Int) : Prop := ∀ t ∈ ts, 0 ≤ t ∧ t < 1000
theorem Good.snoc {ts : List Int} {t : Int} (h : Good ts) (h0 : 0 ≤ t) (h1 : t < 1000) : Good (ts ++ [t]) := fun z hz => by
  rcases List.mem_append.mp hz with q | q
  · exact h z q
  · rw [List.mem_singleton.mp q]
    exact ⟨h0, h1⟩
theorem Good.cell {ts : List Int} (h : Good ts) (k : Nat) : 0 ≤ cellv ts k ∧ cellv ts k < 1000 := by
  unfold cellv
  rw [List.getD_eq_getElem?_getD]
  cases e : ts[k]? with
  | none => exact ⟨by decide, by decide⟩
  | some t => exact h t (List.mem_of_getElem? e)
def spTape (K : PySem.W.Frag) : Sp := fun vs H Q _ => ∃ (a : Addr) (ns : List Int), vs = [.ref a] ∧ SqL K H a (ns.map V.int) ∧ ns.length ≤ 63 ∧ ∀ (p : Addr) (H' : Hp) (ts : List Int), H p = none → Ex H H' → H' p = some (.lst (ts.map V.int)) → Good ts → ts.length ≤ 3780 → Q (.ref p) H'
section
variable {P : Program} {w : World} {K : PySem.W.Frag} {mg : Str → Option Value} {base : Heap} {C : Addr}
theorem ok_tape {f : Addr} {fd : FuncData} (F : Fun K "_law_tape" "_law_tape" sTape f fd) (T : Txt mg K C) : FnOk P w K mg base CX0 1 f fd ["script"] (spTape K) := by
  refine F.ok scTape (fun vs H Q E h => ?_) (fun cdv A outer s H vs Q E hr h => ?_)
  · obtain ⟨a, ns, rfl, _⟩ := h
    rfl
  · obtain ⟨a, ns, rfl, hS, hlen, q⟩ := h
    refine ⟨_, (pss_cons (ps_set (i := 1) scTape.nd rfl (Or.inl rfl) (pe_lst pa_nil))
      (pss_cons (ps_for PassesOwn.never rfl (pi_range1 (by rfl) T.range (pa_cons (pe_callB call_len_seq (by rfl) T.len (by decide +kernel) (pa_cons (pv 0) pa_nil)) pa_nil)) (pg_name (i := 2) scTape.nd rfl (Or.inl rfl)) (pss_cons (ps_set (i := 3) scTape.nd rfl (Or.inl rfl) (pe_callB call_abs (by rfl) T.abs (by decide +kernel) (pa_cons (pe_callTy call_int1 (by rfl) T.int (by decide +kernel) (pa_cons (pe_ix ix_list (pv 0) (pv 2) (fun _ _ => rfl)) pa_nil)) pa_nil)))
      (pss_one (ps_if (pt_cmpR op_ge (pv 3) (pe_op op_pow pe_int pe_int) (nomark _)) (pss_one (ps_for PassesOwn.never rfl (pi_range1 (by rfl) T.range (pa_cons pe_int pa_nil)) (pg_name (i := 4) scTape.nd rfl (Or.inl rfl)) (pss_one (ps_if (pt_cmpR op_gt (pv 3) pe_int (nomark _)) (pss_cons (ps_expr (pe_bm PySem.F.plainAttrs_list PySem.F.slot_list_append PySem.F.type_list_append mt_append (pv 1) (pa_cons (pe_op op_mod (pv 3) pe_int) pa_nil)))
      (pss_one (ps_set (i := 3) scTape.nd rfl (Or.inl rfl) (pe_op op_fdiv (pv 3) pe_int)))) pss_nil)))) (pss_one (ps_for PassesOwn.never rfl (pi_range1 (by rfl) T.range (pa_cons pe_int pa_nil)) (pg_name (i := 4) scTape.nd rfl (Or.inl rfl)) (pss_cons (ps_set (i := 3) scTape.nd rfl (Or.inl rfl) (pe_op op_mod (pe_op op_add (pe_op op_add (pe_op op_mul (pv 3) pe_int) (pe_op op_mul pe_int (pe_op op_add (pv 2) pe_int))) (pe_op op_mul pe_int (pv 4))) pe_int))
      (pss_cons (ps_set (i := 3) scTape.nd rfl (Or.inl rfl) (pe_op op_mod (pe_op op_mul (pv 3) pe_int) pe_int))
      (pss_one (ps_expr (pe_bm PySem.F.plainAttrs_list PySem.F.slot_list_append PySem.F.type_list_append mt_append (pv 1) (pa_cons (pe_op op_mod (pe_op op_fdiv (pv 3) pe_int) pe_int) pa_nil))))))))))))
      (pss_one (ps_ret (pv 1))))), ?_⟩
    refine q_asgL (el_lst ea_nil (by decide)) fun ta H1 hta e1 h1 => ?_
    have len : Ev (tCB (rLenS K) (tCons (tVar 0) tNil)) [some (.ref a), some (.ref ta), none, none, none] H1 (.int (ns.length : Int)) := ev_is (ev_len (ev_var rfl) (ex_l e1 hS)) (by rw [List.length_map])
    refine q_forR1 (n := (ns.length : Int)) (ea_cons len ea_nil) ⟨by omega, by omega⟩
      (fun i σ' H' => ∃ ts y2 y3 y4, σ' = [some (.ref a), some (.ref ta), y2, y3, y4] ∧ Ex H H' ∧ H' ta = some (.lst (ts.map V.int)) ∧ Good ts ∧ ts.length ≤ 60 * i)
      (fun H2 e2 => ⟨[], none, none, none, rfl, e1.trans e2, e2 _ _ h1, (fun _ z => by cases z), by simp⟩) ?_ ?_
    · rintro i σ' H' hi ⟨ts, y2, y3, y4, rfl, e0, ht, hg, hl⟩
      have hi' : i < ns.length := by omega
      refine q_asg (ev_cb (ea_cons (ev_cb (ea_cons (ev_op (ev_var rfl) (ev_var rfl) (rv_ixL (ex_l e0 hS) (atI_nat (v := .int ns[i]) (by rw [List.getElem?_map, List.getElem?_eq_getElem hi']; rfl)))) ea_nil) (fun H1 _ Q q => .inl ⟨_, rfl, q _ (Ex.refl _)⟩)) ea_nil) (fun H1 _ Q q => ⟨_, rfl, q _ (Ex.refl _)⟩)) fun H2 e2 => ?_
      generalize (if ns[i] < 0 then -ns[i] else ns[i]) = v
      refine s_if (et_test (ev_op (ev_var rfl) (ev_op ev_c ev_c (rv_I ⟨by decide, by decide, by decide⟩)) rv_I0)) (fun _ H3 e3 => ?_) (fun _ H3 e3 => ?_)
      · refine s_forR1 (n := 60) (ea_cons ev_c ea_nil) ⟨by decide, by decide⟩ (fun j σ2 H4 => ∃ us z y4, σ2 = [some (.ref a), some (.ref ta), some (.int (i : Int)), some (.int z), y4] ∧ Ex H H4 ∧ H4 ta = some (.lst (us.map V.int)) ∧ Good us ∧ us.length ≤ 60 * i + j)
          (fun H4 e4 => ⟨ts, v, y4, rfl, ((e0.trans e2).trans e3).trans e4, ((e2.trans e3).trans e4) _ _ ht, hg, by omega⟩) ?_ ?_
        · rintro j σ2 H4 hj ⟨us, z, y4', rfl, e4, hu, hgu, hlu⟩
          refine s_when (et_test (ev_op (ev_var rfl) ev_c rv_I0)) (fun _ H5 e5 => ?_) (fun _ H5 e5 => ⟨us, z, _, rfl, e4.trans e5, e5 _ _ hu, hgu, by omega⟩)
          refine q_app (v := .int (z % 1000)) (e5 _ _ hu) (ev_var rfl) (ev_op (ev_var rfl) ev_c (rv_I (by show (0 : Int) < 1000; decide))) (by rw [List.length_map]; omega) fun H6 e6 => ?_
          have nta : H ta = none := hta
          refine s_asg (ev_op (ev_var rfl) ev_c (rv_I ⟨by decide, by decide⟩)) fun H7 e7 => ⟨us ++ [z % 1000], _, _, rfl, ((e4.trans e5).trans e6).mut nta |>.trans e7, ?_, hgu.snoc (by omega) (by omega), by rw [List.length_append, List.length_singleton]; omega⟩
          rw [e7 ta _ upd_same, List.map_append]
          rfl
        · rintro σ2 H4 ⟨us, z, y4', rfl, e4, hu, hgu, hlu⟩
          exact ⟨us, _, _, _, rfl, e4, hu, hgu, by show us.length ≤ 60 * (i + 1); have : us.length ≤ 60 * i + (60 : Int).toNat := hlu; omega⟩
      · refine s_forR1 (n := 4) (ea_cons ev_c ea_nil) ⟨by decide, by decide⟩ (fun j σ2 H4 => ∃ us z y4, σ2 = [some (.ref a), some (.ref ta), some (.int (i : Int)), some (.int z), y4] ∧ Ex H H4 ∧ H4 ta = some (.lst (us.map V.int)) ∧ Good us ∧ us.length ≤ 60 * i + j)
          (fun H4 e4 => ⟨ts, v, y4, rfl, ((e0.trans e2).trans e3).trans e4, ((e2.trans e3).trans e4) _ _ ht, hg, by omega⟩) ?_ ?_
        · rintro j σ2 H4 hj ⟨us, z, y4', rfl, e4, hu, hgu, hlu⟩
          refine q_asg (ev_op (ev_op (ev_op (ev_op (ev_var rfl) ev_c (rv_I (.inr ⟨by decide, by decide⟩))) (ev_op ev_c (ev_op (ev_var rfl) ev_c rv_I0) (rv_I (.inl ⟨by decide, by decide⟩))) rv_I0) (ev_op ev_c (ev_var rfl) (rv_I (.inl ⟨by decide, by decide⟩))) rv_I0) ev_c (rv_I (by show (0 : Int) < 2147483647; decide))) fun H5 e5 => ?_
          refine q_asg (ev_op (ev_op (ev_var rfl) ev_c (rv_I (.inr ⟨by decide, by decide⟩))) ev_c (rv_I (by show (0 : Int) < 2147483647; decide))) fun H6 e6 => ?_
          generalize (z * 48271 + 69621 * ((i : Int) + 1) + 7 * (j : Int)) % 2147483647 * 16807 % 2147483647 = z2
          refine s_app (v := .int (z2 / 1000 % 1000)) ((e5.trans e6) _ _ hu) (ev_var rfl) (ev_op (ev_op (ev_var rfl) ev_c (rv_I ⟨by decide, by decide⟩)) ev_c (rv_I (by show (0 : Int) < 1000; decide))) (by rw [List.length_map]; omega) fun H7 e7 => ⟨us ++ [z2 / 1000 % 1000], z2, _, rfl, (((e4.trans e5).trans e6).trans e7).mut hta, ?_, hgu.snoc (by omega) (by omega), by rw [List.length_append, List.length_singleton]; omega⟩
          rw [upd_same, List.map_append]
          rfl
        · rintro σ2 H4 ⟨us, z, y4', rfl, e4, hu, hgu, hlu⟩
          exact ⟨us, _, _, _, rfl, e4, hu, hgu, by show us.length ≤ 60 * (i + 1); have : us.length ≤ 60 * i + (4 : Int).toNat := hlu; omega⟩
    · rintro σ' H' ⟨ts, y2, y3, y4, rfl, e0, ht, hg, hl⟩
      exact s_ret (ev_var rfl) fun H2 e2 => q ta H2 ts hta (e0.trans e2) (e2 _ _ ht) hg (by have : ts.length ≤ 60 * (ns.length : Int).toNat := hl; omega)
theorem ok_at {f : Addr} {fd : FuncData} (F : Fun K "_law_at" "_law_at" sAt f fd) (T : Txt mg K C) : FnOk P w K mg base CX0 1 f fd ["tape", "k"] (spCel K) := by
  refine F.ok scAt (fun vs H Q E h => ?_) (fun cdv A outer s H vs Q E hr h => ?_)
  · obtain ⟨a, ns, k, rfl, _⟩ := h
    rfl
  · obtain ⟨a, ns, k, rfl, hS, q⟩ := h
    refine ⟨_, (pss_cons (ps_if (pt_cmpR op_lt (pv 1) (pe_callB call_len_seq (by rfl) T.len (by decide +kernel) (pa_cons (pv 0) pa_nil)) (nomark _)) (pss_one (ps_ret (pe_ix ix_list (pv 0) (pv 1) (fun _ _ => rfl)))) pss_nil)
      (pss_one (ps_ret pe_int))), ?_⟩
    refine q_when (et_test (ev_op (ev_var rfl) (ev_len (ev_var rfl) hS) rv_I0)) (fun hb H1 e1 => ?_) (fun hb H1 e1 => ?_)
    · have hk : k < ns.length := by
        have := of_decide_eq_true hb
        rw [List.length_map] at this
        omega
      exact s_ret (ev_op (ev_var rfl) (ev_var rfl) (rv_ixL (ex_l e1 hS) (atI_nat (cellv_in hk)))) fun H2 e2 => q H2 (e1.trans e2)
    · have hk : ns.length ≤ k := by
        have := of_decide_eq_false hb
        rw [List.length_map] at this
        omega
      rw [cellv_out hk] at q
      exact s_ret ev_c fun H2 e2 => q H2 (e1.trans e2)
end

/-! ### values of a known kind -/
inductive Kd (H : Hp) : V → String → Prop
  | non : Kd H .non "NoneType"
  | bl (b : Bool) : Kd H (.bl b) "bool"
  | int (i : Int) : Kd H (.int i) "int"
  | str (z : Str) : Kd H (.str z) "str"
  | lst {a : Addr} {xs : List V} (h : H a = some (.lst xs)) : Kd H (.ref a) "list"
  | tup {a : Addr} {xs : List V} (h : H a = some (.tup xs)) : Kd H (.ref a) "tuple"
theorem Kd.mono {H H' : Hp} {v : V} {n : String} (e : Ex H H') : Kd H v n → Kd H' v n
  | .non => .non
  | .bl b => .bl b
  | .int i => .int i
  | .str z => .str z
  | .lst h => .lst (e _ _ h)
  | .tup h => .tup (e _ _ h)
theorem Kd.ty {K : PySem.W.Frag} {H : Hp} {v : V} {n : String} : Kd H v n → TyOf K H v (.type n)
  | .non => .non
  | .bl b => .bl b
  | .int i => .int i
  | .str z => .str z
  | .lst h => .lst h
  | .tup h => .tup h
theorem Kd.no {H : Hp} {v : V} {n : String} (k : Kd H v n) : ∀ a C dx fs, H a = some (.ins C dx fs) → v ≠ .ref a := fun a C dx fs h e => by
  cases k with
  | lst h2 =>
    cases e
    rw [h] at h2
    cases h2
  | tup h2 =>
    cases e
    rw [h] at h2
    cases h2
  | _ => cases e
def wd : V → Bool
  | .int i => decide (0 ≤ i)
  | _ => false
/-- isinstance(v, int), isinstance(v, bool) -/
def kInt (n : String) : Bool := n == "int" || n == "bool"
theorem kd_int {K : PySem.W.Frag} {H : Hp} {v : V} {n : String} (k : Kd H v n) : PySem.W.kitOne K (.type n) (.type "int") = some (kInt n) := by
  cases k <;> exact kit_ty rfl
theorem kd_bool {K : PySem.W.Frag} {H : Hp} {v : V} {n : String} (k : Kd H v n) : PySem.W.kitOne K (.type n) (.type "bool") = some (n == "bool") := by
  cases k <;> exact kit_ty rfl
theorem kd_list {K : PySem.W.Frag} {H : Hp} {v : V} {n : String} (k : Kd H v n) : PySem.W.kitOne K (.type n) (.type "list") = some (n == "list") := by
  cases k <;> exact kit_ty rfl
theorem kd_tuple {K : PySem.W.Frag} {H : Hp} {v : V} {n : String} (k : Kd H v n) : PySem.W.kitOne K (.type n) (.type "tuple") = some (n == "tuple") := by
  cases k <;> exact kit_ty rfl
theorem kd_str {K : PySem.W.Frag} {H : Hp} {v : V} {n : String} (k : Kd H v n) : PySem.W.kitOne K (.type n) (.type "str") = some (n == "str") := by
  cases k <;> exact kit_ty rfl
section
variable {K : PySem.W.Frag} {σ : L2.St} {H : Hp} {ta tb : TE} {v : V}
theorem ev_isk {n m : String} {b : Bool} (h : Ev ta σ H v) (hn : Ev tb σ H (.ty m)) (k : Kd H v n) (hk : PySem.W.kitOne K (.type n) (.type m) = some b) : Ev (tCB (rIsi K) (tCons ta (tCons tb tNil))) σ H (.bl b) := ev_isi h hn (fun H1 e => .base (k.mono e).ty) hk
end
def spIw : Sp := fun vs H Q _ => ∃ (v : V) (n : String), vs = [v] ∧ Kd H v n ∧ RetV (.bl (wd v)) H Q
theorem sv_iw {v : V} {n : String} {H : Hp} (k : Kd H v n) : SpV spIw [v] H (.bl (wd v)) := fun H1 e Q q E => ⟨v, n, rfl, k.mono e, q⟩

section
variable {P : Program} {w : World} {K : PySem.W.Frag} {mg : Str → Option Value} {base : Heap} {C : Addr}
theorem ok_iw {f : Addr} {fd : FuncData} (F : Fun K "is_word" "is_word" sIw f fd) (T : Txt mg K C) : FnOk P w K mg base CX0 1 f fd ["value"] spIw := by
  refine F.ok scIw (fun vs H Q E h => ?_) (fun cdv A outer s H vs Q E hr h => ?_)
  · obtain ⟨v, n, rfl, _⟩ := h
    rfl
  · obtain ⟨v, n, rfl, k, q⟩ := h
    refine ⟨_, (pss_one (ps_ret (pe_and (pe_callB call_isi (by rfl) T.isinstance (by decide +kernel) (pa_cons (pv 0) (pa_cons (pe_bltn (v := .ty "int") (u := .type "int") (by rfl) T.int (by decide +kernel) rfl) pa_nil))) (pe_and (pe_not (pe_callB call_isi (by rfl) T.isinstance (by decide +kernel) (pa_cons (pv 0) (pa_cons (pe_bltn (v := .ty "bool") (u := .type "bool") (by rfl) T.bool (by decide +kernel) rfl) pa_nil)))) (pe_one (pe_cmpR op_ge (pv 0) pe_int (nomark _))))))), ?_⟩
    have i1 := ev_isk (K := K) (σ := [some v]) (ta := tVar 0) (tb := tC (.ty "int")) (ev_var rfl) ev_c k (kd_int k)
    have i2 := ev_isk (K := K) (σ := [some v]) (ta := tVar 0) (tb := tC (.ty "bool")) (ev_var rfl) ev_c k (kd_bool k)
    cases k with
    | int i => exact s_ret (ev_is (ev_andV i1 (fun _ => ev_andV (ev_notV i2) (fun _ => ev_op (ev_var rfl) ev_c rv_I0))) rfl) fun H1 e1 => q H1 e1
    | bl b => exact s_ret (ev_is (ev_andV (b := false) i1 (fun _ => ev_andV (b := false) (ev_notV i2) (fun h => by cases h))) rfl) fun H1 e1 => q H1 e1
    | non => exact s_ret (ev_is (ev_andV (b := false) i1 (fun h => by cases h)) rfl) fun H1 e1 => q H1 e1
    | str z => exact s_ret (ev_is (ev_andV (b := false) i1 (fun h => by cases h)) rfl) fun H1 e1 => q H1 e1
    | lst h => exact s_ret (ev_is (ev_andV (b := false) i1 (fun h => by cases h)) rfl) fun H1 e1 => q H1 e1
    | tup h => exact s_ret (ev_is (ev_andV (b := false) i1 (fun h => by cases h)) rfl) fun H1 e1 => q H1 e1
/-- is_word(x) in an element of a generator expression -/
theorem qv_iw {X : Cx} {σ : L2.St} {H : Hp} {Pt : Addr} {scope : Scope} {x : Str} {u : Value} {v : V} {n : String} {a : Expr} {pos p : Pos} {f : Addr} {fd : FuncData} {j : Nat} (hr : Room j X.A) (T : Txt X.mg X.K C) (F : Fun X.K "is_word" "is_word" sIw f fd) (bI : Binds X.K fd ["value"] []) (gI : X.mg "is_word" = some (.ref f)) (hT : Tab H Pt) (k : Kd H v n)
    (hk : scope.kind = .function) (hl : scope.names.lookup ("is_word" : Str) = some .globalImplicit) (ha : QV X σ H Pt scope x u a v) (hs : ∀ env, starEach [a] env = (false, eval a env) :: starEach [] env := by intro _; rfl) : QV X σ H Pt scope x u (.Call (.Name "is_word" p) [a] [] pos) (.bl (wd v)) := by
  refine qv_call1 hr hk hl gI F rfl scIw rfl bI ha (fun A0 r hr0 => ?_) hs (by decide)
  have kk := k
  have b1 := kd_int (K := X.K) k
  have b2 := kd_bool (K := X.K) k
  have ty := k.ty (K := X.K)
  have no := k.no
  cases k with
  | int i => exact qv_is (qv_and (qv_blt2 rfl rfl T.isinstance (by decide +kernel) (qv_x rfl rfl hr0) (qv_blt (z := .ty "int") (r := .type "int") rfl rfl T.int (by decide +kernel) rfl) (qr_isi hT ty no b1)) (fun _ => qv_and (qv_not (qv_blt2 rfl rfl T.isinstance (by decide +kernel) (qv_x rfl rfl hr0) (qv_blt (z := .ty "bool") (r := .type "bool") rfl rfl T.bool (by decide +kernel) rfl) (qr_isi hT ty no b2))) (fun _ => qv_one (qv_cmp qr_ge_int (qv_x rfl rfl hr0) qv_int (nomark _))))) rfl
  | bl b => exact qv_is (qv_and (d := false) (qv_blt2 rfl rfl T.isinstance (by decide +kernel) (qv_x rfl rfl hr0) (qv_blt (z := .ty "int") (r := .type "int") rfl rfl T.int (by decide +kernel) rfl) (qr_isi hT ty no b1)) (fun _ => qv_is (qv_and (d := false) (qv_not (qv_blt2 rfl rfl T.isinstance (by decide +kernel) (qv_x rfl rfl hr0) (qv_blt (z := .ty "bool") (r := .type "bool") rfl rfl T.bool (by decide +kernel) rfl) (qr_isi hT ty no b2))) (fun h => by cases h)) (show _ = V.bl false from rfl))) rfl
  | non => exact qv_is (qv_and (d := false) (qv_blt2 rfl rfl T.isinstance (by decide +kernel) (qv_x rfl rfl hr0) (qv_blt (z := .ty "int") (r := .type "int") rfl rfl T.int (by decide +kernel) rfl) (qr_isi hT ty no b1)) (fun h => by cases h)) rfl
  | str z => exact qv_is (qv_and (d := false) (qv_blt2 rfl rfl T.isinstance (by decide +kernel) (qv_x rfl rfl hr0) (qv_blt (z := .ty "int") (r := .type "int") rfl rfl T.int (by decide +kernel) rfl) (qr_isi hT ty no b1)) (fun h => by cases h)) rfl
  | lst h => exact qv_is (qv_and (d := false) (qv_blt2 rfl rfl T.isinstance (by decide +kernel) (qv_x rfl rfl hr0) (qv_blt (z := .ty "int") (r := .type "int") rfl rfl T.int (by decide +kernel) rfl) (qr_isi hT ty no b1)) (fun h => by cases h)) rfl
  | tup h => exact qv_is (qv_and (d := false) (qv_blt2 rfl rfl T.isinstance (by decide +kernel) (qv_x rfl rfl hr0) (qv_blt (z := .ty "int") (r := .type "int") rfl rfl T.int (by decide +kernel) rfl) (qr_isi hT ty no b1)) (fun h => by cases h)) rfl
/-- are_words of a list -/
def spAre (Pt : Addr) : Sp := fun vs H Q _ => Tab H Pt ∧ ∃ (a : Addr) (xs : List V) (many : Int), vs = [.ref a, .int many] ∧ H a = some (.lst xs) ∧ (∀ x ∈ xs, ∃ n, Kd H x n) ∧ RetV (.bl (decide ((xs.length : Int) = many) && xs.all wd)) H Q
theorem ok_are {f c Pt fI : Addr} {fd fdI : FuncData} (F : FunC K "are_words" "are_words" sAre f fd c) (TB : LamX.TabB base mg c Pt) (T : Txt mg K C) (FI : Fun K "is_word" "is_word" sIw fI fdI) (bI : Binds K fdI ["value"] []) (gI : mg "is_word" = some (.ref fI)) : FnOk P w K mg base CX0 1 f fd ["values", "many"] (spAre Pt) := by
  refine F.ok scAre (fun vs H Q E h => ?_) (fun A outer s H vs Q E hr h => ?_)
  · obtain ⟨_, a, xs, m, rfl, _⟩ := h
    rfl
  · refine ⟨_, (pss_cons (ps_if (PW.pt (pw_or (pt_not (pt_val (pe_callB call_isi (by rfl) T.isinstance (by decide +kernel) (pa_cons (pv 0) (pa_cons (pe_bltn (v := .ty "list") (u := .type "list") (by rfl) T.list (by decide +kernel) rfl) pa_nil))))) (pw_or1 (pt_cmpR op_ne (pe_callB call_len_seq (by rfl) T.len (by decide +kernel) (pa_cons (pv 0) pa_nil)) (pv 1) (nomark _))))) (pss_one (ps_ret pe_bl)) pss_nil)
      (pss_one (ps_ret (pe_all hr (by rfl) T.all (by decide +kernel) TB rfl ⟨rfl, rfl, by decide +kernel, rfl, rfl, fun y hy e => absurd e ((by decide +kernel : ∀ y ∈ _, y.2 ≠ NameKind.free) y hy)⟩ (pv 0) (fun _ => rfl))))), ?_⟩
    obtain ⟨hT, a, xs, m, rfl, hS, hk, q⟩ := h
    refine q_when (b := !decide ((xs.length : Int) = m)) (et_is (et_or (et_not (et_B (ev_isk (ev_var rfl) ev_c (.lst hS) (kd_list (.lst hS))))) (fun _ => et_test (ev_op (ev_len (ev_var rfl) (sq_of hS)) (ev_var rfl) (rv_ne rfl)))) (by simp)) (fun hb H1 e1 => ?_) (fun hb H1 e1 => ?_)
    · have h0 : decide ((xs.length : Int) = m) = false := by simpa using hb
      rw [h0] at q
      exact s_ret ev_c fun H2 e2 => q H2 (e1.trans e2)
    · have h0 : decide ((xs.length : Int) = m) = true := by simpa using hb
      rw [h0] at q
      refine s_ret (ev_is (ev_gen (f := fun i => wd (xs.getD i .non)) (xs := fun i => xs.getD i .non) (n := xs.length) (ev_var rfl) (hT.mono e1) (fun H2 e2 => .inl ⟨a, xs, rfl, sq_of ((e1.trans e2) _ _ hS), rfl, fun i => rfl⟩) (fun H2 e2 i u hi hu => ?_)) ?_) fun H2 e2 => q H2 (e1.trans e2)
      · have hx : xs.getD i .non ∈ xs := by
          rw [List.getD_eq_getElem?_getD, List.getElem?_eq_getElem hi]
          exact List.getElem_mem hi
        obtain ⟨n, kn⟩ := hk _ hx
        exact qv_iw hr T FI bI gI (hT.mono (e1.trans e2)) (kn.mono (e1.trans e2)) rfl rfl (qv_x rfl rfl hu)
      · rw [allF_list xs .non wd]
        rfl
end

/-! ### a disk: what lasts, what waits, the power -/
def stepA (f : Nat → List Int) (w : Nat × List Int) (c : Nat) : Nat → List Int := fset f w.1 (w.2.take c ++ (f w.1).drop c)
def aftN (f : Nat → List Int) (ws : List (Nat × List Int)) (c : Nat → Nat) : Nat → (Nat → List Int)
  | 0 => f
  | i + 1 => stepA (aftN f ws c i) (ws.getD i (0, [])) (c i)
def due (f : Nat → List Int) (ws : List (Nat × List Int)) : Nat → List Int := ws.foldl (fun g w => fset g w.1 w.2) f
theorem due_snoc (f : Nat → List Int) (ws : List (Nat × List Int)) (w : Nat × List Int) : due f (ws ++ [w]) = fset (due f ws) w.1 w.2 := by
  unfold due
  rw [List.foldl_append]
  rfl
theorem fset_same (f : Nat → List Int) (s : Nat) : fset f s (f s) = f := funext fun x => by
  unfold fset
  split
  · rename_i h
    rw [h]
  · rfl
theorem step0 (f : Nat → List Int) (w : Nat × List Int) : stepA f w 0 = f := by
  unfold stepA
  rw [List.take_zero, List.drop_zero, List.nil_append, fset_same]
theorem aft_stop {f : Nat → List Int} {ws : List (Nat × List Int)} {c : Nat → Nat} {i : Nat} (h : ∀ j, i ≤ j → c j = 0) : ∀ k, aftN f ws c (i + k) = aftN f ws c i
  | 0 => rfl
  | k + 1 => by
    show stepA (aftN f ws c (i + k)) _ (c (i + k)) = _
    rw [h (i + k) (by omega), step0, aft_stop h k]
theorem aft_cong {f : Nat → List Int} {ws : List (Nat × List Int)} {c c' : Nat → Nat} : ∀ {i : Nat}, (∀ j, j < i → c j = c' j) → aftN f ws c i = aftN f ws c' i
  | 0, _ => rfl
  | i + 1, h => by
    show stepA (aftN f ws c i) _ (c i) = stepA (aftN f ws c' i) _ (c' i)
    rw [aft_cong fun j hj => h j (by omega), h i (by omega)]
theorem fset_len {f : Nat → List Int} {s : Nat} {v : List Int} (hf : ∀ s, (f s).length = 8) (hv : v.length = 8) : ∀ x, (fset f s v x).length = 8 := fun x => by
  unfold fset
  split
  · exact hv
  · exact hf x
theorem step_len {f : Nat → List Int} {w : Nat × List Int} {c : Nat} (hf : ∀ s, (f s).length = 8) (hw : w.2.length = 8) : ∀ x, (stepA f w c x).length = 8 := fset_len hf (by
  rw [List.length_append, List.length_take, List.length_drop, hw, hf]
  omega)
theorem getD_in {α : Type} {l : List α} {i : Nat} {d x : α} (h : l[i]? = some x) : l.getD i d = x := by
  rw [List.getD_eq_getElem?_getD, h]
  rfl
theorem aft_len {f : Nat → List Int} {ws : List (Nat × List Int)} {c : Nat → Nat} (hf : ∀ s, (f s).length = 8) (hw : ∀ w ∈ ws, w.2.length = 8) : ∀ i, i ≤ ws.length → ∀ x, (aftN f ws c i x).length = 8
  | 0, _ => hf
  | i + 1, h => step_len (aft_len hf hw i (by omega)) (by
    rw [getD_in (List.getElem?_eq_getElem (show i < ws.length by omega))]
    exact hw _ (List.getElem_mem _))
theorem due_len {f : Nat → List Int} (hf : ∀ s, (f s).length = 8) : ∀ {ws : List (Nat × List Int)}, (∀ w ∈ ws, w.2.length = 8) → ∀ x, (due f ws x).length = 8 := by
  intro ws
  induction ws generalizing f with
  | nil => exact fun _ => hf
  | cons w r ih => exact fun h => ih (f := fset f w.1 w.2) (fset_len hf (h w List.mem_cons_self)) fun v hv => h v (List.mem_cons_of_mem _ hv)
structure Dk where
  kept : Nat → List Int
  ws : List (Nat × List Int)
  pw : Bool
  bf : Option Nat
def bfV : Option Nat → V
  | none => .non
  | some k => .int (k : Int)
def dfl (n : Nat) (ka sa wa : Addr) (pw : Bool) (bf : Option Nat) : List (Str × V) := [(("blocks" : Str), .int (n : Int)), (("_kept" : Str), .ref ka), (("_shown" : Str), .ref sa), (("_writes" : Str), .ref wa), (("_powered" : Str), .bl pw), (("_before_failure" : Str), bfV bf)]
section
variable {n : Nat} {ka sa wa ka' sa' wa' : Addr} {pw pw' : Bool} {bf bf' : Option Nat}
theorem d_b : (dfl n ka sa wa pw bf).lookup ("blocks" : Str) = some (V.int (n : Int)) := rfl
theorem d_k : (dfl n ka sa wa pw bf).lookup ("_kept" : Str) = some (V.ref ka) := rfl
theorem d_s : (dfl n ka sa wa pw bf).lookup ("_shown" : Str) = some (V.ref sa) := rfl
theorem d_w : (dfl n ka sa wa pw bf).lookup ("_writes" : Str) = some (V.ref wa) := rfl
theorem d_p : (dfl n ka sa wa pw bf).lookup ("_powered" : Str) = some (V.bl pw) := rfl
theorem d_f : (dfl n ka sa wa pw bf).lookup ("_before_failure" : Str) = some (bfV bf) := rfl
theorem d_ps : putF "_shown" (V.ref sa') (dfl n ka sa wa pw bf) = dfl n ka sa' wa pw bf := rfl
theorem d_pw : putF "_writes" (V.ref wa') (dfl n ka sa wa pw bf) = dfl n ka sa wa' pw bf := rfl
theorem d_pp : putF "_powered" (V.bl pw') (dfl n ka sa wa pw bf) = dfl n ka sa wa pw' bf := rfl
theorem d_pf : putF "_before_failure" (bfV bf') (dfl n ka sa wa pw bf) = dfl n ka sa wa pw bf' := rfl
theorem d_no {m : Str} (h : m ≠ "blocks" ∧ m ≠ "_kept" ∧ m ≠ "_shown" ∧ m ≠ "_writes" ∧ m ≠ "_powered" ∧ m ≠ "_before_failure") : (dfl n ka sa wa pw bf).lookup m = Option.none := by
  unfold dfl
  rw [List.lookup_cons, beq_false_of_ne h.1, List.lookup_cons, beq_false_of_ne h.2.1, List.lookup_cons, beq_false_of_ne h.2.2.1, List.lookup_cons, beq_false_of_ne h.2.2.2.1, List.lookup_cons, beq_false_of_ne h.2.2.2.2.1, List.lookup_cons, beq_false_of_ne h.2.2.2.2.2]
  rfl
end
def Rows (G H : Hp) (la : Addr) (m : Nat) (f : Nat → List Int) : Prop := ∃ ks : List Addr, H la = some (.lst (ks.map V.ref)) ∧ ks.length = m ∧ ∀ (i : Nat) (a : Addr), ks[i]? = some a → G a = some (.lst ((f i).map V.int))
def Wr (G H : Hp) (la : Addr) (ws : List (Nat × List Int)) : Prop := ∃ ts : List Addr, H la = some (.lst (ts.map V.ref)) ∧ ts.length = ws.length ∧ ∀ (i : Nat) (t : Addr) (w : Nat × List Int), ts[i]? = some t → ws[i]? = some w → ∃ l, G t = some (.tup [.int (w.1 : Int), .ref l]) ∧ G l = some (.lst (w.2.map V.int))
structure DK (C : Addr) (G H : Hp) (p ka sa wa : Addr) (n : Nat) (d : Dk) : Prop where
  g : Ex G H
  gp : G p = none
  gk : G ka = none
  gs : G sa = none
  gw : G wa = none
  nks : ka ≠ sa
  nkw : ka ≠ wa
  nsw : sa ≠ wa
  o : ∃ dx, H p = some (.ins C dx (dfl n ka sa wa d.pw d.bf))
  k : Rows G H ka (4 * n) d.kept
  s : Rows G H sa (4 * n) (due d.kept d.ws)
  w : Wr G H wa d.ws
  n0 : 96 ≤ n
  n1 : n ≤ 256
  wl : d.ws.length ≤ 2000
  ok : ∀ w ∈ d.ws, w.1 < 4 * n ∧ w.2.length = 8
  kz : ∀ s, (d.kept s).length = 8
/-- from (G, H) to (G', H1): what was frozen stays so, what was not does not become so, nothing goes away -/
structure St (G H G' H1 : Hp) : Prop where
  g : Ex G G'
  n : ∀ a, H a ≠ none → G a = none → G' a = none
  a : ∀ a, H a ≠ none → H1 a ≠ none
section
variable {C : Addr} {G G' H H1 H2 : Hp} {la p ka sa wa : Addr} {n m : Nat} {d : Dk} {f : Nat → List Int} {ws : List (Nat × List Int)}
theorem Rows.ex (r : Rows G H la m f) (g : Ex G G') (e : Ex H H1) : Rows G' H1 la m f := by
  obtain ⟨ks, h, hl, hs⟩ := r
  exact ⟨ks, e _ _ h, hl, fun i a ha => g _ _ (hs i a ha)⟩
theorem Rows.at (r : Rows G H la m f) (g : Ex G G') (e : H1 la = H la) : Rows G' H1 la m f := by
  obtain ⟨ks, h, hl, hs⟩ := r
  exact ⟨ks, by rw [e]; exact h, hl, fun i a ha => g _ _ (hs i a ha)⟩
theorem Wr.ex (r : Wr G H la ws) (g : Ex G G') (e : Ex H H1) : Wr G' H1 la ws := by
  obtain ⟨ts, h, hl, hs⟩ := r
  exact ⟨ts, e _ _ h, hl, fun i t w ht hw => let ⟨l, a, b⟩ := hs i t w ht hw; ⟨l, g _ _ a, g _ _ b⟩⟩
theorem Wr.at (r : Wr G H la ws) (g : Ex G G') (e : H1 la = H la) : Wr G' H1 la ws := by
  obtain ⟨ts, h, hl, hs⟩ := r
  exact ⟨ts, by rw [e]; exact h, hl, fun i t w ht hw => let ⟨l, a, b⟩ := hs i t w ht hw; ⟨l, g _ _ a, g _ _ b⟩⟩
theorem DK.ex (D : DK C G H p ka sa wa n d) (e : Ex H H1) : DK C G H1 p ka sa wa n d :=
  ⟨D.g.trans e, D.gp, D.gk, D.gs, D.gw, D.nks, D.nkw, D.nsw, let ⟨dx, h⟩ := D.o; ⟨dx, e _ _ h⟩, D.k.ex (Ex.refl _) e, D.s.ex (Ex.refl _) e, D.w.ex (Ex.refl _) e, D.n0, D.n1, D.wl, D.ok, D.kz⟩
theorem St.refl (G H : Hp) : St G H G H := ⟨Ex.refl _, fun _ _ h => h, fun _ h => h⟩
theorem St.ex (e : Ex H H1) : St G H G H1 := ⟨Ex.refl _, fun _ _ h => h, fun a h z => h (fresh_back e z)⟩
theorem St.trans {G2 : Hp} (s : St G H G' H1) (t : St G' H1 G2 H2) : St G H G2 H2 := ⟨s.g.trans t.g, fun a h g => t.n a (s.a a h) (s.n a h g), fun a h => t.a a (s.a a h)⟩
theorem DK.np (D : DK C G H p ka sa wa n d) : p ≠ ka ∧ p ≠ sa ∧ p ≠ wa := by
  obtain ⟨dx, h⟩ := D.o
  obtain ⟨_, h1, _⟩ := D.k
  obtain ⟨_, h2, _⟩ := D.s
  obtain ⟨_, h3, _⟩ := D.w
  exact ⟨ne_of h h1 (by intro z; cases z), ne_of h h2 (by intro z; cases z), ne_of h h3 (by intro z; cases z)⟩
theorem DK.al (D : DK C G H p ka sa wa n d) : H p ≠ none ∧ H ka ≠ none ∧ H sa ≠ none ∧ H wa ≠ none := by
  obtain ⟨dx, h⟩ := D.o
  obtain ⟨_, h1, _⟩ := D.k
  obtain ⟨_, h2, _⟩ := D.s
  obtain ⟨_, h3, _⟩ := D.w
  exact ⟨by rw [h]; exact fun z => (by cases z), by rw [h1]; exact fun z => (by cases z), by rw [h2]; exact fun z => (by cases z), by rw [h3]; exact fun z => (by cases z)⟩
theorem DK.joinG (D : DK C G H p ka sa wa n d) (e : Ex H H1) : St G H (grow G H H1 fun _ => False) H1 ∧ DK C (grow G H H1 fun _ => False) H1 p ka sa wa n d := by
  have ge := D.g.trans e
  have gg : Ex G (grow G H H1 fun _ => False) := grow_ex
  obtain ⟨ap, ak, as, aw⟩ := D.al
  exact ⟨⟨gg, fun a h g => grow_no h g, fun a h z => h (fresh_back e z)⟩, grow_sub ge, grow_no ap D.gp, grow_no ak D.gk, grow_no as D.gs, grow_no aw D.gw, D.nks, D.nkw, D.nsw, let ⟨dx, h⟩ := D.o; ⟨dx, e _ _ h⟩, D.k.ex gg e, D.s.ex gg e, D.w.ex gg e, D.n0, D.n1, D.wl, D.ok, D.kz⟩
/-- all that is new since H joins what is frozen -/
theorem DK.join (D : DK C G H p ka sa wa n d) (e : Ex H H1) : ∃ G', St G H G' H1 ∧ DK C G' H1 p ka sa wa n d ∧ ∀ a o, H a = none → H1 a = some o → G' a = some o := by
  have ge := D.g.trans e
  have gg : Ex G (grow G H H1 fun _ => False) := grow_ex
  obtain ⟨ap, ak, as, aw⟩ := D.al
  refine ⟨grow G H H1 fun _ => False, ⟨gg, fun a h g => grow_no h g, fun a h z => h (fresh_back e z)⟩, ?_, fun a o h h1 => grow_new (fresh_back D.g h) h id h1⟩
  exact ⟨grow_sub ge, grow_no ap D.gp, grow_no ak D.gk, grow_no as D.gs, grow_no aw D.gw, D.nks, D.nkw, D.nsw, let ⟨dx, h⟩ := D.o; ⟨dx, e _ _ h⟩, D.k.ex gg e, D.s.ex gg e, D.w.ex gg e, D.n0, D.n1, D.wl, D.ok, D.kz⟩
/-- what is not frozen and no part of the disk may change -/
theorem DK.upd {a : Addr} {o : HO} (D : DK C G H p ka sa wa n d) (ga : G a = none) (h1 : a ≠ p) (h2 : a ≠ ka) (h3 : a ≠ sa) (h4 : a ≠ wa) : DK C G (upd H a o) p ka sa wa n d :=
  ⟨D.g.mut ga, D.gp, D.gk, D.gs, D.gw, D.nks, D.nkw, D.nsw, let ⟨dx, h⟩ := D.o; ⟨dx, by rw [upd_ne h1.symm]; exact h⟩, D.k.at (Ex.refl _) (upd_ne h2.symm), D.s.at (Ex.refl _) (upd_ne h3.symm), D.w.at (Ex.refl _) (upd_ne h4.symm), D.n0, D.n1, D.wl, D.ok, D.kz⟩
theorem St.upd {a : Addr} {o : HO} (s : St G H G' H1) : St G H G' (upd H1 a o) := ⟨s.g, s.n, fun b h z => by
  by_cases e : b = a
  · rw [e, upd_same] at z
    cases z
  · rw [upd_ne e] at z
    exact s.a b h z⟩
end

end K06

set_option Elab.async false
set_option linter.all false
set_option maxRecDepth 100000
set_option maxHeartbeats 4000000
namespace K06
open PySem PySem.Spec PyProof.Rows L2 Evl LK LT LG LS LQ LX LO LN LP
def InS (n : Nat) (z : Int) : Prop := 0 ≤ z ∧ z < 4 * (n : Int)
def okW (xs : List V) : Prop := xs.length = 8 ∧ xs.all wd = true
theorem okW_ints : ∀ {xs : List V}, xs.all wd = true → ∃ ns : List Int, xs = ns.map V.int ∧ ∀ z ∈ ns, 0 ≤ z
  | [], _ => ⟨[], rfl, fun z hz => absurd hz List.not_mem_nil⟩
  | x :: r, h => by
    rw [List.all_cons, Bool.and_eq_true] at h
    obtain ⟨ns, e, hn⟩ := okW_ints h.2
    cases x with
    | int i =>
      have h0 : 0 ≤ i := of_decide_eq_true h.1
      exact ⟨i :: ns, by rw [e]; rfl, fun z hz => by
        rcases List.mem_cons.mp hz with rfl | h
        · exact h0
        · exact hn z h⟩
    | _ => cases h.1
theorem ints_wd {ns : List Int} (h : ∀ z ∈ ns, 0 ≤ z) : (ns.map V.int).all wd = true := by
  rw [List.all_eq_true]
  intro x hx
  obtain ⟨z, hz, rfl⟩ := List.mem_map.mp hx
  exact decide_eq_true (h z hz)
theorem kd_ints {H : Hp} (ns : List Int) : ∀ x ∈ ns.map V.int, ∃ n, Kd H x n := fun x hx => by
  obtain ⟨z, hz, rfl⟩ := List.mem_map.mp hx
  exact ⟨_, .int z⟩
def spSize : Sp := fun vs H Q _ => ∃ z : Int, vs = [.int z] ∧ RetV (.bl (decide (0 ≤ z) && (decide (96 ≤ z) && decide (z ≤ 256)))) H Q
/-- a choice of a cut -/
def wc : V → Bool
  | .int i => decide (0 ≤ i) && decide (i ≤ 8)
  | _ => false
def spChs (Pt : Addr) : Sp := fun vs H Q _ => Tab H Pt ∧ ∃ (a : Addr) (xs : List V), vs = [.ref a] ∧ H a = some (.lst xs) ∧ (∀ x ∈ xs, ∃ n, Kd H x n) ∧ RetV (.bl (xs.all wc)) H Q
def spSec (C : Addr) : Sp := fun vs H Q _ => ∃ G p ka sa wa n d z, vs = [.ref p, .int z] ∧ DK C G H p ka sa wa n d ∧ RetV (.bl (decide (0 ≤ z) && decide (z < 4 * (n : Int)))) H Q
def on (d : Dk) : Prop := d.pw = true ∧ d.bf ≠ some 0
def spBeg (C CO : Addr) : Sp := fun vs H Q E => ∃ G p ka sa wa n d, vs = [.ref p] ∧ DK C G H p ka sa wa n d ∧
  (on d → ∀ H1, (∀ a, H a ≠ none → H1 a ≠ none) → (∀ a o, H a = some o → a ≠ p → H1 a = some o) → DK C G H1 p ka sa wa n { d with bf := d.bf.map (· - 1) } → Q .non H1) ∧
  (¬ on d → ∀ H1, (∀ a, H a ≠ none → H1 a ≠ none) → (∀ a o, H a = some o → a ≠ p → H1 a = some o) → DK C G H1 p ka sa wa n { d with pw := false } → E (.ref CO) none H1)
def spRead (C CN CO : Addr) : Sp := fun vs H Q E => ∃ G p ka sa wa n d z, vs = [.ref p, .int z] ∧ DK C G H p ka sa wa n d ∧
  (d.pw = true → ∀ s : Nat, z = (s : Int) → s < 4 * n → RetL ((due d.kept d.ws s).map V.int) H Q) ∧ (d.pw = false → ∀ H', Ex H H' → E (.ref CO) none H') ∧ (d.pw = true → ¬ InS n z → ∀ H', Ex H H' → E (.ref CN) none H')
def spWrite (C CN CO Pt : Addr) : Sp := fun vs H Q E => ∃ G p ka sa wa n d z u xs, vs = [.ref p, .int z, .ref u] ∧ DK C G H p ka sa wa n d ∧ H u = some (.lst xs) ∧ (∀ x ∈ xs, ∃ k, Kd H x k) ∧ Tab G Pt ∧ d.ws.length < 2000 ∧ u ≠ p ∧
  (¬ (InS n z ∧ okW xs) → ∀ H', Ex H H' → E (.ref CN) none H') ∧
  (on d → ∀ (s : Nat) (ns : List Int), z = (s : Int) → s < 4 * n → xs = ns.map V.int → ns.length = 8 → (∀ z ∈ ns, 0 ≤ z) → ∀ G' H1, St G H G' H1 → (∀ a o, H a = some o → a ≠ p → a ≠ sa → a ≠ wa → H1 a = some o) → DK C G' H1 p ka sa wa n { d with ws := d.ws ++ [(s, ns)], bf := d.bf.map (· - 1) } → Q .non H1) ∧
  (¬ on d → InS n z ∧ okW xs → ∀ H1, St G H G H1 → (∀ a o, H a = some o → a ≠ p → H1 a = some o) → DK C G H1 p ka sa wa n { d with pw := false } → E (.ref CO) none H1)
section
variable {P : Program} {w : World} {K : PySem.W.Frag} {mg : Str → Option Value} {base : Heap} {C CN CO : Addr}
theorem ok_size {f fW : Addr} {fd fdW : FuncData} (F : Fun K "is_size" "is_size" sSize f fd) (FW : Fun K "is_word" "is_word" sIw fW fdW) (bW : Binds K fdW ["value"] []) (gW : mg "is_word" = some (.ref fW)) (T : Txt mg K C) : FnOk P w K mg base CX0 2 f fd ["blocks"] spSize := by
  have GW : FnOk P w K mg base CX0 1 fW fdW ["value"] spIw := ok_iw FW T
  obtain ⟨_, gMIN_BLOCKS⟩ := T.gMIN_BLOCKS
  obtain ⟨_, gMAX_BLOCKS⟩ := T.gMAX_BLOCKS
  refine F.ok scSize (fun vs H Q E h => ?_) (fun cdv A outer s H vs Q E hr h => ?_)
  · obtain ⟨z, rfl, _⟩ := h
    rfl
  · obtain ⟨z, rfl, q⟩ := h
    refine ⟨_, (pss_one (ps_ret (pe_and (pe_call GW (hr.mono (by decide)) (by rfl) gW FW.kp bW .nil pass0 (pa_cons (pv 0) pa_nil)) (pe_one (pe_chain op_le op_le (pe_glob (v := .int 96) rfl gMIN_BLOCKS ⟨_, rfl⟩) (pv 0) (pe_glob (v := .int 256) rfl gMAX_BLOCKS ⟨_, rfl⟩)))))), ?_⟩
    exact s_ret (ev_andV (ev_call (vs := [.int z]) (ea_cons (ev_var rfl) ea_nil) (sv_iw (.int z))) (fun _ => ev_chain ev_c (ev_var rfl) ev_c)) q
theorem ok_sec {f fW : Addr} {fd fdW : FuncData} (F : Fun K "_is_sector" "Disk._is_sector" sSec f fd) (FW : Fun K "is_word" "is_word" sIw fW fdW) (bW : Binds K fdW ["value"] []) (gW : mg "is_word" = some (.ref fW)) (T : Txt mg K C) : FnOk P w K mg base CX0 2 f fd ["self", "sector"] (spSec C) := by
  have GW : FnOk P w K mg base CX0 1 fW fdW ["value"] spIw := ok_iw FW T
  obtain ⟨_, gBLOCK_SECTORS⟩ := T.gBLOCK_SECTORS
  refine F.ok scSec (fun vs H Q E h => ?_) (fun cdv A outer s H vs Q E hr h => ?_)
  · obtain ⟨G, p, ka, sa, wa, n, d, z, rfl, _⟩ := h
    rfl
  · obtain ⟨G, p, ka, sa, wa, n, d, z, rfl, D, q⟩ := h
    obtain ⟨dx, ho⟩ := D.o
    refine ⟨_, (pss_one (ps_ret (pe_and (pe_call GW (hr.mono (by decide)) (by rfl) gW FW.kp bW .nil pass0 (pa_cons (pv 1) pa_nil)) (pe_one (pe_cmpR op_lt (pv 1) (pe_op op_mul (pe_glob (v := .int 4) rfl gBLOCK_SECTORS ⟨_, rfl⟩) (pe_fld (pv 0) rfl)) (nomark _)))))), ?_⟩
    exact s_ret (ev_andV (ev_call (vs := [.int z]) (ea_cons (ev_var rfl) ea_nil) (sv_iw (.int z))) (fun _ => ev_op (ev_var rfl) (ev_op ev_c (ev_fld (ev_var rfl) ho T.cl T.nb d_b) (rv_I (.inl ⟨by decide, by decide⟩))) rv_I0)) q
theorem sv_sec {G H : Hp} {p ka sa wa : Addr} {n : Nat} {d : Dk} {z : Int} (D : DK C G H p ka sa wa n d) : SpV (spSec C) [.ref p, .int z] H (.bl (decide (0 ≤ z) && decide (z < 4 * (n : Int)))) := fun H1 e1 Q q E => ⟨G, p, ka, sa, wa, n, d, z, rfl, D.ex e1, q⟩
theorem bf_min (k : Nat) : bfV ((some (k + 1)).map (· - 1)) = .int (((k + 1 : Nat) : Int) - 1) := by
  exact congrArg V.int (show ((k + 1 - 1 : Nat) : Int) = ((k + 1 : Nat) : Int) - 1 by omega)
theorem ok_beg {f : Addr} {fd : FuncData} (F : Fun K "_begin_operation" "Disk._begin_operation" sBeg f fd) (T : Txt mg K C) (XO : Xc K mg "PowerOff" CO) : FnOk P w K mg base (L2.CX P w) 1 f fd ["self"] (spBeg C CO) := by
  refine F.okX scBeg (fun vs H Q E h => ?_) (fun cdv A outer s H vs Q E hr h => ?_)
  · obtain ⟨G, p, ka, sa, wa, n, d, rfl, _⟩ := h
    rfl
  · obtain ⟨G, p, ka, sa, wa, n, d, rfl, D, q, qE⟩ := h
    obtain ⟨dx, ho⟩ := D.o
    refine ⟨_, (pss_cut (ps_if (pt_cmpR op_eq (pe_fld (pv 0) rfl) pe_int (nomark _)) (pss_one (ps_fld (pv 0) pe_bl rfl)) pss_nil)
      (pss_cons (ps_if (pt_not (pt_val (pe_fld (pv 0) rfl))) (pss_one (ps_raise0 rfl XO (takes_of rfl rfl rfl rfl) (by rfl))) pss_nil)
      (pss_one (ps_if (pt_cmpR op_notN (pe_fld (pv 0) rfl) pe_non (nomark _)) (pss_one (ps_fldaug (pv 0) pe_int in_sub)) pss_nil)))), ?_⟩
    have kp : ∀ {H1 : Hp} {o : HO}, Ex H H1 → (∀ a, H a ≠ none → (upd H1 p o) a ≠ none) ∧ ∀ a u, H a = some u → a ≠ p → (upd H1 p o) a = some u := fun e => ⟨fun a h z => by
      by_cases ha : a = p
      · rw [ha, upd_same] at z
        cases z
      · rw [upd_ne ha] at z
        exact h (fresh_back e z), fun a u h ha => by
        rw [upd_ne ha]
        exact e _ _ h⟩
    have mk : ∀ {H1 : Hp} {pw : Bool} {bf : Option Nat}, Ex H H1 → DK C G (upd H1 p (.ins C dx (dfl n ka sa wa pw bf))) p ka sa wa n { d with pw := pw, bf := bf } := fun e => by
      have D1 := D.ex e
      obtain ⟨n1, n2, n3⟩ := D.np
      exact ⟨D1.g.mut D.gp, D.gp, D.gk, D.gs, D.gw, D.nks, D.nkw, D.nsw, ⟨dx, upd_same⟩, D1.k.at (Ex.refl _) (upd_ne n1.symm), D1.s.at (Ex.refl _) (upd_ne n2.symm), D1.w.at (Ex.refl _) (upd_ne n3.symm), D.n0, D.n1, D.wl, D.ok, D.kz⟩
    have sc0 : scal (bfV d.bf) (.int 0) = true := by cases d.bf <;> rfl
    by_cases h0 : d.bf = some 0
    · have hno : ¬ on d := fun h => h.2 h0
      refine q_cut (M := fun σ2 H2 => σ2 = [some (.ref p)] ∧ DK C G H2 p ka sa wa n { d with pw := false } ∧ (∀ a, H a ≠ none → H2 a ≠ none) ∧ ∀ a u, H a = some u → a ≠ p → H2 a = some u) ?_ ?_
      · refine s_when (b := true) (et_is (et_test (ev_op (ev_fld (ev_var rfl) ho T.cl T.nf d_f) ev_c (rv_eq sc0))) (by rw [h0]; decide)) (fun _ H1 e1 => ?_) (fun h => by cases h)
        refine s_fld ev_c (ev_var rfl) (e1 _ _ ho) T.cl T.np (by show 6 < 1000; decide) fun H2 e2 => ?_
        rw [d_pp]
        have k := kp (o := .ins C dx (dfl n ka sa wa false d.bf)) (e1.trans e2)
        exact ⟨rfl, mk (pw := false) (bf := d.bf) (e1.trans e2), k.1, k.2⟩
      · rintro σ2 H2 ⟨rfl, D2, k1, k2⟩
        obtain ⟨dx2, ho2⟩ := D2.o
        exact q_when (b := true) (et_is (et_not (et_B (ev_fld (ev_var rfl) ho2 T.cl T.np d_p))) rfl) (fun _ H3 e3 => qE hno H3 (fun a h z => k1 a h (fresh_back e3 z)) (fun a u h ha => e3 _ _ (k2 a u h ha)) (D2.ex e3)) (fun h => by cases h)
    · refine q_cut (M := fun σ2 H2 => σ2 = [some (.ref p)] ∧ Ex H H2) ?_ ?_
      · refine s_when (b := false) (et_is (et_test (ev_op (ev_fld (ev_var rfl) ho T.cl T.nf d_f) ev_c (rv_eq sc0))) (decide_eq_false fun e => h0 (by
          cases hb : d.bf with
          | none => rw [hb] at e; cases e
          | some k =>
            rw [hb] at e
            have := V.int.inj e
            have : k = 0 := by omega
            rw [this]))) (fun h => by cases h) (fun _ H1 e1 => ⟨rfl, e1⟩)
      · rintro σ2 H2 ⟨rfl, e2⟩
        cases hp : d.pw with
        | false =>
          have hno : ¬ on d := fun h => by have h1 := h.1; rw [hp] at h1; cases h1
          have ed : ({ d with pw := false } : Dk) = d := by rw [← hp]
          exact q_when (b := true) (et_is (et_not (et_B (ev_fld (ev_var rfl) (e2 _ _ ho) T.cl T.np d_p))) (by rw [hp]; rfl)) (fun _ H3 e3 => qE hno H3 (fun a h z => h (fresh_back (e2.trans e3) z)) (fun a u h ha => e3 _ _ (e2 _ _ h)) (by rw [ed]; exact D.ex (e2.trans e3))) (fun h => by cases h)
        | true =>
          have hon : on d := ⟨hp, h0⟩
          refine q_when (b := false) (et_is (et_not (et_B (ev_fld (ev_var rfl) (e2 _ _ ho) T.cl T.np d_p))) (by rw [hp]; rfl)) (fun h => by cases h) (fun _ H3 e3 => ?_)
          cases hb : d.bf with
          | none =>
            refine s_when (b := false) (et_is (et_test (ev_op (ev_fld (ev_var rfl) (e3 _ _ (e2 _ _ ho)) T.cl T.nf d_f) ev_c rv_notN)) (by rw [hb]; decide)) (fun h => by cases h) (fun _ H4 e4 => ?_)
            have ed : ({ d with bf := d.bf.map (· - 1) } : Dk) = d := by
              cases d
              simp only at hb
              rw [hb]
              rfl
            exact q hon H4 (fun a h z => h (fresh_back ((e2.trans e3).trans e4) z)) (fun a u h ha => e4 _ _ (e3 _ _ (e2 _ _ h))) (by rw [ed]; exact D.ex ((e2.trans e3).trans e4))
          | some k =>
            have hk : k ≠ 0 := fun e => h0 (by rw [hb, e])
            obtain ⟨j, rfl⟩ : ∃ j, k = j + 1 := ⟨k - 1, by omega⟩
            refine s_when (b := true) (et_is (et_test (ev_op (ev_fld (ev_var rfl) (e3 _ _ (e2 _ _ ho)) T.cl T.nf d_f) ev_c rv_notN)) (by rw [hb]; show (!decide (V.int ((j + 1 : Nat) : Int) = V.non)) = true; rw [decide_eq_false (fun e => by cases e)]; rfl)) (fun _ H4 e4 => ?_) (fun h => by cases h)
            have ho4 := e4 _ _ (e3 _ _ (e2 _ _ ho))
            have e24 := (e2.trans e3).trans e4
            refine ⟨_, rfl, p, C, dx, _, _, rfl, ho4, T.cl, T.nf, d_f, ⟨((j + 1 : Nat) : Int), 1, by rw [hb]; rfl, rfl, dx, _, ho4, by show 6 < 1000; decide, ?_⟩⟩
            rw [← bf_min j, d_pf]
            have k := kp (o := .ins C dx (dfl n ka sa wa d.pw ((some (j + 1)).map (· - 1)))) e24
            have m := mk (pw := d.pw) (bf := (some (j + 1)).map (· - 1)) e24
            exact q hon _ k.1 k.2 (by rw [hb]; exact m)
theorem ok_read {f fS : Addr} {fd fdS : FuncData} (F : Fun K "read" "Disk.read" sRead f fd) (Gis_sector : FnOk P w K mg base CX0 2 fS fdS ["self", "sector"] (spSec C)) (bis_sector : Binds K fdS ["self", "sector"] []) (mis_sector : Meth K C "_is_sector" fS) (T : Txt mg K C) (XO : Xc K mg "PowerOff" CO) (XN : Xc K mg "NotValid" CN) : FnOk P w K mg base (L2.CX P w) 3 f fd ["self", "sector"] (spRead C CN CO) := by
  refine F.okX scRead (fun vs H Q E h => ?_) (fun cdv A outer s H vs Q E hr h => ?_)
  · obtain ⟨G, p, ka, sa, wa, n, d, z, rfl, _⟩ := h
    rfl
  · obtain ⟨G, p, ka, sa, wa, n, d, z, rfl, D, q, qO, qN⟩ := h
    obtain ⟨dx, ho⟩ := D.o
    refine ⟨_, (pss_cons (ps_if (pt_not (pt_val (pe_fld (pv 0) rfl))) (pss_one (ps_raise0 rfl XO (takes_of rfl rfl rfl rfl) (by rfl))) pss_nil)
      (pss_cons (ps_if (pt_not (pt_val (pe_meth (pv 0) T.cl mis_sector Gis_sector (hr.mono (by decide)) bis_sector .nil pass0 (pa_cons (pv 1) pa_nil)))) (pss_one (ps_raise0 rfl XN (takes_of rfl rfl rfl rfl) (by rfl))) pss_nil)
      (pss_one (ps_ret (pe_callTy call_list_of (by rfl) T.list (by decide +kernel) (pa_cons (pe_ix ix_list (pe_fld (pv 0) rfl) (pv 1) (fun _ _ => rfl)) pa_nil)))))), ?_⟩
    refine q_when (et_not (et_B (ev_fld (ev_var rfl) ho T.cl T.np d_p))) (fun hb H1 e1 => qO (by simpa using hb) H1 e1) (fun hb H1 e1 => ?_)
    have hp : d.pw = true := by simpa using hb
    refine q_when (et_not (et_B (ev_meth (ev_var rfl) (e1 _ _ ho) (d_no ⟨by decide +kernel, by decide +kernel, by decide +kernel, by decide +kernel, by decide +kernel, by decide +kernel⟩) (ea_cons (ev_var rfl) ea_nil) (sv_sec (z := z) (D.ex e1))))) (fun hb H2 e2 => qN hp (fun h => by
      rw [decide_eq_true h.1, decide_eq_true h.2] at hb
      cases hb) H2 (e1.trans e2)) (fun hb H2 e2 => ?_)
    have hz : 0 ≤ z ∧ z < 4 * (n : Int) := by simpa using hb
    obtain ⟨s, hs⟩ := Int.eq_ofNat_of_zero_le hz.1
    have hlt : s < 4 * n := by omega
    have D2 := D.ex (e1.trans e2)
    obtain ⟨ks, h1, h2, h3⟩ := D2.s
    have hks : s < ks.length := by omega
    have ek := List.getElem?_eq_getElem hks
    refine s_retL (el_list (ev_op (ev_fld (ev_var rfl) (e2 _ _ (e1 _ _ ho)) T.cl T.ns d_s) (ev_var rfl) (rv_ixL (v := .ref ks[s]) (sq_of h1) (at_of hs (by rw [List.getElem?_map, ek]; rfl)))) (sq_of (D2.g _ _ (h3 s _ ek)))) fun l H3 hl e3 h3 => q hp s hs hlt l H3 (fresh_back (e1.trans e2) hl) ((e1.trans e2).trans e3) h3
end

end K06

set_option Elab.async false
set_option linter.all false
set_option maxRecDepth 100000
set_option maxHeartbeats 4000000
namespace K06
open PySem PySem.Spec PyProof.Rows L2 Evl LK LT LG LS LQ LX LO LN LP
def nV (k : Nat) : V := .int (k : Int)
/-! ### writes and what becomes of them -/
def Rw (H0 : Hp) (ws : List (Nat × List Int)) : Rel := fun i prev y H => ∃ t l w, y = .ref t ∧ ws[i]? = some w ∧ H0 t = none ∧ H0 l = none ∧ H t = some (.tup [.int (w.1 : Int), .ref l]) ∧ H l = some (.lst (w.2.map V.int)) ∧ ∀ t', V.ref t' ∈ prev → ∃ u' l', H t' = some (.tup [u', .ref l']) ∧ l' ≠ l
theorem rw_mon (H0 : Hp) (ws : List (Nat × List Int)) : Mon (Rw H0 ws) := fun i prev y H H' e ⟨t, l, w, h1, h2, h3, h4, h5, h6, h7⟩ => ⟨t, l, w, h1, h2, h3, h4, e _ _ h5, e _ _ h6, fun t' ht => let ⟨u', l', a, b⟩ := h7 t' ht; ⟨u', l', e _ _ a, b⟩⟩
def Rl (H0 : Hp) (f : Nat → List Int) : Rel := fun i prev y H => ∃ l, y = .ref l ∧ H0 l = none ∧ H l = some (.lst ((f i).map V.int)) ∧ ∀ l', V.ref l' ∈ prev → l' ≠ l
theorem rl_mon (H0 : Hp) (f : Nat → List Int) : Mon (Rl H0 f) := fun i prev y H H' e ⟨l, h1, h2, h3, h4⟩ => ⟨l, h1, h2, e _ _ h3, h4⟩
theorem alloc {H H1 : Hp} {a : Addr} {o : HO} (h : H a = some o) (hn : H1 a = none) (e : Ex H H1) : False := by
  rw [e _ _ h] at hn
  cases hn
def spSet (C : Addr) : Sp := fun vs H Q _ => ∃ G p ka sa wa n d c, ∃ cs : List Nat, vs = [.ref p, .ref c] ∧ DK C G H p ka sa wa n d ∧ H c = some (.lst (cs.map nV)) ∧ c ≠ ka ∧
  ∀ G' H1 sa' wa', St G H G' H1 → (∀ a o, H a = some o → a ≠ p → a ≠ ka → H1 a = some o) → DK C G' H1 p ka sa' wa' n { d with kept := aftN d.kept d.ws (fun j => cs.getD j 0) d.ws.length, ws := [] } → Q .non H1
def spFlush (C CO : Addr) : Sp := fun vs H Q E => ∃ G p ka sa wa n d, vs = [.ref p] ∧ DK C G H p ka sa wa n d ∧
  (on d → ∀ G' H1 sa' wa', St G H G' H1 → (∀ a o, H a = some o → a ≠ p → a ≠ ka → H1 a = some o) → DK C G' H1 p ka sa' wa' n { kept := aftN d.kept d.ws (fun _ => 8) d.ws.length, ws := [], pw := d.pw, bf := d.bf.map (· - 1) } → Q .non H1) ∧
  (¬ on d → ∀ H1, St G H G H1 → (∀ a o, H a = some o → a ≠ p → H1 a = some o) → DK C G H1 p ka sa wa n { d with pw := false } → E (.ref CO) none H1)
def spCut (C CN Pt : Addr) : Sp := fun vs H Q E => ∃ G p ka sa wa n d c xs, vs = [.ref p, .ref c] ∧ DK C G H p ka sa wa n d ∧ H c = some (.lst xs) ∧ (∀ x ∈ xs, ∃ k, Kd H x k) ∧ Tab G Pt ∧ c ≠ ka ∧
  (xs.all wc = false → ∀ H', Ex H H' → E (.ref CN) none H') ∧
  (∀ cs : List Nat, xs = (cs.map nV) → (∀ k ∈ cs, k ≤ 8) → ∀ G' H1 sa' wa', St G H G' H1 → (∀ a o, H a = some o → a ≠ p → a ≠ ka → H1 a = some o) → DK C G' H1 p ka sa' wa' n { kept := aftN d.kept d.ws (fun j => cs.getD j 0) d.ws.length, ws := [], pw := true, bf := none } → Q .non H1)
def spWait (C : Addr) : Sp := fun vs H Q _ => ∃ G p ka sa wa n d, vs = [.ref p] ∧ DK C G H p ka sa wa n d ∧ ∀ L ys H1, H L = none → Ex H H1 → H1 L = some (.lst ys) → ys.length = d.ws.length → (∀ i y, ys[i]? = some y → Rw H d.ws i (ys.take i) y H1) → Q (.ref L) H1
def spImgs (C : Addr) (g : Dk → Nat → List Int) : Sp := fun vs H Q _ => ∃ G p ka sa wa n d, vs = [.ref p] ∧ DK C G H p ka sa wa n d ∧ ∀ L ys H1, H L = none → Ex H H1 → H1 L = some (.lst ys) → ys.length = 4 * n → (∀ i y, ys[i]? = some y → Rl H (g d) i (ys.take i) y H1) → Q (.ref L) H1
def spInit (C : Addr) : Sp := fun vs H Q _ => ∃ G p dx n, vs = [.ref p, .int ((n : Nat) : Int)] ∧ Ex G H ∧ G p = none ∧ H p = some (.ins C dx []) ∧ 96 ≤ n ∧ n ≤ 256 ∧ ∀ G' ka sa wa H1, St G H G' H1 → (∀ a o, H a = some o → a ≠ p → H1 a = some o) → H ka = none → H sa = none → H wa = none → DK C G' H1 p ka sa wa n ⟨fun _ => Z8, [], true, none⟩ → Q .non H1
section
variable {P : Program} {w : World} {K : PySem.W.Frag} {mg : Str → Option Value} {base : Heap} {C CN CO : Addr}
theorem ok_write {f fS fA fB Pt : Addr} {fd fdS fdA fdB : FuncData} (F : Fun K "write" "Disk.write" sWrite f fd) (Gis_sector : FnOk P w K mg base CX0 2 fS fdS ["self", "sector"] (spSec C)) (bis_sector : Binds K fdS ["self", "sector"] []) (mis_sector : Meth K C "_is_sector" fS) (FAw : Fun K "are_words" "are_words" sAre fA fdA) (GAw : FnOk P w K mg base CX0 1 fA fdA ["values", "many"] (spAre Pt)) (bAw : Binds K fdA ["values", "many"] []) (gAw : mg "are_words" = some (.ref fA))
    (Gbegin_operation : FnOk P w K mg base (L2.CX P w) 1 fB fdB ["self"] (spBeg C CO)) (bbegin_operation : Binds K fdB ["self"] []) (mbegin_operation : Meth K C "_begin_operation" fB) (T : Txt mg K C) (XN : Xc K mg "NotValid" CN) : FnOk P w K mg base (L2.CX P w) 3 f fd ["self", "sector", "words"] (spWrite C CN CO Pt) := by
  obtain ⟨_, gSECTOR_WORDS⟩ := T.gSECTOR_WORDS
  refine F.okX scWrite (fun vs H Q E h => ?_) (fun cdv A outer s H vs Q E hr h => ?_)
  · obtain ⟨G, p, ka, sa, wa, n, d, z, u, xs, rfl, _⟩ := h
    rfl
  · obtain ⟨G, p, ka, sa, wa, n, d, z, u, xs, rfl, D, hu, hk, hT, hl, hup, qN, q, qO⟩ := h
    obtain ⟨dx, ho⟩ := D.o
    refine ⟨_, (pss_cons (ps_if (PW.pt (pw_or (pt_not (pt_val (pe_meth (pv 0) T.cl mis_sector Gis_sector (hr.mono (by decide)) bis_sector .nil pass0 (pa_cons (pv 1) pa_nil)))) (pw_or1 (pt_not (pt_val (pe_call GAw (hr.mono (by decide)) (by rfl) gAw FAw.kp bAw .nil pass0 (pa_cons (pv 2) (pa_cons (pe_glob (v := .int 8) rfl gSECTOR_WORDS ⟨_, rfl⟩) pa_nil)))))))) (pss_one (ps_raise0 rfl XN (takes_of rfl rfl rfl rfl) (by rfl))) pss_nil)
      (pss_cons (ps_expr (pe_meth0 (pv 0) T.cl mbegin_operation Gbegin_operation (hr.mono (by decide)) bbegin_operation .nil (pass_own (takes_of rfl rfl rfl rfl))))
      (pss_cons (ps_set (i := 3) scWrite.nd rfl (Or.inl rfl) (pe_callTy call_list_of (by rfl) T.list (by decide +kernel) (pa_cons (pv 2) pa_nil)))
      (pss_cons (ps_expr (pe_bm PySem.F.plainAttrs_list PySem.F.slot_list_append PySem.F.type_list_append mt_append (pe_fld (pv 0) rfl) (pa_cons (pe_tup (pa_cons (pv 1) (pa_cons (pv 3) pa_nil))) pa_nil)))
      (pss_one (ps_asg (pv 3) (pg_sub (pe_fld (pv 0) rfl) (pv 1) set_list))))))), ?_⟩
    refine q_when (et_or (et_not (et_B (ev_meth (ev_var rfl) ho (d_no ⟨by decide +kernel, by decide +kernel, by decide +kernel, by decide +kernel, by decide +kernel, by decide +kernel⟩) (ea_cons (ev_var rfl) ea_nil) (sv_sec (z := z) D)))) (fun _ => et_not (et_B (ev_call (vs := [.ref u, .int 8]) (ea_cons (ev_var rfl) (ea_cons ev_c ea_nil)) (fun H1 e1 Q' q' E' => ⟨(hT.mono D.g).mono e1, u, xs, 8, rfl, e1 _ _ hu, fun x hx => let ⟨k, h⟩ := hk x hx; ⟨k, h.mono e1⟩, q'⟩))))) (fun hb H1 e1 => ?_) (fun hb H1 e1 => ?_)
    · refine qN (fun ⟨h1, h2, h3⟩ => ?_) H1 e1
      rw [decide_eq_true h1.1, decide_eq_true h1.2, h3, h2] at hb
      cases hb
    · have hz : InS n z ∧ okW xs := by
        simp at hb
        refine ⟨⟨by omega, by omega⟩, by omega, ?_⟩
        rw [List.all_eq_true]
        exact hb.2.2
      obtain ⟨s, hs⟩ := Int.eq_ofNat_of_zero_le hz.1.1
      have hlt : s < 4 * n := by have := hz.1.2; omega
      obtain ⟨ns, hns, hnn⟩ := okW_ints hz.2.2
      have hnl : ns.length = 8 := by have := hz.2.1; rw [hns, List.length_map] at this; exact this
      refine q_m (ev_var rfl) (e1 _ _ ho) (d_no ⟨by decide +kernel, by decide +kernel, by decide +kernel, by decide +kernel, by decide +kernel, by decide +kernel⟩) ea_nil fun H2 e2 => ⟨G, p, ka, sa, wa, n, d, rfl, D.ex (e1.trans e2), fun hon H3 al fr D3 => ?_, fun hno H3 al fr D3 => qO hno hz H3 ⟨Ex.refl _, fun _ _ g => g, fun a h z => al a (fun z => h (fresh_back (e1.trans e2) z)) z⟩ (fun a o h hp => fr a o ((e1.trans e2) _ _ h) hp) D3⟩
      have e12 := e1.trans e2
      have al3 : ∀ a, H a ≠ none → H3 a ≠ none := fun a h => al a (fun z => h (fresh_back e12 z))
      have hu3 := fr _ _ (e12 _ _ hu) hup
      refine q_asgL (el_list (ev_var rfl) (sq_of hu3)) fun l H4 hl4 e4 h4 => ?_
      have D4 := D3.ex e4
      obtain ⟨dx4, ho4⟩ := D4.o
      obtain ⟨n1, n2, n3⟩ := D4.np
      obtain ⟨ts, w1, w2, w3⟩ := D4.w
      obtain ⟨ks, s1, s2, s3⟩ := D4.s
      have htl : (ts.map V.ref).length < 100000 := by rw [List.length_map, w2]; show d.ws.length < 100000; omega
      refine q_appU w1 (ev_fld (ev_var rfl) ho4 T.cl T.nw d_w) (eu_tup (ea_cons (ev_var rfl) (ea_cons (ev_var rfl) ea_nil)) (by simp)) htl fun t H5 ht5 e5 h5 => ?_
      have sa6 : (upd H5 wa (.lst (ts.map V.ref ++ [.ref t]))) sa = some (.lst (ks.map V.ref)) := by rw [upd_ne D.nsw]; exact e5 _ _ s1
      have ho6 : (upd H5 wa (.lst (ts.map V.ref ++ [.ref t]))) p = some (.ins C dx4 (dfl n ka sa wa d.pw (d.bf.map (· - 1)))) := by rw [upd_ne n3]; exact e5 _ _ ho4
      refine s_setL (j := s) sa6 (ev_var rfl) (ev_fld (ev_var rfl) ho6 T.cl T.ns d_s) (by rw [← hs]; exact ev_var rfl) (by rw [List.length_map, s2]; exact hlt) fun H7 e7 => ?_
      have sT : ∀ a o, H5 a = some o → a ≠ wa → a ≠ sa → (upd H7 sa (.lst ((ks.map V.ref).set s (.ref l)))) a = some o := fun a o h h1 h2 => by
        rw [upd_ne h2]
        exact e7 _ _ (by rw [upd_ne h1]; exact h)
      have wT : (upd H7 sa (.lst ((ks.map V.ref).set s (.ref l)))) wa = some (.lst (ts.map V.ref ++ [.ref t])) := by
        rw [upd_ne D.nsw.symm]
        exact e7 _ _ upd_same
      have sS : (upd H7 sa (.lst ((ks.map V.ref).set s (.ref l)))) sa = some (.lst ((ks.map V.ref).set s (.ref l))) := upd_same
      have gT : Ex G (upd H7 sa (.lst ((ks.map V.ref).set s (.ref l)))) := (((D4.g.trans e5).mut D.gw).trans e7).mut D.gs
      have aT : ∀ a, H5 a ≠ none → (upd H7 sa (.lst ((ks.map V.ref).set s (.ref l)))) a ≠ none := fun a h z => by
        by_cases h2 : a = sa
        · rw [h2, upd_same] at z
          cases z
        · rw [upd_ne h2] at z
          have z5 := fresh_back e7 z
          by_cases h1 : a = wa
          · rw [h1, upd_same] at z5
            cases z5
          · rw [upd_ne h1] at z5
            exact h z5
      generalize upd H7 sa (.lst ((ks.map V.ref).set s (.ref l))) = HX at *
      have e45 := e4.trans e5
      obtain ⟨ap3, ak3, as3, aw3⟩ := D3.al
      obtain ⟨ap, ak, as, aw⟩ := D.al
      obtain ⟨ap4, ak4, as4, aw4⟩ := D4.al
      have l_wa : l ≠ wa := fun e => aw3 (by rw [← e]; exact hl4)
      have l_sa : l ≠ sa := fun e => as3 (by rw [← e]; exact hl4)
      have t_wa : t ≠ wa := fun e => aw4 (by rw [← e]; exact ht5)
      have t_sa : t ≠ sa := fun e => as4 (by rw [← e]; exact ht5)
      have hl0 : H l = none := Classical.byContradiction fun h => al3 l h hl4
      have ht0 : H t = none := Classical.byContradiction fun h => al3 t h (fresh_back e4 ht5)
      have gl : grow G H HX (fun _ => False) l = some (.lst xs) := grow_new (fresh_back D.g hl0) hl0 id (sT l _ (e5 _ _ h4) l_wa l_sa)
      have gt : grow G H HX (fun _ => False) t = some (.tup [.int z, .ref l]) := grow_new (fresh_back D.g ht0) ht0 id (sT t _ h5 t_wa t_sa)
      obtain ⟨ks0, k1, k2, k3⟩ := D4.k
      refine q hon s ns hs hlt hns hnl hnn (grow G H HX fun _ => False) HX ⟨grow_ex, fun a h g => grow_no h g, fun a h => aT a (fun z => al3 a h (fresh_back e45 z))⟩ (fun a o h hp hsa hwa => sT a o (e45 _ _ (fr a o (e12 _ _ h) hp)) hwa hsa)
        ⟨grow_sub gT, grow_no ap D.gp, grow_no ak D.gk, grow_no as D.gs, grow_no aw D.gw, D.nks, D.nkw, D.nsw, ⟨dx4, sT p _ (e5 _ _ ho4) n3 n2⟩, ⟨ks0, sT ka _ (e5 _ _ k1) D.nkw D.nks, k2, fun i a ha => grow_ex _ _ (k3 i a ha)⟩, ⟨ks.set s l, by rw [List.map_set]; exact sS, by rw [List.length_set, s2], fun i a ha => ?_⟩, ⟨ts ++ [t], by rw [List.map_append]; exact wT, by rw [List.length_append, List.length_append, w2]; rfl, fun i t' w' ht' hw' => ?_⟩, D.n0, D.n1, ?_, ?_, D.kz⟩
      · show grow G H HX (fun _ => False) a = some (.lst ((due d.kept (d.ws ++ [(s, ns)]) i).map V.int))
        rw [due_snoc]
        unfold fset
        by_cases hi : i = s
        · subst hi
          rw [List.getElem?_set_self (by rw [s2]; exact hlt)] at ha
          cases ha
          rw [if_pos rfl, gl, hns]
        · rw [List.getElem?_set_ne (fun e => hi e.symm)] at ha
          rw [if_neg hi]
          exact grow_ex _ _ (s3 i a ha)
      · by_cases hi : i < ts.length
        · rw [List.getElem?_append_left hi] at ht'
          rw [List.getElem?_append_left (by rw [← w2]; exact hi)] at hw'
          obtain ⟨l', a, b⟩ := w3 i t' w' ht' hw'
          exact ⟨l', grow_ex _ _ a, grow_ex _ _ b⟩
        · have hi2 : i = ts.length := by
            have := (List.getElem?_eq_some_iff.mp ht').1
            rw [List.length_append] at this
            simp only [List.length_cons, List.length_nil] at this
            omega
          subst hi2
          rw [List.getElem?_append_right (Nat.le_refl _), Nat.sub_self] at ht'
          rw [w2, List.getElem?_append_right (Nat.le_refl _), Nat.sub_self] at hw'
          cases ht'
          cases hw'
          exact ⟨l, by rw [gt, hs], by rw [gl, hns]⟩
      · show (d.ws ++ [(s, ns)]).length ≤ 2000
        rw [List.length_append]
        simp only [List.length_cons, List.length_nil]
        omega
      · intro w' hw'
        rcases List.mem_append.mp hw' with h | h
        · exact D.ok w' h
        · rw [List.mem_singleton.mp h]
          exact ⟨hlt, hnl⟩
theorem ok_set {f : Addr} {fd : FuncData} (F : Fun K "_settle_writes" "Disk._settle_writes" sSet f fd) (T : Txt mg K C) : FnOk P w K mg base CX0 1 f fd ["self", "choices"] (spSet C) := by
  refine F.ok scSet (fun vs H Q E h => ?_) (fun cdv A outer s H vs Q E hr h => ?_)
  · obtain ⟨G, p, ka, sa, wa, n, d, c, cs, rfl, _⟩ := h
    rfl
  · obtain ⟨G, p, ka, sa, wa, n, d, c, cs, rfl, D, hc, hck, q⟩ := h
    obtain ⟨dx, ho⟩ := D.o
    obtain ⟨n1, n2, n3⟩ := D.np
    obtain ⟨ap, ak, as, aw⟩ := D.al
    obtain ⟨ts, w1, w2, w3⟩ := D.w
    refine ⟨_, (pss_cons (ps_for PassesOwn.never rfl (pi_zip (by rfl) T.zip (pa_cons (pe_fld (pv 0) rfl) (pa_cons (pv 1) pa_nil))) (pg_tup (by rfl) (pgs_cons (pg_tup (by rfl) (pgs_cons (pg_name (i := 2) scSet.nd rfl (Or.inl rfl)) (pgs_cons (pg_name (i := 3) scSet.nd rfl (Or.inl rfl)) pgs_nil))) (pgs_cons (pg_name (i := 4) scSet.nd rfl (Or.inl rfl)) pgs_nil))) (pss_one (ps_asg (pe_op op_cat (pe_slice sl_list (pv 3) po_none (po_some (pv 4))) (pe_slice sl_list (pe_ix ix_list (pe_fld (pv 0) rfl) (pv 2) (fun _ _ => rfl)) (po_some (pv 4)) po_none)) (pg_sub (pe_fld (pv 0) rfl) (pv 2) set_list))))
      (pss_cons (ps_fld (pv 0) (pe_callTy call_list_of (by rfl) T.list (by decide +kernel) (pa_cons (pe_fld (pv 0) rfl) pa_nil)) rfl)
      (pss_one (ps_fld (pv 0) (pe_lst pa_nil) rfl)))), ?_⟩
    refine q_forZ (ea_cons (ev_fld (ev_var rfl) ho T.cl T.nw d_w) (ea_cons (ev_var rfl) ea_nil)) (sq_of w1) (sq_of hc) (fun i σ' H' => ∃ (y2 y3 y4 : Option V) (ks : List Addr), σ' = [some (.ref p), some (.ref c), y2, y3, y4] ∧ Ex G H' ∧ (∀ a, H a ≠ none → H' a ≠ none) ∧ (∀ a o, H a = some o → a ≠ ka → H' a = some o) ∧ H' ka = some (.lst (ks.map V.ref)) ∧ ks.length = 4 * n ∧
      ∀ (j : Nat) (a : Addr), ks[j]? = some a → G a = some (.lst ((aftN d.kept d.ws (fun j => cs.getD j 0) i j).map V.int)) ∨ (H a = none ∧ H' a = some (.lst ((aftN d.kept d.ws (fun j => cs.getD j 0) i j).map V.int)))) ?_ ?_ ?_ ?_
    · intro H1 e1
      obtain ⟨ks, k1, k2, k3⟩ := D.k
      exact ⟨none, none, none, ks, rfl, D.g.trans e1, fun a h z => h (fresh_back e1 z), fun a o h _ => e1 _ _ h, e1 _ _ k1, k2, fun j a ha => .inl (k3 j a ha)⟩
    · rintro i σ' H' ⟨y2, y3, y4, ks, rfl, g', al, fr, k1, k2, k3⟩
      exact ⟨sq_of (fr _ _ w1 D.nkw.symm), sq_of (fr _ _ hc hck)⟩
    · rintro i x y TT σ' H' hx hy ⟨y2, y3, y4, ks, rfl, g', al, fr, k1, k2, k3⟩ hTT
      rw [List.getElem?_map] at hx hy
      obtain ⟨t, ht, rfl⟩ := Option.map_eq_some_iff.mp hx
      obtain ⟨m, hm, hmy⟩ := Option.map_eq_some_iff.mp hy
      obtain rfl : y = V.int (m : Int) := hmy.symm
      have hi : i < d.ws.length := by rw [← w2]; exact (List.getElem?_eq_some_iff.mp ht).1
      have hwi := List.getElem?_eq_getElem hi
      generalize d.ws[i] = wv at hwi
      obtain ⟨l, g1, g2⟩ := w3 i t wv ht hwi
      obtain ⟨hs, h8⟩ := D.ok wv (List.mem_of_getElem? hwi)
      have eN := Ex.new (o := .tup [.ref t, .int (m : Int)]) hTT
      have gN := g'.trans eN
      have kk := eN _ _ k1
      refine ⟨TT, [.ref t, .int (m : Int)], rfl, st_of upd_same, rfl, .ref t, [.int (m : Int)], rfl, t, [.int (wv.1 : Int), .ref l], rfl, st_of (gN _ _ g1), rfl, _, [_], rfl, _, [], rfl, rfl, _, [], rfl, rfl, ?_⟩
      have hks : wv.1 < ks.length := by rw [k2]; exact hs
      have ek := List.getElem?_eq_getElem hks
      generalize ks[wv.1] = b at ek
      have hb : (upd H' TT (.tup [.ref t, .int (m : Int)])) b = some (.lst ((aftN d.kept d.ws (fun j => cs.getD j 0) i wv.1).map V.int)) := by
        rcases k3 _ _ ek with h | h
        · exact gN _ _ h
        · exact eN _ _ h.2
      have hpN := eN _ _ (fr _ _ ho n1)
      generalize upd H' TT (.tup [.ref t, .int (m : Int)]) = HN at *
      have hlen := aft_len (c := fun j => cs.getD j 0) D.kz (fun w hw => (D.ok w hw).2) i (by omega) wv.1
      refine s_setLL (j := wv.1) (ys := ((wv.2.take m ++ (aftN d.kept d.ws (fun j => cs.getD j 0) i wv.1).drop m)).map V.int) kk (el_is (el_catL (el_sl (ev_var rfl) eo_none (eo_some (ev_var rfl)) (sq_of (gN _ _ g2))) (el_sl (ev_op (ev_fld (ev_var rfl) hpN T.cl T.nk d_k) (ev_var rfl) (rv_ixL (v := .ref b) (sq_of kk) (atI_nat (by rw [List.getElem?_map, ek]; rfl)))) (eo_some (ev_var rfl)) eo_none (sq_of hb)) ?_) ?_) (ev_fld (ev_var rfl) hpN T.cl T.nk d_k) (ev_var rfl) (by rw [List.length_map]; exact hks) fun r H2 hr2 e2 h2 => ?_
      · rw [cut_lo, cut_hi, List.length_take, List.length_drop, List.length_map, List.length_map]
        omega
      · rw [cut_lo, cut_hi, List.map_append, List.map_take, List.map_drop]
      · have aN : ∀ a, H a ≠ none → HN a ≠ none := fun a h z => al a h (fresh_back eN z)
        have rk : r ≠ ka := fun e => aN ka ak (by rw [← e]; exact hr2)
        have hr0 : H r = none := Classical.byContradiction fun h => aN r h hr2
        have cN : aftN d.kept d.ws (fun j => cs.getD j 0) (i + 1) = fset (aftN d.kept d.ws (fun j => cs.getD j 0) i) wv.1 (wv.2.take m ++ (aftN d.kept d.ws (fun j => cs.getD j 0) i wv.1).drop m) := by
          show stepA (aftN d.kept d.ws (fun j => cs.getD j 0) i) (d.ws.getD i (0, [])) (cs.getD i 0) = _
          rw [getD_in hwi, getD_in hm]
          rfl
        refine ⟨_, _, _, ks.set wv.1 r, rfl, (gN.trans e2).mut D.gk, fun a h z => ?_, fun a o h hn => ?_, by rw [upd_same, List.map_set], by rw [List.length_set, k2], fun j a ha => ?_⟩
        · by_cases e : a = ka
          · rw [e, upd_same] at z
            cases z
          · rw [upd_ne e] at z
            exact aN a h (fresh_back e2 z)
        · rw [upd_ne hn]
          exact e2 _ _ (eN _ _ (fr a o h hn))
        · rw [cN]
          unfold fset
          by_cases hj : j = wv.1
          · subst hj
            rw [List.getElem?_set_self hks] at ha
            cases ha
            rw [if_pos rfl, upd_ne rk]
            exact .inr ⟨hr0, h2⟩
          · rw [List.getElem?_set_ne (fun e => hj e.symm)] at ha
            rw [if_neg hj]
            refine (k3 j a ha).imp id fun h => ⟨h.1, ?_⟩
            rw [upd_ne (fun e => ak (by rw [← e]; exact h.1))]
            exact e2 _ _ (eN _ _ h.2)
    · rintro σ' H' ⟨y2, y3, y4, ks, rfl, g', al, fr, k1, k2, k3⟩
      have hp' := fr _ _ ho n1
      have eA : aftN d.kept d.ws (fun j => cs.getD j 0) (min (ts.map V.ref).length (cs.map nV).length) = aftN d.kept d.ws (fun j => cs.getD j 0) d.ws.length := by
        rw [List.length_map, List.length_map, w2]
        by_cases h : d.ws.length ≤ cs.length
        · rw [Nat.min_eq_left h]
        · rw [Nat.min_eq_right (by omega)]
          have := aft_stop (f := d.kept) (ws := d.ws) (c := fun j => cs.getD j 0) (i := cs.length) (fun j hj => by
            show cs.getD j 0 = 0
            rw [List.getD_eq_getElem?_getD, List.getElem?_eq_none hj]
            rfl) (d.ws.length - cs.length)
          rw [← this]
          congr 1
          omega
      rw [eA] at k3
      refine q_fldL (el_list (ev_fld (ev_var rfl) hp' T.cl T.nk d_k) (sq_of k1)) (ev_var rfl) hp' T.cl T.ns (by show 6 < 1000; decide) fun s2 H2 hs2 e2 h2 => ?_
      rw [d_ps]
      refine s_fldL (el_lst ea_nil (by simp)) (ev_var rfl) upd_same T.cl T.nw (by show 6 < 1000; decide) fun w4 H4 hw4 e4 h4 => ?_
      rw [d_pw]
      have a2 : ∀ a, H a ≠ none → H2 a ≠ none := fun a h z => al a h (fresh_back e2 z)
      have s2_0 : H s2 = none := Classical.byContradiction fun h => al s2 h hs2
      have pS : p ≠ s2 := fun e => ap (by rw [e]; exact s2_0)
      have kS : ka ≠ s2 := fun e => ak (by rw [e]; exact s2_0)
      have w4_2 : H2 w4 = none := by
        by_cases e : w4 = p
        · rw [e, upd_same] at hw4
          cases hw4
        · rw [upd_ne e] at hw4
          exact hw4
      have w4_0 : H w4 = none := Classical.byContradiction fun h => a2 w4 h w4_2
      have pW : p ≠ w4 := fun e => ap (by rw [e]; exact w4_0)
      have kW : ka ≠ w4 := fun e => ak (by rw [e]; exact w4_0)
      have sW : s2 ≠ w4 := fun e => by
        rw [← e, h2] at w4_2
        cases w4_2
      have fX : ∀ a o, H2 a = some o → a ≠ p → (upd H4 p (.ins C dx (dfl n ka s2 w4 d.pw d.bf))) a = some o := fun a o h hn => by
        rw [upd_ne hn]
        exact e4 _ _ (by rw [upd_ne hn]; exact h)
      have aX : ∀ a, H2 a ≠ none → (upd H4 p (.ins C dx (dfl n ka s2 w4 d.pw d.bf))) a ≠ none := fun a h z => by
        by_cases e : a = p
        · rw [e, upd_same] at z
          cases z
        · rw [upd_ne e] at z
          have z2 := fresh_back e4 z
          rw [upd_ne e] at z2
          exact h z2
      have wX : (upd H4 p (.ins C dx (dfl n ka s2 w4 d.pw d.bf))) w4 = some (.lst []) := by
        rw [upd_ne pW.symm]
        exact h4
      have pX : (upd H4 p (.ins C dx (dfl n ka s2 w4 d.pw d.bf))) p = some (.ins C dx (dfl n ka s2 w4 d.pw d.bf)) := upd_same
      have gX : Ex G (upd H4 p (.ins C dx (dfl n ka s2 w4 d.pw d.bf))) := (((g'.trans e2).mut D.gp).trans e4).mut D.gp
      generalize upd H4 p (.ins C dx (dfl n ka s2 w4 d.pw d.bf)) = HX at *
      have row : ∀ (j : Nat) (a : Addr), ks[j]? = some a → grow G H HX (fun a => a = s2 ∨ a = w4) a = some (.lst ((aftN d.kept d.ws (fun j => cs.getD j 0) d.ws.length j).map V.int)) := fun j a ha => by
        rcases k3 j a ha with h | h
        · exact grow_ex _ _ h
        · have ap' : a ≠ p := fun e => ap (by rw [← e]; exact h.1)
          have as' : a ≠ s2 := fun e => by
            rw [← e, h.2] at hs2
            cases hs2
          have aw' : a ≠ w4 := fun e => by
            have := e2 _ _ h.2
            rw [e, w4_2] at this
            cases this
          exact grow_new (fresh_back D.g h.1) h.1 (fun z => z.elim as' aw') (fX _ _ (e2 _ _ h.2) ap')
      refine q (grow G H HX fun a => a = s2 ∨ a = w4) HX s2 w4 ⟨grow_ex, fun a h g => grow_no h g, fun a h => aX a (a2 a h)⟩ (fun a o h hp hk => fX a o (e2 _ _ (fr a o h hk)) hp)
        ⟨grow_sub gX, grow_no ap D.gp, grow_no ak D.gk, grow_X (.inl rfl) (fresh_back D.g s2_0), grow_X (.inr rfl) (fresh_back D.g w4_0), kS, kW, sW, ⟨dx, pX⟩, ⟨ks, fX _ _ (e2 _ _ k1) n1.symm, k2, row⟩, ⟨ks, fX _ _ h2 pS.symm, k2, row⟩, ⟨[], wX, rfl, fun i t w' ht => by simp at ht⟩, D.n0, D.n1, Nat.zero_le _, fun w' hw' => absurd hw' List.not_mem_nil, aft_len D.kz (fun w hw => (D.ok w hw).2) _ (Nat.le_refl _)⟩
end

end K06

set_option Elab.async false
set_option linter.all false
set_option maxRecDepth 100000
set_option maxHeartbeats 4000000
namespace K06
open PySem PySem.Spec PyProof.Rows L2 Evl LK LT LG LS LQ LX LO LN LP
theorem nV_ints (cs : List Nat) : cs.map nV = (cs.map fun k : Nat => (k : Int)).map V.int := by
  rw [List.map_map]
  rfl
theorem wc_nats : ∀ {xs : List V}, xs.all wc = true → ∃ cs : List Nat, xs = cs.map nV ∧ ∀ k ∈ cs, k ≤ 8
  | [], _ => ⟨[], rfl, fun z hz => absurd hz List.not_mem_nil⟩
  | x :: r, h => by
    rw [List.all_cons, Bool.and_eq_true] at h
    obtain ⟨ns, e, hn⟩ := wc_nats h.2
    cases x with
    | int i =>
      have h0 : (decide (0 ≤ i) && decide (i ≤ 8)) = true := h.1
      have h1 : 0 ≤ i ∧ i ≤ 8 := by simpa using h0
      obtain ⟨k, rfl⟩ := Int.eq_ofNat_of_zero_le h1.1
      exact ⟨k :: ns, by rw [e]; rfl, fun z hz => by
        rcases List.mem_cons.mp hz with rfl | h
        · omega
        · exact hn z h⟩
    | _ => cases h.1
theorem nats_wc {cs : List Nat} (h : ∀ k ∈ cs, k ≤ 8) : (cs.map nV).all wc = true := by
  rw [List.all_eq_true]
  intro x hx
  obtain ⟨z, hz, rfl⟩ := List.mem_map.mp hx
  have := h z hz
  show (decide ((0 : Int) ≤ (z : Int)) && decide ((z : Int) ≤ 8)) = true
  rw [decide_eq_true (by omega), decide_eq_true (by omega)]
  rfl
theorem nV_inj : ∀ {cs ds : List Nat}, cs.map nV = ds.map nV → cs = ds
  | [], [], _ => rfl
  | [], d :: s, h => by simp at h
  | c :: r, [], h => by simp at h
  | c :: r, d :: s, h => by
    rw [List.map_cons, List.map_cons] at h
    injection h with h1 h2
    have h3 : (c : Int) = (d : Int) := V.int.inj h1
    rw [nV_inj h2]
    congr 1
    omega
section
variable {P : Program} {w : World} {K : PySem.W.Frag} {mg : Str → Option Value} {base : Heap} {C CN CO : Addr}
theorem ok_flush {f fB fS : Addr} {fd fdB fdS : FuncData} (F : Fun K "flush" "Disk.flush" sFlush f fd) (Gbegin_operation : FnOk P w K mg base (L2.CX P w) 1 fB fdB ["self"] (spBeg C CO)) (bbegin_operation : Binds K fdB ["self"] []) (mbegin_operation : Meth K C "_begin_operation" fB) (Gsettle_writes : FnOk P w K mg base CX0 1 fS fdS ["self", "choices"] (spSet C)) (bsettle_writes : Binds K fdS ["self", "choices"] []) (msettle_writes : Meth K C "_settle_writes" fS) (T : Txt mg K C) : FnOk P w K mg base (L2.CX P w) 2 f fd ["self"] (spFlush C CO) := by
  obtain ⟨_, gSECTOR_WORDS⟩ := T.gSECTOR_WORDS
  refine F.okX scFlush (fun vs H Q E h => ?_) (fun cdv A outer s H vs Q E hr h => ?_)
  · obtain ⟨G, p, ka, sa, wa, n, d, rfl, _⟩ := h
    rfl
  · obtain ⟨G, p, ka, sa, wa, n, d, rfl, D, q, qO⟩ := h
    obtain ⟨dx, ho⟩ := D.o
    refine ⟨_, (pss_cons (ps_expr (pe_meth0 (pv 0) T.cl mbegin_operation Gbegin_operation (hr.mono (by decide)) bbegin_operation .nil (pass_own (takes_of rfl rfl rfl rfl))))
      (pss_one (ps_expr (pe_meth (pv 0) T.cl msettle_writes Gsettle_writes (hr.mono (by decide)) bsettle_writes .nil pass0 (pa_cons (pe_op op_rep (pe_lst (pa_cons (pe_glob (v := .int 8) rfl gSECTOR_WORDS ⟨_, rfl⟩) pa_nil)) (pe_callB call_len_seq (by rfl) T.len (by decide +kernel) (pa_cons (pe_fld (pv 0) rfl) pa_nil))) pa_nil))))), ?_⟩
    refine q_m (ev_var rfl) ho (d_no ⟨by decide +kernel, by decide +kernel, by decide +kernel, by decide +kernel, by decide +kernel, by decide +kernel⟩) ea_nil fun H2 e2 => ⟨G, p, ka, sa, wa, n, d, rfl, D.ex e2, fun hon H3 al fr D3 => ?_, fun hno H3 al fr D3 => qO hno H3 ⟨Ex.refl _, fun _ _ g => g, fun a h z => al a (fun z => h (fresh_back e2 z)) z⟩ (fun a o h hp => fr a o (e2 _ _ h) hp) D3⟩
    have al3 : ∀ a, H a ≠ none → H3 a ≠ none := fun a h => al a (fun z => h (fresh_back e2 z))
    obtain ⟨dx3, ho3⟩ := D3.o
    obtain ⟨ts, w1, w2, w3⟩ := D3.w
    have hwl : d.ws.length ≤ 2000 := D.wl
    have w2' : ts.length = d.ws.length := w2
    refine mR_run (ev_var rfl) ho3 (d_no ⟨by decide +kernel, by decide +kernel, by decide +kernel, by decide +kernel, by decide +kernel, by decide +kernel⟩) (el_rep1 (el_lst (ea_cons ev_c ea_nil) (by simp)) (ev_len (ev_fld (ev_var rfl) ho3 T.cl T.nw d_w) (sq_of w1)) (by omega) (by rw [List.length_map]; omega)) fun c H5 hc e5 h5 => ?_
    have D5 := D3.ex e5
    have hck : c ≠ ka := fun e => D3.al.2.1 (by rw [← e]; exact hc)
    refine ⟨G, p, ka, sa, wa, n, _, c, List.replicate d.ws.length 8, rfl, D5, ?_, hck, fun G' H6 sa' wa' S6 fr6 D6 => ?_⟩
    · rw [h5, List.length_map, w2', List.map_replicate]
      rfl
    · have ec : aftN d.kept d.ws (fun j => (List.replicate d.ws.length 8).getD j 0) d.ws.length = aftN d.kept d.ws (fun _ => 8) d.ws.length := aft_cong fun j hj => by
        rw [List.getD_eq_getElem?_getD, List.getElem?_replicate, if_pos hj]
        rfl
      have D7 : DK C G' H6 p ka sa' wa' n { kept := aftN d.kept d.ws (fun _ => 8) d.ws.length, ws := [], pw := d.pw, bf := d.bf.map (· - 1) } := by
        rw [← ec]
        exact D6
      exact q hon G' H6 sa' wa' ⟨S6.g, fun a h g => S6.n a (fun z => al3 a h (fresh_back e5 z)) g, fun a h => S6.a a (fun z => al3 a h (fresh_back e5 z))⟩ (fun a o h hp hk => fr6 a o (e5 _ _ (fr a o (e2 _ _ h) hp)) hp hk) D7
theorem ok_wait {f : Addr} {fd : FuncData} (F : Fun K "waiting" "Disk.waiting" sWait f fd) (T : Txt mg K C) : FnOk P w K mg base CX0 1 f fd ["self"] (spWait C) := by
  refine F.ok scWait (fun vs H Q E h => ?_) (fun cdv A outer s H vs Q E hr h => ?_)
  · obtain ⟨G, p, ka, sa, wa, n, d, rfl, _⟩ := h
    rfl
  · obtain ⟨G, p, ka, sa, wa, n, d, rfl, D, q⟩ := h
    obtain ⟨dx, ho⟩ := D.o
    obtain ⟨ts, w1, w2, w3⟩ := D.w
    have hwl := D.wl
    refine ⟨_, (pss_one (ps_ret (pe_lc (own := [("sector", 1), ("words", 2)]) (g := gTup K 2 (gCons (gName 1) (gCons (gName 2) gNil))) (tt := tYes) rfl scWait.nd (pi_list (pe_fld (pv 0) rfl)) (blkOk_by (own := [("sector", 1), ("words", 2)]) (N := ["self", "sector", "words"]) (sc := defScope sWait) (by decide +kernel)) (fun _ _ _ _ _ => pg_tup rfl (pgs_cons (pg_name (i := 1) scWait.nd rfl (Or.inl rfl)) (pgs_cons (pg_name (i := 2) scWait.nd rfl (Or.inl rfl)) pgs_nil))) (fun _ _ _ _ _ => pts_nil) (fun _ _ _ _ _ => (pe_tup (pa_cons (pv 1) (pa_cons (pe_callTy (r := rListS K) call_list_of (by rfl) T.list (by decide +kernel) (pa_cons (pv 2) pa_nil)) pa_nil))))))), ?_⟩
    refine er_ret (R := Rw H d.ws) (er_L2 (ev_fld (ev_var rfl) ho T.cl T.nw d_w) (sq_of w1) (by rw [List.length_map]; omega) (fun _ _ => rfl) (rw_mon _ _) (fun i x Dd H1 hD e1 hDn hx => ?_)) fun L ys H1 hL e1 h1 hn hr => q L ys H1 hL e1 h1 (by rw [hn, List.length_map, w2]) hr
    rw [List.getElem?_map] at hx
    obtain ⟨t, ht, rfl⟩ := Option.map_eq_some_iff.mp hx
    have hi : i < d.ws.length := by rw [← w2]; exact (List.getElem?_eq_some_iff.mp ht).1
    have hwi := List.getElem?_eq_getElem hi
    generalize d.ws[i] = wv at hwi
    obtain ⟨l, g1, g2⟩ := w3 i t wv ht hwi
    have gH := D.g.trans e1
    refine ⟨t, _, _, rfl, st_of (gH _ _ g1), fun xs hxs hpre Q' q' => ?_⟩
    refine ⟨.int (wv.1 : Int), rfl, el_list (K := K) (ev_var rfl) (sq_of (gH _ _ g2)) H1 (Ex.refl _) _ fun l2 H2 hl2 e2 h2 => ⟨by show 2 ≤ sizeLine; decide, fun t2 ht2 => ?_⟩⟩
    have eT := Ex.new (o := .tup [.int (wv.1 : Int), .ref l2]) ht2
    have b1 : but Dd (upd H2 t2 (.tup [.int (wv.1 : Int), .ref l2])) t2 = some (.tup [.int (wv.1 : Int), .ref l2]) := but_new hDn (fresh_back e2 ht2) upd_same
    have b2 : but Dd (upd H2 t2 (.tup [.int (wv.1 : Int), .ref l2])) l2 = some (.lst (wv.2.map V.int)) := but_new hDn hl2 (eT _ _ h2)
    refine q' (.ref t2) _ (e2.trans eT) ⟨t2, l2, wv, rfl, hwi, fresh_back (e1.trans e2) ht2, fresh_back e1 hl2, b1, b2, fun t' ht' => ?_⟩
    obtain ⟨j, hj⟩ := List.mem_iff_getElem?.mp ht'
    obtain ⟨t3, l3, w3', e3, _, _, _, h5, h6, _⟩ := hpre j _ hj
    cases e3
    exact ⟨_, l3, ex_but (e2.trans eT) _ _ h5, fun e => by
      have := but_ex _ _ h6
      rw [e, hl2] at this
      cases this⟩
theorem ok_img {f : Addr} {fd : FuncData} (F : Fun K "image" "Disk.image" sImg f fd) (T : Txt mg K C) : FnOk P w K mg base CX0 1 f fd ["self"] (spImgs C fun d => due d.kept d.ws) := by
  refine F.ok scImg (fun vs H Q E h => ?_) (fun cdv A outer s H vs Q E hr h => ?_)
  · obtain ⟨G, p, ka, sa, wa, n, d, rfl, _⟩ := h
    rfl
  · obtain ⟨G, p, ka, sa, wa, n, d, rfl, D, q⟩ := h
    obtain ⟨dx, ho⟩ := D.o
    obtain ⟨ks, w1, w2, w3⟩ := D.s
    have hn1 := D.n1
    refine ⟨_, (pss_one (ps_ret (pe_lc (own := [("words", 1)]) (g := gName 1) (tt := tYes) rfl scImg.nd (pi_list (pe_fld (pv 0) rfl)) (blkOk_by (own := [("words", 1)]) (N := ["self", "words"]) (sc := defScope sImg) (by decide +kernel)) (fun _ _ _ _ _ => pg_name (i := 1) scImg.nd rfl (Or.inl rfl)) (fun _ _ _ _ _ => pts_nil) (fun _ _ _ _ _ => (pe_callTy (r := rListS K) call_list_of (by rfl) T.list (by decide +kernel) (pa_cons (pv 1) pa_nil)))))), ?_⟩
    refine er_ret (R := Rl H (due d.kept d.ws)) (er_L (ev_fld (ev_var rfl) ho T.cl T.ns d_s) (sq_of w1) (by rw [List.length_map]; omega) (fun _ => rfl) (rl_mon _ _) (fun i x Dd H1 hD e1 hDn hx xs hxs hpre Q' q' => ?_)) fun L ys H1 hL e1 h1 hn hr => q L ys H1 hL e1 h1 (by rw [hn, List.length_map, w2]) hr
    rw [List.getElem?_map] at hx
    obtain ⟨t, ht, rfl⟩ := Option.map_eq_some_iff.mp hx
    have gH := D.g.trans e1
    refine el_list (K := K) (ev_var rfl) (sq_of (gH _ _ (w3 i t ht))) H1 (Ex.refl _) _ fun l2 H2 hl2 e2 h2 => q' (.ref l2) H2 e2 ⟨l2, rfl, fresh_back e1 hl2, but_new hDn hl2 h2, fun l' hl' e => ?_⟩
    obtain ⟨j, hj⟩ := List.mem_iff_getElem?.mp hl'
    obtain ⟨l3, e3, _, h6, _⟩ := hpre j _ hj
    cases e3
    have := but_ex _ _ h6
    rw [e, hl2] at this
    cases this
theorem ok_last {f : Addr} {fd : FuncData} (F : Fun K "lasting" "Disk.lasting" sLast f fd) (T : Txt mg K C) : FnOk P w K mg base CX0 1 f fd ["self"] (spImgs C Dk.kept) := by
  refine F.ok scLast (fun vs H Q E h => ?_) (fun cdv A outer s H vs Q E hr h => ?_)
  · obtain ⟨G, p, ka, sa, wa, n, d, rfl, _⟩ := h
    rfl
  · obtain ⟨G, p, ka, sa, wa, n, d, rfl, D, q⟩ := h
    obtain ⟨dx, ho⟩ := D.o
    obtain ⟨ks, w1, w2, w3⟩ := D.k
    have hn1 := D.n1
    refine ⟨_, (pss_one (ps_ret (pe_lc (own := [("words", 1)]) (g := gName 1) (tt := tYes) rfl scLast.nd (pi_list (pe_fld (pv 0) rfl)) (blkOk_by (own := [("words", 1)]) (N := ["self", "words"]) (sc := defScope sLast) (by decide +kernel)) (fun _ _ _ _ _ => pg_name (i := 1) scLast.nd rfl (Or.inl rfl)) (fun _ _ _ _ _ => pts_nil) (fun _ _ _ _ _ => (pe_callTy (r := rListS K) call_list_of (by rfl) T.list (by decide +kernel) (pa_cons (pv 1) pa_nil)))))), ?_⟩
    refine er_ret (R := Rl H d.kept) (er_L (ev_fld (ev_var rfl) ho T.cl T.nk d_k) (sq_of w1) (by rw [List.length_map]; omega) (fun _ => rfl) (rl_mon _ _) (fun i x Dd H1 hD e1 hDn hx xs hxs hpre Q' q' => ?_)) fun L ys H1 hL e1 h1 hn hr => q L ys H1 hL e1 h1 (by rw [hn, List.length_map, w2]) hr
    rw [List.getElem?_map] at hx
    obtain ⟨t, ht, rfl⟩ := Option.map_eq_some_iff.mp hx
    have gH := D.g.trans e1
    refine el_list (K := K) (ev_var rfl) (sq_of (gH _ _ (w3 i t ht))) H1 (Ex.refl _) _ fun l2 H2 hl2 e2 h2 => q' (.ref l2) H2 e2 ⟨l2, rfl, fresh_back e1 hl2, but_new hDn hl2 h2, fun l' hl' e => ?_⟩
    obtain ⟨j, hj⟩ := List.mem_iff_getElem?.mp hl'
    obtain ⟨l3, e3, _, h6, _⟩ := hpre j _ hj
    cases e3
    have := but_ex _ _ h6
    rw [e, hl2] at this
    cases this
def Rz (H0 : Hp) : Rel := fun _ _ y H => ∃ l, y = .ref l ∧ H0 l = none ∧ H l = some (.lst (Z8.map V.int))
theorem rz_mon (H0 : Hp) : Mon (Rz H0) := fun i prev y H H' e ⟨l, h1, h2, h3⟩ => ⟨l, h1, h2, e _ _ h3⟩
theorem ok_init {f fS : Addr} {fd fdS : FuncData} (F : Fun K "__init__" "Disk.__init__" sInit f fd) (FSz : Fun K "is_size" "is_size" sSize fS fdS) (GSz : FnOk P w K mg base CX0 2 fS fdS ["blocks"] spSize) (bSz : Binds K fdS ["blocks"] []) (gSz : mg "is_size" = some (.ref fS)) (T : Txt mg K C) (XN : Xc K mg "NotValid" CN) : FnOk P w K mg base (L2.CX P w) 3 f fd ["self", "blocks"] (spInit C) := by
  obtain ⟨_, gSECTOR_WORDS⟩ := T.gSECTOR_WORDS
  obtain ⟨_, gBLOCK_SECTORS⟩ := T.gBLOCK_SECTORS
  refine F.okX scInit (fun vs H Q E h => ?_) (fun cdv A outer s H vs Q E hr h => ?_)
  · obtain ⟨G, p, dx, n, rfl, _⟩ := h
    rfl
  · obtain ⟨G, p, dx, n, rfl, g0, gp, ho, h0, h1, q⟩ := h
    refine ⟨_, (pss_cons (ps_if (pt_not (pt_val (pe_call GSz (hr.mono (by decide)) (by rfl) gSz FSz.kp bSz .nil pass0 (pa_cons (pv 1) pa_nil)))) (pss_one (ps_raise0 rfl XN (takes_of rfl rfl rfl rfl) (by rfl))) pss_nil)
      (pss_cons (ps_fld (pv 0) (pv 1) rfl)
      (pss_cons (ps_fld (pv 0) (pe_lc (own := [("_", 2)]) (g := gName 2) (tt := tYes) rfl scInit.nd (pi_range1 (by rfl) T.range (pa_cons (pe_op op_mul (pe_glob (v := .int 4) rfl gBLOCK_SECTORS ⟨_, rfl⟩) (pv 1)) pa_nil)) (blkOk_by (own := [("_", 2)]) (N := ["self", "blocks", "_"]) (sc := defScope sInit) (by decide +kernel)) (fun _ _ _ _ _ => pg_name (i := 2) scInit.nd rfl (Or.inl rfl)) (fun _ _ _ _ _ => pts_nil) (fun _ _ _ _ _ => (pe_op op_rep (pe_lst (pa_cons pe_int pa_nil)) (pe_glob (v := .int 8) rfl gSECTOR_WORDS ⟨_, rfl⟩)))) rfl)
      (pss_cons (ps_fld (pv 0) (pe_callTy call_list_of (by rfl) T.list (by decide +kernel) (pa_cons (pe_fld (pv 0) rfl) pa_nil)) rfl)
      (pss_cons (ps_fld (pv 0) (pe_lst pa_nil) rfl)
      (pss_cons (ps_fld (pv 0) pe_bl rfl)
      (pss_one (ps_fld (pv 0) pe_non rfl)))))))), ?_⟩
    refine q_when (b := false) (et_is (et_not (et_B (ev_call (vs := [.int (n : Int)]) (ea_cons (ev_var rfl) ea_nil) (fun H1 e1 Q' q' E' => ⟨(n : Int), rfl, q'⟩)))) (by
      rw [decide_eq_true (by omega), decide_eq_true (by omega), decide_eq_true (by omega)]
      rfl)) (fun h => by cases h) (fun _ H1 e1 => ?_)
    refine q_fld (ev_var rfl) (ev_var rfl) (e1 _ _ ho) T.cl T.nb (by show 0 < 1000; decide) fun H2 e2 => ?_
    have aP : ∀ {H' H'' : Hp} {o : HO}, (∀ a, H a ≠ none → H' a ≠ none) → Ex H' H'' → ∀ a, H a ≠ none → (upd H'' p o) a ≠ none := fun h e a ha z => by
      by_cases ep : a = p
      · rw [ep, upd_same] at z
        cases z
      · rw [upd_ne ep] at z
        exact h a ha (fresh_back e z)
    have fP : ∀ {H' H'' : Hp} {o : HO}, (∀ a u, H a = some u → a ≠ p → H' a = some u) → Ex H' H'' → ∀ a u, H a = some u → a ≠ p → (upd H'' p o) a = some u := fun h e a u ha hn => by
      rw [upd_ne hn]
      exact e _ _ (h a u ha hn)
    have a2 := aP (o := .ins C dx (putF "blocks" (.int (n : Int)) [])) (fun a ha => ha) (e1.trans e2)
    have f2 := fP (o := .ins C dx (putF "blocks" (.int (n : Int)) [])) (fun a u ha _ => ha) (e1.trans e2)
    have g2 : Ex G (upd H2 p (.ins C dx (putF "blocks" (.int (n : Int)) []))) := ((g0.trans e1).trans e2).mut gp
    have p2 : (upd H2 p (.ins C dx (putF "blocks" (.int (n : Int)) []))) p = some (.ins C dx [(("blocks" : Str), .int (n : Int))]) := upd_same
    generalize upd H2 p (.ins C dx (putF "blocks" (.int (n : Int)) [])) = H3 at *
    refine q_fldR (n := (4 * (n : Int)).toNat) (R := Rz H3) (er_R1 (ea_cons (ev_op ev_c (ev_var rfl) (rv_I (.inl ⟨by decide, by decide⟩))) ea_nil) ⟨by omega, by omega⟩ (fun _ => rfl) (rz_mon _) (fun i Dd H4 hD e4 hDn hi xs hxs hpre Q' q' => ?_)) (ev_var rfl) p2 T.cl T.nk (by show 1 < 1000; decide) fun ka xs H4 H5 hk4 e4 e5 h5 hxl hrow => ?_
    · exact el_rep1 (el_lst (ea_cons ev_c ea_nil) (by simp)) ev_c (by decide) (by decide) H4 (Ex.refl _) _ fun l H5 hl e5 h5 => q' (.ref l) H5 e5 ⟨l, rfl, fresh_back e4 hl, but_new hDn hl h5⟩
    have hkp : ka ≠ p := fun e => by rw [e, p2] at hk4; cases hk4
    have e45 := e4.trans e5
    have a4 := aP (o := .ins C dx (putF "_kept" (.ref ka) [(("blocks" : Str), .int (n : Int))])) a2 e45
    have f4 := fP (o := .ins C dx (putF "_kept" (.ref ka) [(("blocks" : Str), .int (n : Int))])) f2 e45
    have g4 : Ex G (upd H5 p (.ins C dx (putF "_kept" (.ref ka) [(("blocks" : Str), .int (n : Int))]))) := (g2.trans e45).mut gp
    have p4 : (upd H5 p (.ins C dx (putF "_kept" (.ref ka) [(("blocks" : Str), .int (n : Int))]))) p = some (.ins C dx [(("blocks" : Str), .int (n : Int)), (("_kept" : Str), .ref ka)]) := upd_same
    have k4 : (upd H5 p (.ins C dx (putF "_kept" (.ref ka) [(("blocks" : Str), .int (n : Int))]))) ka = some (.lst xs) := by rw [upd_ne hkp]; exact h5
    have r4 : ∀ (i : Nat) (y : V), xs[i]? = some y → ∃ l, y = V.ref l ∧ H3 l = none ∧ (upd H5 p (.ins C dx (putF "_kept" (.ref ka) [(("blocks" : Str), .int (n : Int))]))) l = some (.lst (Z8.map V.int)) := fun i y hy => by
      obtain ⟨l, h1, h2, h3⟩ := hrow i y hy
      refine ⟨l, h1, h2, ?_⟩
      rw [upd_ne (fun e => by rw [e, p2] at h2; cases h2)]
      exact e5 _ _ h3
    generalize upd H5 p (.ins C dx (putF "_kept" (.ref ka) [(("blocks" : Str), .int (n : Int))])) = H6 at *
    refine q_fldL (el_list (ev_fld (ev_var rfl) p4 T.cl T.nk rfl) (sq_of k4)) (ev_var rfl) p4 T.cl T.ns (by show 2 < 1000; decide) fun sa H7 hs7 e7 h7 => ?_
    have hsp : sa ≠ p := fun e => by rw [e, p4] at hs7; cases hs7
    have hsk : ka ≠ sa := ne_of_none k4 hs7
    have a7 := aP (o := .ins C dx (putF "_shown" (.ref sa) [(("blocks" : Str), .int (n : Int)), (("_kept" : Str), .ref ka)])) a4 e7
    have f7 := fP (o := .ins C dx (putF "_shown" (.ref sa) [(("blocks" : Str), .int (n : Int)), (("_kept" : Str), .ref ka)])) f4 e7
    have g7 : Ex G (upd H7 p (.ins C dx (putF "_shown" (.ref sa) [(("blocks" : Str), .int (n : Int)), (("_kept" : Str), .ref ka)]))) := (g4.trans e7).mut gp
    have p7 : (upd H7 p (.ins C dx (putF "_shown" (.ref sa) [(("blocks" : Str), .int (n : Int)), (("_kept" : Str), .ref ka)]))) p = some (.ins C dx [(("blocks" : Str), .int (n : Int)), (("_kept" : Str), .ref ka), (("_shown" : Str), .ref sa)]) := upd_same
    have x7 : ∀ a o, H6 a = some o → a ≠ p → (upd H7 p (.ins C dx (putF "_shown" (.ref sa) [(("blocks" : Str), .int (n : Int)), (("_kept" : Str), .ref ka)]))) a = some o := fun a o h hn => by rw [upd_ne hn]; exact e7 _ _ h
    have s7 : (upd H7 p (.ins C dx (putF "_shown" (.ref sa) [(("blocks" : Str), .int (n : Int)), (("_kept" : Str), .ref ka)]))) sa = some (.lst xs) := by rw [upd_ne hsp]; exact h7
    generalize upd H7 p (.ins C dx (putF "_shown" (.ref sa) [(("blocks" : Str), .int (n : Int)), (("_kept" : Str), .ref ka)])) = H8 at *
    refine q_fldL (el_lst ea_nil (by simp)) (ev_var rfl) p7 T.cl T.nw (by show 3 < 1000; decide) fun wa H9 hw9 e9 h9 => ?_
    have hwp : wa ≠ p := fun e => by rw [e, p7] at hw9; cases hw9
    have hws : sa ≠ wa := ne_of_none s7 hw9
    have hwk : ka ≠ wa := ne_of_none (x7 _ _ k4 hkp) hw9
    have a9 := aP (o := .ins C dx (putF "_writes" (.ref wa) [(("blocks" : Str), .int (n : Int)), (("_kept" : Str), .ref ka), (("_shown" : Str), .ref sa)])) a7 e9
    have f9 := fP (o := .ins C dx (putF "_writes" (.ref wa) [(("blocks" : Str), .int (n : Int)), (("_kept" : Str), .ref ka), (("_shown" : Str), .ref sa)])) f7 e9
    have g9 : Ex G (upd H9 p (.ins C dx (putF "_writes" (.ref wa) [(("blocks" : Str), .int (n : Int)), (("_kept" : Str), .ref ka), (("_shown" : Str), .ref sa)]))) := (g7.trans e9).mut gp
    have p9 : (upd H9 p (.ins C dx (putF "_writes" (.ref wa) [(("blocks" : Str), .int (n : Int)), (("_kept" : Str), .ref ka), (("_shown" : Str), .ref sa)]))) p = some (.ins C dx [(("blocks" : Str), .int (n : Int)), (("_kept" : Str), .ref ka), (("_shown" : Str), .ref sa), (("_writes" : Str), .ref wa)]) := upd_same
    have x9 : ∀ a o, H8 a = some o → a ≠ p → (upd H9 p (.ins C dx (putF "_writes" (.ref wa) [(("blocks" : Str), .int (n : Int)), (("_kept" : Str), .ref ka), (("_shown" : Str), .ref sa)]))) a = some o := fun a o h hn => by rw [upd_ne hn]; exact e9 _ _ h
    have w9 : (upd H9 p (.ins C dx (putF "_writes" (.ref wa) [(("blocks" : Str), .int (n : Int)), (("_kept" : Str), .ref ka), (("_shown" : Str), .ref sa)]))) wa = some (.lst []) := by rw [upd_ne hwp]; exact h9
    generalize upd H9 p (.ins C dx (putF "_writes" (.ref wa) [(("blocks" : Str), .int (n : Int)), (("_kept" : Str), .ref ka), (("_shown" : Str), .ref sa)])) = H10 at *
    refine q_fld ev_c (ev_var rfl) p9 T.cl T.np (by show 4 < 1000; decide) fun H11 e11 => ?_
    refine s_fld ev_c (ev_var rfl) upd_same T.cl T.nf (by show 5 < 1000; decide) fun H12 e12 => ?_
    show Q .non (upd H12 p (.ins C dx (dfl n ka sa wa true none)))
    have x12 : ∀ a o, H10 a = some o → a ≠ p → (upd H12 p (.ins C dx (dfl n ka sa wa true none))) a = some o := fun a o h hn => by
      rw [upd_ne hn]
      exact e12 _ _ (by rw [upd_ne hn]; exact e11 _ _ h)
    have a12 := aP (o := .ins C dx (dfl n ka sa wa true none)) (aP (o := .ins C dx (putF "_powered" (V.bl true) [(("blocks" : Str), .int (n : Int)), (("_kept" : Str), .ref ka), (("_shown" : Str), .ref sa), (("_writes" : Str), .ref wa)])) a9 e11) e12
    have g12 : Ex G (upd H12 p (.ins C dx (dfl n ka sa wa true none))) := (((g9.trans e11).mut gp).trans e12).mut gp
    have p12 : (upd H12 p (.ins C dx (dfl n ka sa wa true none))) p = some (.ins C dx (dfl n ka sa wa true none)) := upd_same
    generalize upd H12 p (.ins C dx (dfl n ka sa wa true none)) = HX at *
    have k0 : H ka = none := Classical.byContradiction fun h => a2 ka h hk4
    have s0 : H sa = none := Classical.byContradiction fun h => a4 sa h hs7
    have w0 : H wa = none := Classical.byContradiction fun h => a7 wa h hw9
    have toX : ∀ a o, H6 a = some o → a ≠ p → HX a = some o := fun a o h hn => x12 _ _ (x9 _ _ (x7 _ _ h hn) hn) hn
    obtain ⟨ks, hks⟩ : ∃ ks : List Addr, xs = ks.map V.ref := by
      refine refs_of fun y hy => ?_
      obtain ⟨i, hi⟩ := List.mem_iff_getElem?.mp hy
      obtain ⟨l, h, _⟩ := r4 i y hi
      exact ⟨l, h⟩
    have hkl : ks.length = 4 * n := by
      have := hxl
      rw [hks, List.length_map] at this
      omega
    have row : ∀ (j : Nat) (a : Addr), ks[j]? = some a → grow G H HX (fun a => a = ka ∨ a = sa ∨ a = wa) a = some (.lst (Z8.map V.int)) := fun j a ha => by
      obtain ⟨l, e, hl3, hl6⟩ := r4 j (.ref a) (by rw [hks, List.getElem?_map, ha]; rfl)
      cases e
      have hap : a ≠ p := fun e => by rw [e, p2] at hl3; cases hl3
      have ha0 : H a = none := Classical.byContradiction fun h => a2 a h hl3
      refine grow_new (fresh_back g0 ha0) ha0 ?_ (toX a _ hl6 hap)
      rintro (e | e | e)
      · rw [e, k4, hks] at hl6
        cases ks with
        | nil => simp at ha
        | cons c r => simp [Z8] at hl6
      · rw [e, hs7] at hl6
        cases hl6
      · rw [e] at hl6
        have := x7 _ _ hl6 hwp
        rw [hw9] at this
        cases this
    have ap : H p ≠ none := by rw [ho]; exact fun z => by cases z
    refine q (grow G H HX fun a => a = ka ∨ a = sa ∨ a = wa) ka sa wa HX ⟨grow_ex, fun a h g => grow_no h g, a12⟩ (fun a o h hp => x12 _ _ (f9 a o h hp) hp) k0 s0 w0
      ⟨grow_sub g12, grow_no ap gp, grow_X (.inl rfl) (fresh_back g0 k0), grow_X (.inr (.inl rfl)) (fresh_back g0 s0), grow_X (.inr (.inr rfl)) (fresh_back g0 w0), hsk, hwk, hws, ⟨dx, p12⟩, ⟨ks, by rw [← hks]; exact toX _ _ k4 hkp, hkl, row⟩, ⟨ks, by rw [← hks]; exact x12 _ _ (x9 _ _ s7 hsp) hsp, hkl, row⟩, ⟨[], x12 _ _ w9 hwp, rfl, fun i t w' ht => by simp at ht⟩, h0, h1, Nat.zero_le _, fun w' hw' => absurd hw' List.not_mem_nil, fun _ => rfl⟩
end

end K06

set_option Elab.async false
set_option linter.all false
set_option maxRecDepth 100000
set_option maxHeartbeats 4000000
namespace K06
open PySem PySem.Spec PyProof.Rows L2 Evl LK LT LG LS LQ LX LO LN LP LH LV
/-! ### values of any kind -/
def Arw (H : Hp) (x : V) (m : Int) (b : Bool) : Prop := (∃ a xs, x = .ref a ∧ H a = some (.lst xs) ∧ (∀ y ∈ xs, ∃ n, Kd H y n) ∧ b = (decide ((xs.length : Int) = m) && xs.all wd)) ∨ (∃ n, Kd H x n ∧ n ≠ "list" ∧ b = false)
theorem Arw.mono {H H' : Hp} {x : V} {m : Int} {b : Bool} (e : Ex H H') : Arw H x m b → Arw H' x m b
  | .inl ⟨a, xs, h1, h2, h3, h4⟩ => .inl ⟨a, xs, h1, e _ _ h2, fun y hy => let ⟨n, k⟩ := h3 y hy; ⟨n, k.mono e⟩, h4⟩
  | .inr ⟨n, k, h1, h2⟩ => .inr ⟨n, k.mono e, h1, h2⟩
theorem Arw.kd {H : Hp} {x : V} {m : Int} {b : Bool} : Arw H x m b → ∃ n, Kd H x n
  | .inl ⟨a, xs, h1, h2, _⟩ => ⟨"list", by rw [h1]; exact .lst h2⟩
  | .inr ⟨n, k, _⟩ => ⟨n, k⟩
def spAre2 (Pt : Addr) : Sp := fun vs H Q _ => Tab H Pt ∧ ∃ (x : V) (m : Int) (b : Bool), vs = [x, .int m] ∧ Arw H x m b ∧ RetV (.bl b) H Q
def szV : V → Bool
  | .int z => decide (0 ≤ z) && (decide (96 ≤ z) && decide (z ≤ 256))
  | _ => false
def spSize2 : Sp := fun vs H Q _ => ∃ (v : V) (n : String), vs = [v] ∧ Kd H v n ∧ RetV (.bl (szV v)) H Q
def spInitX (C CN : Addr) : Sp := fun vs H Q E => ∃ p dx v n, vs = [.ref p, v] ∧ H p = some (.ins C dx []) ∧ Kd H v n ∧ szV v = false ∧ ∀ H1, Ex H H1 → E (.ref CN) none H1
def spI3 (C CN : Addr) : Sp := fun vs H Q E => spInit C vs H Q E ∨ spInitX C CN vs H Q E
theorem fn_or {P : Program} {w : World} {K : PySem.W.Frag} {mg : Str → Option Value} {base : Heap} {CX : CXT} {k : Nat} {f : Addr} {fd : FuncData} {ps : List Str} {sp sp' : Sp} (F : FnOk P w K mg base CX k f fd ps sp) (F' : FnOk P w K mg base CX k f fd ps sp') : FnOk P w K mg base CX k f fd ps (fun vs H Q E => sp vs H Q E ∨ sp' vs H Q E) :=
  ⟨fun vs H Q E h => h.elim (F.len vs H Q E) (F'.len vs H Q E), fun A outer s H args us vs Q E hr e b r h => h.elim (F.run A outer s H args us vs Q E hr e b r) (F'.run A outer s H args us vs Q E hr e b r)⟩
/-! ### C(..) within a try -/
def tMakeA (C : Addr) (sp : Sp) (E : L2.St → XK) (t : TA) : TE := fun σ H Q => t σ H fun vs H1 => ∀ x dx, H1 x = none → H1 dx = none → dx ≠ x → sp (.ref x :: vs) (upd (upd H1 dx (.own x)) x (.ins C dx [])) (fun v H2 => v = .non ∧ Q (.ref x) H2) (E σ)
section
variable {X : Cx} {CX : CXT} {k : Nat} {f C : Addr} {fd : FuncData} {ps : List Str} {sp : Sp} {E : L2.St → XK} {x : Str} {p pos : Pos} {e : Expr} {es : List Expr} {t : TA}
theorem run_makeA {pins : List (Addr × Obj)} {σ : L2.St} {H : Hp} {s : Shared} {Q : VK} {us : List Value} {vs : List V} (M : Mk X.K C f) (F : FnOk X.prog X.w X.K X.mg X.base CX k f fd ps sp) (hr : Room (k + 1) X.A) (hb : Binds X.K fd ps [])
    (hx : PassesAt CX X σ (E σ)) (I : Inv X pins σ H s) (r : Vals vs us)
    (h : ∀ x dx, H x = none → H dx = none → dx ≠ x → sp (.ref x :: vs) (upd (upd H dx (.own x)) x (.ins C dx [])) (fun v H2 => v = .non ∧ Q (.ref x) H2) (E σ)) :
    wpAny (model X.prog X.w) X.A (call (.ref C) us) (EP X pins σ Q) X.xe s := by
  have hq := h (s.heap.objs.size + 1) s.heap.objs.size (I.hok.fresh (Nat.le_succ _)) (I.hok.fresh (Nat.le_refl _)) (Nat.ne_of_lt (Nat.lt_succ_self _))
  have I2 := Inv.made (C := C) I
  have r2 : Vals (V.ref (s.heap.objs.size + 1) :: vs) (Value.ref (s.heap.objs.size + 1) :: us) := .cons rfl r
  have hl : (Value.ref (s.heap.objs.size + 1) :: us).length = ps.length := by
    have e := r2.length
    rw [F.len _ _ _ _ hq] at e
    exact e.symm
  have b := hb ({ s with heap := (s.heap.push _).push _ }) (Value.ref (s.heap.objs.size + 1) :: us) I2.kIn (by rw [List.append_nil]; exact hl)
  rw [List.append_nil] at b
  refine wpAny_call (make_map (f := f) I.kIn M.makes M.init (beq_iff_eq.mp M.fn) (codeAny_mono (F.run _ X.stack _ _ ⟨Value.ref (s.heap.objs.size + 1) :: us, []⟩ (Value.ref (s.heap.objs.size + 1) :: us) _ _ (E σ) (hr.make C us [])
    (I2.env0.make C us []) b r2 hq) fun r s' hq' => ?_))
  cases r with
  | error e => exact hx pins _ _ e s' I2 hq'
  | ok fl =>
    cases fl with
    | ret u =>
      obtain ⟨v, H', I3, rv, ev, q3⟩ := I2.after hq'
      subst ev
      exact ⟨rv, ⟨V.ref (s.heap.objs.size + 1), H', I3, rfl, q3⟩⟩
    | next => exact False.elim hq'
    | brk => exact False.elim hq'
    | cont => exact False.elim hq'
theorem pe_makeA (M : Mk X.K C f) (F : FnOk X.prog X.w X.K X.mg X.base CX k f fd ps sp) (hr : Room (k + 1) X.A) (hg : Gl X x) (hm : X.mg x = some (.ref C)) (hb : Binds X.K fd ps []) (hx : ∀ σ, PassesAt CX X σ (E σ))
    (ha : PA X (e :: es) t) (hdb : (x == ("__debug__" : Str)) = false := by decide) (he : starEach (e :: es) X.env = (false, eval e X.env) :: starEach es X.env := by rfl) (hpl : (backTo pos (starEach es X.env)).any (·.1) = false := by rfl) :
    PE X (.Call (.Name x p) (e :: es) [] pos) (tMakeA C sp E t) := by
  refine ⟨fun pins s σ H Q I h => ?_⟩
  refine wpAny_Call_Name_kw (ld_glob I hg hm ?_ hdb)
  refine PySem.W.callWith_K (h₀ := X.base) I.ok.mod.kin M.kp (thn (ha.run pos pins s σ H _ I h) fun us s1 ⟨vs, H1, I1, r, q⟩ => ⟨I1.kIn, ?_⟩) he hpl
  exact run_makeA M F hr hb (hx σ) I1 r q
end
section
variable {K : PySem.W.Frag} {σ : L2.St} {H : Hp} {te : TE} {t : TA} {tz tu : TS} {D : Ends} {xs : List V} {a : Addr}
theorem q_unpU {i j : Nat} {x y : V} (h : EvU te σ H [x, y]) (k : ∀ H1, Ex H H1 → tz D ((σ.set i (some x)).set j (some y)) H1) : tSeq (tAsg te (gTup K 2 (gCons (gName i) (gCons (gName j) gNil)))) tz D σ H := h H (Ex.refl _) _ fun p H1 hp e1 h1 => ⟨p, [x, y], rfl, st_of h1, rfl, x, [y], rfl, y, [], rfl, rfl, k H1 e1⟩
theorem q_forE {i j : Nat} (h : EvA t σ H [.ref a]) (hx : SqL K H a xs) (Pv : Nat → L2.St → Hp → Prop) (h0 : ∀ H1, Ex H H1 → Pv 0 σ H1) (hl : ∀ i σ' H', Pv i σ' H' → SqL K H' a xs)
    (hs : ∀ n x T σ' H', xs[n]? = some x → Pv n σ' H' → H' T = none → tu { D with nx := Pv (n + 1), ct := Pv (n + 1), bk := tz D } ((σ'.set i (some (.int (n : Int)))).set j (some x)) (upd H' T (.tup [.int (n : Int), x]))) (hd : ∀ σ' H', Pv xs.length σ' H' → tz D σ' H') : tSeq (tFor (iEnum K t) (gTup K 2 (gCons (gName i) (gCons (gName j) gNil))) tu) tz D σ H :=
  h H (Ex.refl H) _ fun H1 e => ⟨a, xs, rfl, ex_l e hx, for_it (D := { D with nx := tz D }) walk_enum Pv (h0 H1 e) (fun i σ' H' _ p => hl i σ' H' p) (fun n v σ' H' H2 hi p y => by
    obtain ⟨T, x1, y1, rfl, hT, rfl, h1, h2⟩ := y
    obtain rfl : V.int (n : Int) = x1 := Option.some.inj h1
    exact ⟨T, _, rfl, st_of upd_same, rfl, _, _, rfl, _, _, rfl, rfl, hs n y1 T σ' H' h2 p hT⟩) hd⟩
theorem eu_divmod {t1 t2 : TE} {i j : Int} (h1 : Ev t1 σ H (.int i)) (h2 : Ev t2 σ H (.int j)) (hc : CDiv i j) : EvU (tCB (fun xs H Q => ∃ i j, xs = [.int i, .int j] ∧ CDiv i j ∧ ∀ p, H p = none → Q (.ref p) (upd H p (.tup [.int (i / j), .int (i % j)]))) (tCons t1 (tCons t2 tNil))) σ H [.int (i / j), .int (i % j)] := fun H1 e Q q =>
  (ea_cons h1 (ea_cons h2 ea_nil)) H1 e _ fun H2 e2 => ⟨i, j, rfl, hc, fun p hp => q p _ (fresh_back e2 hp) (e2.trans (Ex.new hp)) upd_same⟩
end
theorem allF_true (n : Nat) : allF n (fun _ => true) = true := by
  unfold allF
  rw [List.all_eq_true]
  intro _ _
  rfl
theorem due_range (f : Nat → List Int) : ∀ (n s : Nat), due (fun _ => Z8) ((List.range n).map fun j => (j, f j)) s = if s < n then f s else Z8
  | 0, s => by rw [if_neg (by omega)]; rfl
  | n + 1, s => by
    rw [List.range_succ, List.map_append]
    show due _ (_ ++ [(n, f n)]) s = _
    rw [due_snoc]
    show (if s = n then f n else due (fun _ => Z8) ((List.range n).map fun j => (j, f j)) s) = _
    rw [due_range f n s]
    by_cases h : s = n
    · rw [if_pos h, if_pos (by omega), h]
    · rw [if_neg h]
      by_cases h2 : s < n
      · rw [if_pos h2, if_pos (by omega)]
      · rw [if_neg h2, if_neg (by omega)]
theorem eu_is {te : TE} {σ : L2.St} {H : Hp} {xs ys : List V} (h : EvU te σ H xs) (e : xs = ys) : EvU te σ H ys := e ▸ h
theorem aft_due {f : Nat → List Int} {ws : List (Nat × List Int)} (hf : ∀ s, (f s).length = 8) (hw : ∀ w ∈ ws, w.2.length = 8) : ∀ i, i ≤ ws.length → aftN f ws (fun _ => 8) i = due f (ws.take i)
  | 0, _ => rfl
  | i + 1, h => by
    have hi : i < ws.length := by omega
    have hwi := List.getElem?_eq_getElem hi
    have e : ws.take (i + 1) = ws.take i ++ [ws[i]] := by rw [List.take_add_one, hwi]; rfl
    rw [e, due_snoc]
    show stepA (aftN f ws (fun _ => 8) i) (ws.getD i (0, [])) 8 = _
    rw [aft_due hf hw i (by omega), getD_in hwi]
    have h8 := hw _ (List.getElem_mem hi)
    have hd := due_len hf (ws := ws.take i) (fun w hm => hw w (List.mem_of_mem_take hm)) (ws[i]).1
    unfold stepA
    rw [List.take_of_length_le (l := (ws[i]).2) (by omega), List.drop_eq_nil_of_le (by omega), List.append_nil]

/-- what disk_from refuses -/
def BadV (H : Hp) (v : V) : Prop := (∃ n, Kd H v n ∧ n ≠ "list") ∨ ∃ (a : Addr) (xs : List V) (g : Nat → Bool), v = .ref a ∧ H a = some (.lst xs) ∧ (∀ i x, xs[i]? = some x → Arw H x 8 (g i)) ∧ (allF xs.length g = false ∨ ¬ (xs.length % 4 = 0 ∧ 96 ≤ xs.length / 4 ∧ xs.length / 4 ≤ 256))
def spDf (C CB Pw Pd : Addr) : Sp := fun vs H Q E => ∃ v, vs = [v] ∧ Tab H Pd ∧ Tab H Pw ∧
  ((∃ (G : Hp) (a : Addr) (ks : List Addr) (f : Nat → List Int) (b : Nat), v = .ref a ∧ Ex G H ∧ Tab G Pw ∧ H a = some (.lst (ks.map V.ref)) ∧ ks.length = 4 * b ∧ 96 ≤ b ∧ b ≤ 256 ∧ (∀ i k, ks[i]? = some k → H k = some (.lst ((f i).map V.int))) ∧ (∀ i, (f i).length = 8) ∧ (∀ i, ∀ z ∈ f i, 0 ≤ z) ∧
    ∀ G1 H1 p ka sa wa d, St G H G1 H1 → Ex H H1 → H p = none → d.ws = [] → d.pw = true → d.bf = none → (∀ s, s < 4 * b → d.kept s = f s) → DK C G1 H1 p ka sa wa b d → Q (.ref p) H1) ∨
   (BadV H v ∧ ∀ H1, Ex H H1 → E (.ref CB) none H1))
section
variable {P : Program} {w : World} {K : PySem.W.Frag} {mg : Str → Option Value} {base : Heap} {C CN CO CB Pw Pd : Addr}
theorem ok_are2 {f c Pt fI : Addr} {fd fdI : FuncData} (F : FunC K "are_words" "are_words" sAre f fd c) (TB : LamX.TabB base mg c Pt) (T : Txt mg K C) (FI : Fun K "is_word" "is_word" sIw fI fdI) (bI : Binds K fdI ["value"] []) (gI : mg "is_word" = some (.ref fI)) : FnOk P w K mg base CX0 1 f fd ["values", "many"] (spAre2 Pt) := by
  refine F.ok scAre (fun vs H Q E h => ?_) (fun A outer s H vs Q E hr h => ?_)
  · obtain ⟨_, x, m, b, rfl, _⟩ := h
    rfl
  · refine ⟨_, (pss_cons (ps_if (PW.pt (pw_or (pt_not (pt_val (pe_callB call_isi (by rfl) T.isinstance (by decide +kernel) (pa_cons (pv 0) (pa_cons (pe_bltn (v := .ty "list") (u := .type "list") (by rfl) T.list (by decide +kernel) rfl) pa_nil))))) (pw_or1 (pt_cmpR op_ne (pe_callB call_len_seq (by rfl) T.len (by decide +kernel) (pa_cons (pv 0) pa_nil)) (pv 1) (nomark _))))) (pss_one (ps_ret pe_bl)) pss_nil)
      (pss_one (ps_ret (pe_all hr (by rfl) T.all (by decide +kernel) TB rfl ⟨rfl, rfl, by decide +kernel, rfl, rfl, fun y hy e => absurd e ((by decide +kernel : ∀ y ∈ _, y.2 ≠ NameKind.free) y hy)⟩ (pv 0) (fun _ => rfl))))), ?_⟩
    obtain ⟨hT, x, m, b, rfl, hA, q⟩ := h
    rcases hA with ⟨a, xs, rfl, hS, hk, rfl⟩ | ⟨n, k, hn, rfl⟩
    · refine q_when (b := !decide ((xs.length : Int) = m)) (et_is (et_or (et_not (et_B (ev_isk (ev_var rfl) ev_c (.lst hS) (kd_list (.lst hS))))) (fun _ => et_test (ev_op (ev_len (ev_var rfl) (sq_of hS)) (ev_var rfl) (rv_ne rfl)))) (by simp)) (fun hb H1 e1 => ?_) (fun hb H1 e1 => ?_)
      · have h0 : decide ((xs.length : Int) = m) = false := by simpa using hb
        rw [h0] at q
        exact s_ret ev_c fun H2 e2 => q H2 (e1.trans e2)
      · have h0 : decide ((xs.length : Int) = m) = true := by simpa using hb
        rw [h0] at q
        refine s_ret (ev_is (ev_gen (f := fun i => wd (xs.getD i .non)) (xs := fun i => xs.getD i .non) (n := xs.length) (ev_var rfl) (hT.mono e1) (fun H2 e2 => .inl ⟨a, xs, rfl, sq_of ((e1.trans e2) _ _ hS), rfl, fun i => rfl⟩) (fun H2 e2 i u hi hu => ?_)) ?_) fun H2 e2 => q H2 (e1.trans e2)
        · have hx : xs.getD i .non ∈ xs := by
            rw [List.getD_eq_getElem?_getD, List.getElem?_eq_getElem hi]
            exact List.getElem_mem hi
          obtain ⟨n, kn⟩ := hk _ hx
          exact qv_iw hr T FI bI gI (hT.mono (e1.trans e2)) (kn.mono (e1.trans e2)) rfl rfl (qv_x rfl rfl hu)
        · rw [allF_list xs .non wd]
          rfl
    · refine q_when (b := true) (et_is (et_or (b := false) (et_not (et_B (ev_isk (ev_var rfl) ev_c k (kd_list k)))) (fun h => ?_)) ?_) (fun _ H1 e1 => s_ret ev_c fun H2 e2 => q H2 (e1.trans e2)) (fun h => by cases h)
      · simp [hn] at h
      · simp [hn]
theorem ok_size2 {f fW : Addr} {fd fdW : FuncData} (F : Fun K "is_size" "is_size" sSize f fd) (FW : Fun K "is_word" "is_word" sIw fW fdW) (bW : Binds K fdW ["value"] []) (gW : mg "is_word" = some (.ref fW)) (T : Txt mg K C) : FnOk P w K mg base CX0 2 f fd ["blocks"] spSize2 := by
  have GW : FnOk P w K mg base CX0 1 fW fdW ["value"] spIw := ok_iw FW T
  obtain ⟨_, gMIN_BLOCKS⟩ := T.gMIN_BLOCKS
  obtain ⟨_, gMAX_BLOCKS⟩ := T.gMAX_BLOCKS
  refine F.ok scSize (fun vs H Q E h => ?_) (fun cdv A outer s H vs Q E hr h => ?_)
  · obtain ⟨v, n, rfl, _⟩ := h
    rfl
  · obtain ⟨v, n, rfl, k, q⟩ := h
    refine ⟨_, (pss_one (ps_ret (pe_and (pe_call GW (hr.mono (by decide)) (by rfl) gW FW.kp bW .nil pass0 (pa_cons (pv 0) pa_nil)) (pe_one (pe_chain op_le op_le (pe_glob (v := .int 96) rfl gMIN_BLOCKS ⟨_, rfl⟩) (pv 0) (pe_glob (v := .int 256) rfl gMAX_BLOCKS ⟨_, rfl⟩)))))), ?_⟩
    cases v with
    | int z => exact s_ret (ev_andV (ev_call (vs := [.int z]) (ea_cons (ev_var rfl) ea_nil) (sv_iw (.int z))) (fun _ => ev_chain ev_c (ev_var rfl) ev_c)) q
    | _ => exact s_ret (ev_andV (b := false) (ev_call (ea_cons (ev_var rfl) ea_nil) (sv_iw k)) (fun h => by cases h)) q
theorem ok_initX {f fS : Addr} {fd fdS : FuncData} (F : Fun K "__init__" "Disk.__init__" sInit f fd) (FSz : Fun K "is_size" "is_size" sSize fS fdS) (GSz : FnOk P w K mg base CX0 2 fS fdS ["blocks"] spSize2) (bSz : Binds K fdS ["blocks"] []) (gSz : mg "is_size" = some (.ref fS)) (T : Txt mg K C) (XN : Xc K mg "NotValid" CN) : FnOk P w K mg base (L2.CX P w) 3 f fd ["self", "blocks"] (spInitX C CN) := by
  obtain ⟨_, gSECTOR_WORDS⟩ := T.gSECTOR_WORDS
  obtain ⟨_, gBLOCK_SECTORS⟩ := T.gBLOCK_SECTORS
  refine F.okX scInit (fun vs H Q E h => ?_) (fun cdv A outer s H vs Q E hr h => ?_)
  · obtain ⟨p, dx, v, n, rfl, _⟩ := h
    rfl
  · obtain ⟨p, dx, v, n, rfl, ho, k, hz, q⟩ := h
    refine ⟨_, (pss_cons (ps_if (pt_not (pt_val (pe_call GSz (hr.mono (by decide)) (by rfl) gSz FSz.kp bSz .nil pass0 (pa_cons (pv 1) pa_nil)))) (pss_one (ps_raise0 rfl XN (takes_of rfl rfl rfl rfl) (by rfl))) pss_nil)
      (pss_cons (ps_fld (pv 0) (pv 1) rfl)
      (pss_cons (ps_fld (pv 0) (pe_lc (own := [("_", 2)]) (g := gName 2) (tt := tYes) rfl scInit.nd (pi_range1 (by rfl) T.range (pa_cons (pe_op op_mul (pe_glob (v := .int 4) rfl gBLOCK_SECTORS ⟨_, rfl⟩) (pv 1)) pa_nil)) (blkOk_by (own := [("_", 2)]) (N := ["self", "blocks", "_"]) (sc := defScope sInit) (by decide +kernel)) (fun _ _ _ _ _ => pg_name (i := 2) scInit.nd rfl (Or.inl rfl)) (fun _ _ _ _ _ => pts_nil) (fun _ _ _ _ _ => (pe_op op_rep (pe_lst (pa_cons pe_int pa_nil)) (pe_glob (v := .int 8) rfl gSECTOR_WORDS ⟨_, rfl⟩)))) rfl)
      (pss_cons (ps_fld (pv 0) (pe_callTy call_list_of (by rfl) T.list (by decide +kernel) (pa_cons (pe_fld (pv 0) rfl) pa_nil)) rfl)
      (pss_cons (ps_fld (pv 0) (pe_lst pa_nil) rfl)
      (pss_cons (ps_fld (pv 0) pe_bl rfl)
      (pss_one (ps_fld (pv 0) pe_non rfl)))))))), ?_⟩
    exact q_when (b := true) (et_is (et_not (et_B (ev_call (vs := [v]) (ea_cons (ev_var rfl) ea_nil) (fun H1 e1 Q' q' E' => ⟨v, n, rfl, k.mono e1, q'⟩)))) (by rw [hz]; rfl)) (fun _ H1 e1 => q H1 e1) (fun h => by cases h)
theorem ok_df {f c fA fS f1 f2 f3 : Addr} {fd fdA fdS fd1 fd2 fd3 : FuncData} (F : FunC K "disk_from" "disk_from" sDf f fd c) (TB : LamX.TabB base mg c Pd) (FAw : Fun K "are_words" "are_words" sAre fA fdA) (GAw : FnOk P w K mg base CX0 1 fA fdA ["values", "many"] (spAre2 Pw)) (bAw : Binds K fdA ["values", "many"] []) (gAw : mg "are_words" = some (.ref fA))
    (FSz : Fun K "is_size" "is_size" sSize fS fdS) (GSz : FnOk P w K mg base CX0 2 fS fdS ["blocks"] spSize2) (bSz : Binds K fdS ["blocks"] []) (gSz : mg "is_size" = some (.ref fS))
    (MS : Mk K C f1) (Ginit : FnOk P w K mg base (L2.CX P w) 3 f1 fd1 ["self", "blocks"] (spInit C)) (binit : Binds K fd1 ["self", "blocks"] [])
    (Gwrite : FnOk P w K mg base (L2.CX P w) 3 f2 fd2 ["self", "sector", "words"] (spWrite C CN CO Pw)) (bwrite : Binds K fd2 ["self", "sector", "words"] []) (mwrite : Meth K C "write" f2)
    (Gflush : FnOk P w K mg base (L2.CX P w) 2 f3 fd3 ["self"] (spFlush C CO)) (bflush : Binds K fd3 ["self"] []) (mflush : Meth K C "flush" f3) (T : Txt mg K C) (XB : Xc K mg "BadImage" CB) : FnOk P w K mg base (L2.CX P w) 6 f fd ["image"] (spDf C CB Pw Pd) := by
  obtain ⟨_, gSECTOR_WORDS⟩ := T.gSECTOR_WORDS
  obtain ⟨_, gBLOCK_SECTORS⟩ := T.gBLOCK_SECTORS
  refine F.okX scDf (fun vs H Q E h => ?_) (fun A outer s H vs Q E hr h => ?_)
  · obtain ⟨v, rfl, _⟩ := h
    rfl
  · obtain ⟨v, rfl, hTd, hTw, h⟩ := h
    refine ⟨_, (pss_cons (ps_if (PW.pt (pw_or (pt_not (pt_val (pe_callB call_isi (by rfl) T.isinstance (by decide +kernel) (pa_cons (pv 0) (pa_cons (pe_bltn (v := .ty "list") (u := .type "list") (by rfl) T.list (by decide +kernel) rfl) pa_nil))))) (pw_or1 (pt_not (pt_val (LH.pe_gen (own := [("words", 5)]) (g := (gName 5)) (b := "all") (by first | rfl | decide +kernel) (fun _ _ _ _ _ _ _ _ ok R => LH.call_all_rdy ok R) hr scDf.nd (by rfl) T.all TB rfl ⟨rfl, by decide +kernel, rfl⟩ (blkOk_by (own := [("words", 5)]) (N := ["image", "blocks", "left", "disk", "sector", "words"]) (sc := defScope sDf) (by decide +kernel)) (pi_list (pv 0)) (fun _ => rfl) (fun _ _ _ _ _ _ _ => pg_name (i := 5) scDf.nd rfl (Or.inl rfl)) (fun _ _ _ _ _ _ hr => (pe_call GAw (hr.mono (by decide)) (by rfl) gAw FAw.kp bAw .nil pass0 (pa_cons (pv 5) (pa_cons (pe_glob (v := .int 8) rfl gSECTOR_WORDS ⟨_, rfl⟩) pa_nil)))))))))) (pss_one (ps_raise0 rfl XB (takes_of rfl rfl rfl rfl) (by rfl))) pss_nil)
      (pss_cons (ps_asg (pe_callB call_divmod (by rfl) T.divmod (by decide +kernel) (pa_cons (pe_callB call_len_seq (by rfl) T.len (by decide +kernel) (pa_cons (pv 0) pa_nil)) (pa_cons (pe_glob (v := .int 4) rfl gBLOCK_SECTORS ⟨_, rfl⟩) pa_nil))) (pg_tup (by rfl) (pgs_cons (pg_name (i := 1) scDf.nd rfl (Or.inl rfl)) (pgs_cons (pg_name (i := 2) scDf.nd rfl (Or.inl rfl)) pgs_nil))))
      (pss_cons (ps_if (PW.pt (pw_or (pt_cmpR op_ne (pv 2) pe_int (nomark _)) (pw_or1 (pt_not (pt_val (pe_call GSz (hr.mono (by decide)) (by rfl) gSz FSz.kp bSz .nil pass0 (pa_cons (pv 1) pa_nil))))))) (pss_one (ps_raise0 rfl XB (takes_of rfl rfl rfl rfl) (by rfl))) pss_nil)
      (pss_cons (ps_set (i := 3) scDf.nd rfl (Or.inl rfl) (pe_make MS Ginit (hr.mono (by decide)) (by rfl) T.mgC binit .nil passL (pa_cons (pv 1) pa_nil)))
      (pss_cons (ps_for (passes_of rfl) rfl (pi_enum (by rfl) T.enumerate (pa_cons (pv 0) pa_nil)) (pg_tup (by rfl) (pgs_cons (pg_name (i := 4) scDf.nd rfl (Or.inl rfl)) (pgs_cons (pg_name (i := 5) scDf.nd rfl (Or.inl rfl)) pgs_nil))) (pss_one (ps_expr (pe_meth (pv 3) T.cl mwrite Gwrite (hr.mono (by decide)) bwrite .nil (pass_own (takes_of rfl rfl rfl rfl)) (pa_cons (pv 4) (pa_cons (pv 5) pa_nil))))))
      (pss_cons (ps_expr (pe_meth0 (pv 3) T.cl mflush Gflush (hr.mono (by decide)) bflush .nil (pass_own (takes_of rfl rfl rfl rfl))))
      (pss_one (ps_ret (pv 3))))))))), ?_⟩
    rcases h with ⟨G, a, ks, f, b, rfl, gG, gw, ha, hkl, b0, b1, hk, f8, fn, q⟩ | ⟨hB, q⟩
    · have hArw : ∀ i x, (ks.map V.ref)[i]? = some x → Arw H x 8 true := fun i x hx => by
        rw [List.getElem?_map] at hx
        obtain ⟨k, hk', rfl⟩ := Option.map_eq_some_iff.mp hx
        exact .inl ⟨k, _, rfl, hk i k hk', kd_ints _, by rw [List.length_map, f8, ints_wd (fn i)]; rfl⟩
      refine q_when (b := false) (et_is (et_or (et_not (et_B (ev_isk (ev_var rfl) ev_c (.lst ha) (kd_list (.lst ha))))) (fun _ => et_not (et_B (ev_gxL (xs := ks.map V.ref) (ev_var rfl) (sq_of ha) hTd (ok_all (fun _ => true)) (fun _ => rfl) fun i x H1 e1 hx => ?_)))) ?_) (fun h => by cases h) (fun _ H1 e1 => ?_)
      · exact ev_call (vs := [x, .int 8]) (ea_cons (ev_var rfl) (ea_cons ev_c ea_nil)) (fun H2 e2 Q' q' E' => ⟨hTw.mono (e1.trans e2), x, 8, true, rfl, (hArw i x hx).mono (e1.trans e2), q'⟩)
      · rw [allF_true]
        rfl
      refine q_unpU (x := .int (b : Int)) (y := .int 0) (eu_is (eu_divmod (ev_len (ev_var rfl) (sq_of (e1 _ _ ha))) ev_c ⟨by decide, by decide⟩) (by rw [List.length_map, hkl, show (((4 * b : Nat) : Int)) / 4 = (b : Int) by omega, show (((4 * b : Nat) : Int)) % 4 = 0 by omega])) fun H2 e2 => ?_
      refine q_when (b := false) (et_is (et_or (et_test (ev_op (ev_var rfl) ev_c (rv_ne rfl))) (fun _ => et_not (et_B (ev_call (vs := [.int (b : Int)]) (ea_cons (ev_var rfl) ea_nil) (fun H3 e3 Q' q' E' => ⟨_, _, rfl, .int _, q'⟩))))) (by
        show (!decide (V.int 0 = V.int 0) || !(decide (0 ≤ (b : Int)) && (decide (96 ≤ (b : Int)) && decide ((b : Int) ≤ 256)))) = false
        rw [decide_eq_true rfl, decide_eq_true (by omega), decide_eq_true (by omega), decide_eq_true (by omega)]
        rfl)) (fun h => by cases h) (fun _ H3 e3 => ?_)
      have e13 := (e1.trans e2).trans e3
      refine q_make (ea_cons (ev_var rfl) ea_nil) fun p dx H4 H5 hp3 hp4 e4 hp5 e5 => ?_
      have e05 := (e13.trans e4).trans e5
      have hp0 : H p = none := fresh_back e13 hp3
      refine ⟨G, p, dx, b, rfl, gG.trans e05, fresh_back gG hp0, hp5, b0, b1, fun G6 ka sa wa H6 S6 fr6 nka nsa nwa D6 => ⟨rfl, ?_⟩⟩
      have x6 : Ex H H6 := fun x o hx => fr6 x o (e05 _ _ hx) fun z => by
        rw [z, hp0] at hx
        cases hx
      have nka := fresh_back e05 nka
      have nsa := fresh_back e05 nsa
      have nwa := fresh_back e05 nwa
      have S06 : St G H G6 H6 := (St.ex e05).trans S6
      refine q_forE (xs := ks.map V.ref) (ea_cons (ev_var rfl) ea_nil) (sq_of (x6 _ _ ha)) (fun i σ' H' => ∃ G' d y4 y5, σ' = [some (.ref a), some (.int (b : Int)), some (.int 0), some (.ref p), y4, y5] ∧ DK C G' H' p ka sa wa b d ∧ St G H G' H' ∧ Ex H H' ∧ d.pw = true ∧ d.bf = none ∧ d.kept = (fun _ => Z8) ∧ d.ws = (List.range i).map fun j => (j, f j)) (fun H7 e7 => ⟨G6, _, none, none, rfl, D6.ex e7, S06.trans (St.ex e7), x6.trans e7, rfl, rfl, rfl, rfl⟩) (fun i σ' H' pp => by
        obtain ⟨_, _, _, _, _, _, _, e, _⟩ := pp
        exact sq_of (e _ _ ha)) (fun i x T9 σ' H' hx pp hT9 => ?_) (fun σ' H' pp => ?_)
      · obtain ⟨G', d, y4, y5, rfl, DD, SS, eH, pw, bf, kp, ws⟩ := pp
        rw [List.getElem?_map] at hx
        obtain ⟨k, hk', rfl⟩ := Option.map_eq_some_iff.mp hx
        have hi := (List.getElem?_eq_some_iff.mp hk').1
        have eT := Ex.new (o := .tup [.int (i : Int), .ref k]) hT9
        have DT := DD.ex eT
        obtain ⟨dx1, ho⟩ := DT.o
        have hkH := hk i k hk'
        refine s_m (ev_var rfl) ho (d_no ⟨by decide +kernel, by decide +kernel, by decide +kernel, by decide +kernel, by decide +kernel, by decide +kernel⟩) (ea_cons (ev_var rfl) (ea_cons (ev_var rfl) ea_nil)) fun B1 c1 => ⟨G', p, ka, sa, wa, b, d, (i : Int), k, (f i).map V.int, rfl, DT.ex c1, ((eH.trans eT).trans c1) _ _ hkH, kd_ints _, gw.mono SS.g, by rw [ws, List.length_map, List.length_range]; omega, (fun e => by rw [e, hp0] at hkH; cases hkH), fun hno => absurd ⟨⟨by omega, by omega⟩, by rw [List.length_map, f8], ints_wd (fn i)⟩ hno, fun _ s ns hs hs4 hns h8 hnn G2 B2 S2 fr2 D2 => ?_, fun hno _ => absurd ⟨pw, by rw [bf]; exact fun z => by cases z⟩ hno⟩
        obtain rfl : i = s := by omega
        obtain rfl := ints_inj hns
        refine ⟨G2, _, _, _, rfl, D2, (SS.trans (St.ex (eT.trans c1))).trans S2, fun x o hx => fr2 x o (((eH.trans eT).trans c1) _ _ hx) (fun z => ?_) (fun z => ?_) (fun z => ?_), pw, by show d.bf.map _ = none; rw [bf]; rfl, kp, ?_⟩
        · rw [z, hp0] at hx
          cases hx
        · rw [z, nsa] at hx
          cases hx
        · rw [z, nwa] at hx
          cases hx
        · show d.ws ++ [(i, f i)] = _
          rw [ws, List.range_succ, List.map_append]
          rfl
      · obtain ⟨G', d, y4, y5, rfl, DD, SS, eH, pw, bf, kp, ws⟩ := pp
        obtain ⟨dx1, ho⟩ := DD.o
        refine q_m (ev_var rfl) ho (d_no ⟨by decide +kernel, by decide +kernel, by decide +kernel, by decide +kernel, by decide +kernel, by decide +kernel⟩) ea_nil fun B1 c1 => ⟨G', p, ka, sa, wa, b, d, rfl, DD.ex c1, fun hon G2 B2 sa2 wa2 S2 fr2 D2 => ?_, fun hno => absurd ⟨pw, by rw [bf]; exact fun z => by cases z⟩ hno⟩
        have x2 : Ex H B2 := fun x o hx => fr2 x o ((eH.trans c1) _ _ hx) (fun z => by rw [z, hp0] at hx; cases hx) (fun z => by rw [z, nka] at hx; cases hx)
        refine s_ret (ev_var rfl) fun B3 c3 => q G2 B3 p ka sa2 wa2 ⟨aftN d.kept d.ws (fun _ => 8) d.ws.length, [], d.pw, d.bf.map (· - 1)⟩ (((SS.trans (St.ex c1)).trans S2).trans (St.ex c3)) (x2.trans c3) hp0 rfl pw (by show d.bf.map _ = none; rw [bf]; rfl) (fun s hs => ?_) (D2.ex c3)
        show aftN d.kept d.ws (fun _ => 8) d.ws.length s = f s
        rw [aft_due DD.kz (fun w hw => (DD.ok w hw).2) _ (Nat.le_refl _), List.take_length, kp, ws, List.length_map, hkl, due_range]
        rw [if_pos hs]
    · rcases hB with ⟨n, k, hn⟩ | ⟨a, xs, g, rfl, ha, hA, hg⟩
      · exact q_when (b := true) (et_is (et_or (b := false) (et_not (et_B (ev_isk (ev_var rfl) ev_c k (kd_list k)))) (fun h => by simp [hn] at h)) (by simp [hn])) (fun _ H1 e1 => q H1 e1) (fun h => by cases h)
      · have el : ∀ (i : Nat) (x : V) H1, Ex H H1 → xs[i]? = some x → Ev (tCall (spAre2 Pw) [] E0 (tCons (tVar 5) (tCons (tC (.int 8)) tNil))) ([some (.ref a), none, none, none, none, some x] : L2.St) H1 (.bl (g i)) := fun i x H1 e1 hx => ev_call (vs := [x, .int 8]) (ea_cons (ev_var rfl) (ea_cons ev_c ea_nil)) (fun H2 e2 Q' q' E' => ⟨hTw.mono (e1.trans e2), x, 8, g i, rfl, (hA i x hx).mono (e1.trans e2), q'⟩)
        by_cases hall : allF xs.length g = false
        · exact q_when (b := true) (et_is (et_or (et_not (et_B (ev_isk (ev_var rfl) ev_c (.lst ha) (kd_list (.lst ha))))) (fun _ => et_not (et_B (ev_gxL (xs := xs) (ev_var rfl) (sq_of ha) hTd (ok_all g) (fun _ => rfl) el)))) (by rw [hall]; rfl)) (fun _ H1 e1 => q H1 e1) (fun h => by cases h)
        · have hall' : allF xs.length g = true := by simpa using hall
          have hno := hg.resolve_left hall
          refine q_when (b := false) (et_is (et_or (et_not (et_B (ev_isk (ev_var rfl) ev_c (.lst ha) (kd_list (.lst ha))))) (fun _ => et_not (et_B (ev_gxL (xs := xs) (ev_var rfl) (sq_of ha) hTd (ok_all g) (fun _ => rfl) el)))) (by rw [hall']; rfl)) (fun h => by cases h) (fun _ H1 e1 => ?_)
          refine q_unpU (eu_divmod (ev_len (ev_var rfl) (sq_of (e1 _ _ ha))) ev_c ⟨by decide, by decide⟩) fun H2 e2 => ?_
          refine q_when (b := true) (et_is (et_or (et_test (ev_op (ev_var rfl) ev_c (rv_ne rfl))) (fun _ => et_not (et_B (ev_call (vs := [.int ((xs.length : Int) / 4)]) (ea_cons (ev_var rfl) ea_nil) (fun H3 e3 Q' q' E' => ⟨_, _, rfl, .int _, q'⟩))))) ?_) (fun _ H3 e3 => q H3 ((e1.trans e2).trans e3)) (fun h => by cases h)
          show (!decide (V.int ((xs.length : Int) % 4) = V.int 0) || !(decide (0 ≤ (xs.length : Int) / 4) && (decide (96 ≤ (xs.length : Int) / 4) && decide ((xs.length : Int) / 4 ≤ 256)))) = true
          by_cases h4 : xs.length % 4 = 0
          · have : ¬ (96 ≤ xs.length / 4 ∧ xs.length / 4 ≤ 256) := fun z => hno ⟨h4, z⟩
            rw [Bool.or_eq_true]
            right
            rw [Bool.not_eq_true', Bool.eq_false_iff]
            simp only [ne_eq, Bool.and_eq_true, decide_eq_true_eq]
            omega
          · rw [Bool.or_eq_true]
            left
            rw [decide_eq_false (fun z => h4 (by have := V.int.inj z; omega))]
            rfl
end

end K06

set_option Elab.async false
set_option linter.all false
set_option maxRecDepth 100000
set_option maxHeartbeats 4000000
namespace K06
open PySem PySem.Spec PyProof.Rows L2 Evl LK LT LG LS LQ LX LO LN LP LH LV
def Nn (r : List Int) : Prop := ∀ z ∈ r, 0 ≤ z
def wB (a b : Int) : List Int := (List.range 8).map fun i : Nat => (a * ((i : Nat) + 3) + b * (i : Nat) * (i : Nat)) % 1009
def wF (a b : Int) : List Int := if b % 11 = 5 then [0, 0, 0, 0, 0, 0, 0, a] else if b % 7 = 3 then (wB a b).set (b % 8).toNat (a ^ 9) else wB a b
theorem wB_len (a b : Int) : (wB a b).length = 8 := by unfold wB; simp
theorem wB_nn (a b : Int) : Nn (wB a b) := fun z hz => by
  obtain ⟨i, _, rfl⟩ := List.mem_map.mp hz
  exact Int.emod_nonneg _ (by decide)
theorem wF_len (a b : Int) : (wF a b).length = 8 := by
  unfold wF
  split
  · rfl
  · split
    · rw [List.length_set, wB_len]
    · exact wB_len a b
theorem wF_nn {a b : Int} (ha : 0 ≤ a) : Nn (wF a b) := by
  unfold wF
  split
  · intro z hz
    simp only [List.mem_cons, List.not_mem_nil, or_false] at hz
    rcases hz with rfl | rfl | rfl | rfl | rfl | rfl | rfl | rfl <;> omega
  · split
    · intro z hz
      rcases List.mem_or_eq_of_mem_set hz with h | rfl
      · exact wB_nn a b z h
      · exact Int.pow_nonneg ha
    · exact wB_nn a b
def spZ : Sp := fun vs H Q _ => vs = [] ∧ RetL (Z8.map V.int) H Q
def spWoD : Sp := fun vs H Q _ => ∃ a b : Int, vs = [.int a, .int b] ∧ 0 ≤ a ∧ a < 1000 ∧ 0 ≤ b ∧ b < 1000 ∧ RetL ((wF a b).map V.int) H Q
def spEq : Sp := fun vs H Q _ => ∃ a b, ∃ ns : List Int, vs = [.ref a, .ref b] ∧ H a = some (.lst (ns.map V.int)) ∧ H b = some (.lst (ns.map V.int)) ∧ ns.length = 8 ∧ RetV (.bl true) H Q
/-- a list of sectors -/
def Img (H : Hp) (a : Addr) (ks : List Addr) (f : Nat → List Int) (b : Nat) : Prop := H a = some (.lst (ks.map V.ref)) ∧ ks.length = 4 * b ∧ 96 ≤ b ∧ b ≤ 256 ∧ (∀ (i : Nat) (k : Addr), ks[i]? = some k → H k = some (.lst ((f i).map V.int))) ∧ (∀ i, (f i).length = 8) ∧ ∀ i, Nn (f i)
theorem Img.ex {H H' : Hp} {a : Addr} {ks : List Addr} {f : Nat → List Int} {b : Nat} (h : Img H a ks f b) (e : Ex H H') : Img H' a ks f b := ⟨e _ _ h.1, h.2.1, h.2.2.1, h.2.2.2.1, fun i k hk => e _ _ (h.2.2.2.2.1 i k hk), h.2.2.2.2.2.1, h.2.2.2.2.2.2⟩
theorem Img.arw {H : Hp} {a : Addr} {ks : List Addr} {f : Nat → List Int} {b : Nat} (h : Img H a ks f b) {i : Nat} {x : V} (hx : (ks.map V.ref)[i]? = some x) : Arw H x 8 true := by
  rw [List.getElem?_map] at hx
  obtain ⟨k, hk', rfl⟩ := Option.map_eq_some_iff.mp hx
  exact .inl ⟨k, _, rfl, h.2.2.2.2.1 i k hk', kd_ints _, by rw [List.length_map, h.2.2.2.2.2.1, ints_wd (h.2.2.2.2.2.2 i)]; rfl⟩
def spSp : Sp := fun vs H Q _ => ∃ a ks f b, ∃ kd s : Nat, vs = [.ref a, .int (kd : Int), .int (s : Int)] ∧ kd < 10 ∧ s < 4 * b ∧ Img H a ks f b ∧ ∀ v H1, Ex H H1 → BadV H1 v → Q v H1
def spTo (C Pw Pd : Addr) : Sp := fun vs H Q _ => ∃ v, vs = [v] ∧ Tab H Pd ∧ Tab H Pw ∧
  ((∃ (G : Hp) (a : Addr) (ks : List Addr) (f : Nat → List Int) (b : Nat), v = .ref a ∧ Ex G H ∧ Tab G Pw ∧ Img H a ks f b ∧
    ∀ G1 H1 p ka sa wa d, St G H G1 H1 → Ex H H1 → H p = none → d.ws = [] → d.pw = true → d.bf = none → (∀ s, s < 4 * b → d.kept s = f s) → DK C G1 H1 p ka sa wa b d → Q (.ref p) H1) ∨
   (BadV H v ∧ ∀ l H1, Ex H H1 → H1 l = some (.lst [.bl true]) → Q (.ref l) H1))
def spTs : Sp := fun vs H Q _ => ∃ v n, vs = [v] ∧ Kd H v n ∧ (∀ z : Int, v = .int z → szV v = true → ∀ H1, Ex H H1 → Q (.int z) H1) ∧ (szV v = false → ∀ l H1, Ex H H1 → H1 l = some (.lst [.bl true]) → Q (.ref l) H1)
theorem allF_one {n s : Nat} (h : s < n) : allF n (fun i => !decide (i = s)) = false := by
  unfold allF
  rw [List.all_eq_false]
  exact ⟨s, by simpa using h, by simp⟩
theorem badSeg {H : Hp} {l : Addr} {xs : List V} (h : H l = some (.lst xs)) (hA : ∀ (i : Nat) (x : V), xs[i]? = some x → Arw H x 8 true) (hn : ¬ (xs.length % 4 = 0 ∧ 96 ≤ xs.length / 4 ∧ xs.length / 4 ≤ 256)) : BadV H (.ref l) := .inr ⟨l, xs, fun _ => true, rfl, h, hA, .inr hn⟩
section
variable {K : PySem.W.Frag} {σ : L2.St} {H : Hp} {ta te : TE} {D : Ends} {a : Addr} {xs zs : List V} {Q : VK}
/-- a list and one new list behind it; a list and a comprehension of new ones -/
theorem r_cat1 (h : Ev ta σ H (.ref a)) (ha : H a = some (.lst xs)) (hz : EvL te σ H zs) (hl : xs.length + 1 ≤ 100000) (k : ∀ l L H1, Ex H H1 → H1 l = some (.lst zs) → H1 L = some (.lst (xs ++ [.ref l])) → D.rt (.ref L) H1) : tRet (tOp rCat ta (tLst (tCons te tNil))) D σ H :=
  h H (Ex.refl _) _ fun H1 e1 => hz H1 e1 _ fun l H2 hl2 e2 h2 => ⟨by show 1 ≤ sizeLine; decide, fun M hM => by
    have eM := Ex.new (o := .lst [.ref l]) hM
    have e1M := (e1.trans e2).trans eM
    exact ⟨a, M, xs, [.ref l], rfl, rfl, e1M _ _ ha, upd_same, sz_of hl, fun L hL => k l L _ (e1M.trans (Ex.new hL)) ((Ex.new hL) _ _ (eM _ _ h2)) upd_same⟩⟩
theorem r_catR {n : Nat} {R : Rel} (h : Ev ta σ H (.ref a)) (ha : H a = some (.lst xs)) (hz : EvR te σ H n R) (hl : xs.length + n ≤ 100000) (k : ∀ ys L H1, Ex H H1 → ys.length = n → (∀ i y, ys[i]? = some y → R i (ys.take i) y H1) → H1 L = some (.lst (xs ++ ys)) → D.rt (.ref L) H1) (mon : Mon R) : tRet (tOp rCat ta te) D σ H :=
  h H (Ex.refl _) _ fun H1 e1 => hz H1 e1 _ fun M ys H2 hM e2 h2 hn hr => ⟨a, M, xs, ys, rfl, rfl, (e1.trans e2) _ _ ha, h2, sz_of (by omega), fun L hL => k ys L _ ((e1.trans e2).trans (Ex.new hL)) hn (fun i y hy => mon _ _ _ _ _ (Ex.new hL) (hr i y hy)) upd_same⟩
theorem eu_tupA (h : Ev ta σ H (.ref a)) (ha : H a = some (.lst xs)) : EvU (tCB (fun zs H Q => ∃ p ys, zs = [.ref p] ∧ ((SqL K H p ys ∧ ∀ l, H l = none → Q (.ref l) (upd H l (.tup ys))) ∨ (SqT K H p ys ∧ Q (.ref p) H))) (tCons ta tNil)) σ H xs := fun H1 e Q q =>
  h H1 e _ fun H2 e2 => ⟨a, xs, rfl, .inl ⟨sq_of (e2 _ _ (e _ _ ha)), fun l hl => q l _ (fresh_back e2 hl) (e2.trans (Ex.new hl)) upd_same⟩⟩
end
section
variable {P : Program} {w : World} {K : PySem.W.Frag} {mg : Str → Option Value} {base : Heap} {C CN CO CB CL Pw Pd : Addr}
theorem ok_zer {f : Addr} {fd : FuncData} (F : Fun K "_law_zeros" "_law_zeros" sZer f fd) (T : Txt mg K C) : FnOk P w K mg base CX0 1 f fd [] spZ := by
  refine F.ok scZer (fun vs H Q E h => ?_) (fun cdv A outer s H vs Q E hr h => ?_)
  · obtain ⟨rfl, _⟩ := h
    rfl
  · obtain ⟨rfl, q⟩ := h
    refine ⟨_, (pss_one (ps_ret (pe_lst (pa_cons pe_int (pa_cons pe_int (pa_cons pe_int (pa_cons pe_int (pa_cons pe_int (pa_cons pe_int (pa_cons pe_int (pa_cons pe_int pa_nil))))))))))), ?_⟩
    exact s_retL (el_lst (vs := Z8.map V.int) (ea_cons ev_c (ea_cons ev_c (ea_cons ev_c (ea_cons ev_c (ea_cons ev_c (ea_cons ev_c (ea_cons ev_c (ea_cons ev_c ea_nil)))))))) (Nat.le_of_ble_eq_true rfl)) fun p H1 hp e1 h1 => q p H1 hp e1 h1
theorem el_zer {σ : L2.St} {H : Hp} {E : XK} : EvL (tCall spZ [] E tNil) σ H (Z8.map V.int) := el_call (vs := []) ea_nil fun H1 e Q q E => ⟨rfl, q⟩
theorem ok_words {f : Addr} {fd : FuncData} (F : Fun K "_law_words" "_law_words" sWords f fd) (T : Txt mg K C) : FnOk P w K mg base CX0 1 f fd ["number", "extra"] spWoD := by
  refine F.ok scWords (fun vs H Q E h => ?_) (fun cdv A outer s H vs Q E hr h => ?_)
  · obtain ⟨a, b, rfl, _⟩ := h
    rfl
  · obtain ⟨a, b, rfl, a0, a1, b0, b1, q⟩ := h
    refine ⟨_, (pss_cons (ps_setLc (i := 2) (own := [("j", 3)]) (g := gName 3) (tt := tYes) rfl scWords.nd rfl rfl (sw_true rfl rfl rfl (by decide +kernel)) (pi_range1 (by rfl) T.range (pa_cons pe_int pa_nil)) (blkOk_by (own := [("j", 3)]) (N := ["number", "extra", "words", "j"]) (sc := defScope sWords) (by decide +kernel)) (fun _ _ _ _ _ => pg_name (i := 3) scWords.nd rfl (Or.inl rfl)) (fun _ _ _ _ _ => pts_nil) (fun _ _ _ _ _ => (pe_op op_mod (pe_callTy call_int1 (by rfl) T.int (by decide +kernel) (pa_cons (pe_op op_add (pe_op op_mul (pv 0) (pe_op op_add (pv 3) pe_int)) (pe_op op_mul (pe_op op_mul (pv 1) (pv 3)) (pv 3))) pa_nil)) pe_int)))
      (pss_cut (ps_if (pt_cmpR op_eq (pe_op op_mod (pv 1) pe_int) pe_int (nomark _)) (pss_one (ps_asg (pe_op op_pow (pv 0) pe_int) (pg_sub (pv 2) (pe_op op_mod (pv 1) pe_int) set_list))) pss_nil)
      (pss_cons (ps_if (pt_cmpR op_eq (pe_op op_mod (pv 1) pe_int) pe_int (nomark _)) (pss_one (ps_set (i := 2) scWords.nd rfl (Or.inl rfl) (pe_lst (pa_cons pe_int (pa_cons pe_int (pa_cons pe_int (pa_cons pe_int (pa_cons pe_int (pa_cons pe_int (pa_cons pe_int (pa_cons (pv 0) pa_nil))))))))))) pss_nil)
      (pss_one (ps_ret (pv 2)))))), ?_⟩
    refine q_asgL (el_is (ys := (wB a b).map V.int) (el_lcR1 (n := 8) (fun _ => true) (fun i => .int ((a * ((i : Nat) + 3) + b * (i : Nat) * (i : Nat)) % 1009)) (ea_cons ev_c ea_nil) ⟨by decide, by decide⟩ (fun _ => rfl) (fun i H1 e1 hi => fun H2 _ Q q => q _ (Ex.refl _)) (fun i H1 e1 hi _ => ?_)) rfl) fun L H1 hL e1 h1 => ?_
    · have hi8 : i < 8 := by omega
      have m1 : b * (i : Int) < 1000000 := by
        have := Int.mul_le_mul_of_nonneg_right (show b ≤ 1000 by omega) (show (0 : Int) ≤ (i : Int) by omega)
        omega
      have m0 : 0 ≤ b * (i : Int) := Int.mul_nonneg b0 (by omega)
      exact ev_op (ev_int1 (ev_op (ev_op (ev_var rfl) (ev_op (ev_var rfl) ev_c rv_I0) (rv_I (.inl ⟨by omega, by omega⟩))) (ev_op (ev_op (ev_var rfl) (ev_var rfl) (rv_I (.inl ⟨by omega, by omega⟩))) (ev_var rfl) (rv_I (.inl ⟨by omega, by omega⟩))) rv_I0)) ev_c (rv_I (by show (0 : Int) < 1009; decide))
    · have hc : ∀ {ns : List Int}, (if b % 7 = 3 then (wB a b).set (b % 8).toNat (a ^ 9) else wB a b) = ns → wF a b = if b % 11 = 5 then [0, 0, 0, 0, 0, 0, 0, a] else ns := fun h => by rw [← h]; rfl
      refine q_cut (M := fun σ2 H2 => ∃ ns : List Int, σ2 = [some (.int a), some (.int b), some (.ref L), none] ∧ Ex H H2 ∧ H2 L = some (.lst (ns.map V.int)) ∧ (if b % 7 = 3 then (wB a b).set (b % 8).toNat (a ^ 9) else wB a b) = ns) ?_ ?_
      · refine s_when (b := decide (b % 7 = 3)) (et_is (et_test (ev_op (ev_op (ev_var rfl) ev_c (rv_I (by show (0 : Int) < 7; decide))) ev_c (rv_eq rfl))) (by simp)) (fun hb H2 e2 => ?_) (fun hb H2 e2 => ⟨wB a b, rfl, e1.trans e2, e2 _ _ h1, if_neg (of_decide_eq_false hb)⟩)
        have m0 := Int.emod_nonneg b (show (8 : Int) ≠ 0 by decide)
        have m1 := Int.emod_lt_of_pos b (show (0 : Int) < 8 by decide)
        obtain ⟨j, hj⟩ := Int.eq_ofNat_of_zero_le m0
        have hj8 : j < (wB a b).length := by rw [wB_len]; omega
        refine s_setL (j := j) (v := .int (a ^ 9)) (e2 _ _ h1) (ev_op (ev_var rfl) ev_c (rv_I ⟨by decide, by decide, by omega⟩)) (ev_var rfl) (by rw [← hj]; exact ev_op (ev_var rfl) ev_c (rv_I (by show (0 : Int) < 8; decide))) (by rw [List.length_map]; exact hj8) fun H3 e3 => ?_
        exact ⟨(wB a b).set j (a ^ 9), rfl, ((e1.trans e2).trans e3).mut hL, by rw [upd_same, List.map_set], by rw [if_pos (of_decide_eq_true hb), hj]; rfl⟩
      · rintro σ2 H2 ⟨ns, rfl, e2, h2, hns⟩
        have hw := hc hns
        refine q_when (b := decide (b % 11 = 5)) (et_is (et_test (ev_op (ev_op (ev_var rfl) ev_c (rv_I (by show (0 : Int) < 11; decide))) ev_c (rv_eq rfl))) (by simp)) (fun hb H3 e3 => ?_) (fun hb H3 e3 => s_ret (ev_var rfl) fun H4 e4 => q L H4 hL ((e2.trans e3).trans e4) (by rw [hw, if_neg (of_decide_eq_false hb)]; exact e4 _ _ (e3 _ _ h2)))
        refine s_asgL (el_lst (vs := ([0, 0, 0, 0, 0, 0, 0, a] : List Int).map V.int) (ea_cons ev_c (ea_cons ev_c (ea_cons ev_c (ea_cons ev_c (ea_cons ev_c (ea_cons ev_c (ea_cons ev_c (ea_cons (ev_var rfl) ea_nil)))))))) (Nat.le_of_ble_eq_true rfl)) fun L2 H4 hL2 e4 h4 => ?_
        exact s_ret (ev_var rfl) fun H5 e5 => q L2 H5 (fresh_back (e2.trans e3) hL2) (((e2.trans e3).trans e4).trans e5) (by rw [hw, if_pos (of_decide_eq_true hb)]; exact e5 _ _ h4)
theorem el_words {σ : L2.St} {H : Hp} {E : XK} {t1 t2 : TE} {a b : Int} (h1 : Ev t1 σ H (.int a)) (h2 : Ev t2 σ H (.int b)) (a0 : 0 ≤ a ∧ a < 1000) (b0 : 0 ≤ b ∧ b < 1000) : EvL (tCall spWoD [] E (tCons t1 (tCons t2 tNil))) σ H ((wF a b).map V.int) := el_call (vs := [.int a, .int b]) (ea_cons h1 (ea_cons h2 ea_nil)) fun H1 e Q q E => ⟨a, b, rfl, a0.1, a0.2, b0.1, b0.2, q⟩
theorem ok_eq {f : Addr} {fd : FuncData} (F : Fun K "_law_equal" "_law_equal" sEq f fd) (T : Txt mg K C) : FnOk P w K mg base CX0 1 f fd ["told", "due"] spEq := by
  refine F.ok scEq (fun vs H Q E h => ?_) (fun cdv A outer s H vs Q E hr h => ?_)
  · obtain ⟨a, b, ns, rfl, _⟩ := h
    rfl
  · obtain ⟨a, b, ns, rfl, ha, hb, h8, q⟩ := h
    refine ⟨_, (pss_cons (ps_if (PW.pt (pw_or (pt_not (pt_val (pe_callB call_isi (by rfl) T.isinstance (by decide +kernel) (pa_cons (pv 0) (pa_cons (pe_bltn (v := .ty "list") (u := .type "list") (by rfl) T.list (by decide +kernel) rfl) pa_nil))))) (pw_or1 (pt_cmpR op_ne (pe_callB call_len_seq (by rfl) T.len (by decide +kernel) (pa_cons (pv 0) pa_nil)) pe_int (nomark _))))) (pss_one (ps_ret pe_bl)) pss_nil)
      (pss_cons (ps_for PassesOwn.never rfl (pi_range1 (by rfl) T.range (pa_cons pe_int pa_nil)) (pg_name (i := 2) scEq.nd rfl (Or.inl rfl)) (pss_one (ps_if (PW.pt (pw_or (pt_not (pt_val (pe_callB call_isi (by rfl) T.isinstance (by decide +kernel) (pa_cons (pe_ix ix_list (pv 0) (pv 2) (fun _ _ => rfl)) (pa_cons (pe_bltn (v := .ty "int") (u := .type "int") (by rfl) T.int (by decide +kernel) rfl) pa_nil))))) (pw_or (pt_val (pe_callB call_isi (by rfl) T.isinstance (by decide +kernel) (pa_cons (pe_ix ix_list (pv 0) (pv 2) (fun _ _ => rfl)) (pa_cons (pe_bltn (v := .ty "bool") (u := .type "bool") (by rfl) T.bool (by decide +kernel) rfl) pa_nil)))) (pw_or1 (pt_cmpR op_ne (pe_ix ix_list (pv 0) (pv 2) (fun _ _ => rfl)) (pe_ix ix_list (pv 1) (pv 2) (fun _ _ => rfl)) (nomark _)))))) (pss_one (ps_ret pe_bl)) pss_nil)))
      (pss_one (ps_ret pe_bl)))), ?_⟩
    refine q_when (b := false) (et_is (et_or (et_not (et_B (ev_isk (ev_var rfl) ev_c (.lst ha) (kd_list (.lst ha))))) (fun _ => et_test (ev_op (ev_len (ev_var rfl) (sq_of ha)) ev_c (rv_ne rfl)))) (by rw [List.length_map, h8]; rfl)) (fun h => by cases h) (fun _ H1 e1 => ?_)
    refine q_forR1 (n := 8) (ea_cons ev_c ea_nil) ⟨by decide, by decide⟩ (fun i σ' H' => ∃ y2 : Option V, σ' = [some (.ref a), some (.ref b), y2] ∧ Ex H H') (fun H2 e2 => ⟨none, rfl, e1.trans e2⟩) ?_ ?_
    · rintro i σ' H' hi ⟨y2, rfl, e0⟩
      have hi8 : i < ns.length := by omega
      have ia : Ev (tOp (rIxL K) (tVar 0) (tVar 2)) [some (.ref a), some (.ref b), some (.int (i : Int))] H' (.int (cellv ns i)) := ev_op (ev_var rfl) (ev_var rfl) (rv_ixL (sq_of (e0 _ _ ha)) (atI_nat (cellv_in hi8)))
      have ib : Ev (tOp (rIxL K) (tVar 1) (tVar 2)) [some (.ref a), some (.ref b), some (.int (i : Int))] H' (.int (cellv ns i)) := ev_op (ev_var rfl) (ev_var rfl) (rv_ixL (sq_of (e0 _ _ hb)) (atI_nat (cellv_in hi8)))
      exact s_when (b := false) (et_is (et_or (et_not (et_B (ev_isk ia ev_c (.int (cellv ns i)) (kd_int (H := H') (.int (cellv ns i)))))) (fun _ => et_or (et_B (ev_isk ia ev_c (.int (cellv ns i)) (kd_bool (H := H') (.int (cellv ns i))))) (fun _ => et_test (ev_op ia ib (rv_ne rfl))))) (by simp; decide)) (fun h => by cases h) (fun _ H2 e2 => ⟨_, rfl, e0.trans e2⟩)
    · rintro σ' H' ⟨y2, rfl, e0⟩
      exact s_ret ev_c fun H2 e2 => q H2 (e0.trans e2)
theorem ev_eqF {σ : L2.St} {H : Hp} {t1 t2 : TE} {ns : List Int} (h1 : EvF t1 σ H (ns.map V.int)) (h2 : EvF t2 σ H (ns.map V.int)) (h8 : ns.length = 8) : Ev (tCall spEq [] E0 (tCons t1 (tCons t2 tNil))) σ H (.bl true) := fun H1 e Q q =>
  h1 H1 e _ fun a H2 e2 ha => h2 H2 (e.trans e2) _ fun b H3 e3 hb => ⟨a, b, ns, rfl, e3 _ _ ha, hb, h8, fun H4 e4 => q H4 ((e2.trans e3).trans e4)⟩
end

end K06

set_option Elab.async false
set_option linter.all false
set_option maxRecDepth 100000
set_option maxHeartbeats 4000000
namespace K06
open PySem PySem.Spec PyProof.Rows L2 Evl LK LT LG LS LQ LX LO LN LP LH LV
/-- a field, within a try -/
theorem pe_fldT {X : Cx} {K : PySem.W.Frag} {e : Expr} {ta : TE} {f : Str} {pos : Pos} (hK : X.K = K) (he : PE X e ta) (hb : attributeBase e f X.env (eval e X.env) = eval e X.env) : PE X (.Attribute e f pos) (tFld K ta f) := by
  subst hK
  exact pe_fld he hb
theorem all_set {xs : List V} {j : Nat} {v : V} (hj : j < xs.length) (hv : wd v = false) : (xs.set j v).all wd = false := by
  rw [List.all_eq_false]
  exact ⟨v, List.mem_iff_getElem.mpr ⟨j, by rw [List.length_set]; exact hj, by rw [List.getElem_set_self]⟩, by rw [hv]; decide⟩
theorem kd_set {H : Hp} {ns : List Int} {j : Nat} {v : V} {n : String} (k : Kd H v n) : ∀ x ∈ (ns.map V.int).set j v, ∃ n, Kd H x n := fun x hx => by
  rcases List.mem_or_eq_of_mem_set hx with h | rfl
  · exact kd_ints ns x h
  · exact ⟨_, k⟩
section
variable {K : PySem.W.Frag} {σ : L2.St} {H : Hp} {t : TA} {vs : List V} {Q : VK} {sp : Sp} {C : Addr}
theorem callS_run {E : L2.St → XK} (h : EvA t σ H vs) (k : ∀ H1, Ex H H1 → sp vs H1 Q (E σ)) : tCallS sp E t σ H Q := h H (Ex.refl _) _ fun H1 e1 => k H1 e1
theorem fldMake_run {E : L2.St → XK} {m : Str} (h : EvA t σ H vs) (k : ∀ H1, Ex H H1 → ∀ x dx, H1 x = none → H1 dx = none → dx ≠ x → sp (.ref x :: vs) (upd (upd H1 dx (.own x)) x (.ins C dx [])) (fun v H2 => v = .non ∧ ∃ a C' dx' fs v', V.ref x = .ref a ∧ H2 a = some (.ins C' dx' fs) ∧ Cls K C' ∧ NoAttr K C' m ∧ fs.lookup m = some v' ∧ Q v' H2) (E σ)) : tFld K (tMakeA C sp E t) m σ H Q := h H (Ex.refl _) _ fun H1 e1 => k H1 e1
end
section
variable {P : Program} {w : World} {K : PySem.W.Frag} {mg : Str → Option Value} {base : Heap} {C CN CO CB CL Pw Pd : Addr}
theorem ok_sp {f fZ : Addr} {fd fdZ : FuncData} (F : Fun K "_law_spoiled" "_law_spoiled" sSp f fd) (FZ : Fun K "_law_zeros" "_law_zeros" sZer fZ fdZ) (bZ : Binds K fdZ [] []) (gZ : mg "_law_zeros" = some (.ref fZ)) (T : Txt mg K C) : FnOk P w K mg base CX0 2 f fd ["image", "kind", "sector"] spSp := by
  have GZ : FnOk P w K mg base CX0 1 fZ fdZ [] spZ := ok_zer FZ T
  refine F.ok scSp (fun vs H Q E h => ?_) (fun cdv A outer s H vs Q E hr h => ?_)
  · obtain ⟨a, ks, f, b, kd, s, rfl, _⟩ := h
    rfl
  · obtain ⟨a, ks, f, b, kd, s, rfl, hkd, hs, im, q⟩ := h
    refine ⟨_, (pss_cons (ps_if (pt_cmpR op_eq (pv 1) pe_int (nomark _)) (pss_one (ps_ret (pe_slice sl_list (pv 0) (po_some pe_int) po_none))) pss_nil)
      (pss_cons (ps_if (pt_cmpR op_eq (pv 1) pe_int (nomark _)) (pss_one (ps_ret (pe_op op_cat (pv 0) (pe_lst (pa_cons (pe_call0 GZ (hr.mono (by decide)) (by rfl) gZ FZ.kp bZ .nil pass0) pa_nil))))) pss_nil)
      (pss_cons (ps_if (pt_cmpR op_eq (pv 1) pe_int (nomark _)) (pss_one (ps_ret (pe_slice sl_list (pv 0) po_none (po_some (pe_op op_mul pe_int pe_int))))) pss_nil)
      (pss_cons (ps_if (pt_cmpR op_eq (pv 1) pe_int (nomark _)) (pss_one (ps_ret (pe_op op_cat (pv 0) (pe_lc (own := [("k", 4)]) (g := gName 4) (tt := tYes) rfl scSp.nd (pi_range1 (by rfl) T.range (pa_cons (pe_op op_sub (pe_op op_mul pe_int pe_int) (pe_callB call_len_seq (by rfl) T.len (by decide +kernel) (pa_cons (pv 0) pa_nil))) pa_nil)) (blkOk_by (own := [("k", 4)]) (N := ["image", "kind", "sector", "words", "k"]) (sc := defScope sSp) (by decide +kernel)) (fun _ _ _ _ _ => pg_name (i := 4) scSp.nd rfl (Or.inl rfl)) (fun _ _ _ _ _ => pts_nil) (fun _ _ _ _ _ => (pe_call0 GZ (hr.mono (by decide)) (by rfl) gZ FZ.kp bZ .nil pass0)))))) pss_nil)
      (pss_cons (ps_if (pt_cmpR op_eq (pv 1) pe_int (nomark _)) (pss_one (ps_ret (pe_callTy call_tuple_of (by rfl) T.tuple (by decide +kernel) (pa_cons (pv 0) pa_nil)))) pss_nil)
      (pss_cons (ps_set (i := 3) scSp.nd rfl (Or.inl rfl) (pe_callTy call_list_of (by rfl) T.list (by decide +kernel) (pa_cons (pe_ix ix_list (pv 0) (pv 2) (fun _ _ => rfl)) pa_nil)))
      (pss_cut (ps_if (pt_cmpR op_eq (pv 1) pe_int (nomark _)) (pss_one (ps_set (i := 3) scSp.nd rfl (Or.inl rfl) (pe_slice sl_list (pv 3) po_none (po_some pe_int)))) (pss_one (ps_if (pt_cmpR op_eq (pv 1) pe_int (nomark _)) (pss_one (ps_set (i := 3) scSp.nd rfl (Or.inl rfl) (pe_op op_cat (pv 3) (pe_lst (pa_cons pe_int pa_nil))))) (pss_one (ps_if (pt_cmpR op_eq (pv 1) pe_int (nomark _)) (pss_one (ps_asg (pe_un un_neg pe_int) (pg_sub (pv 3) (pe_op op_mod (pv 2) pe_int) set_list))) (pss_one (ps_if (pt_cmpR op_eq (pv 1) pe_int (nomark _)) (pss_one (ps_asg pe_bl (pg_sub (pv 3) (pe_op op_mod (pv 2) pe_int) set_list))) (pss_one (ps_set (i := 3) scSp.nd rfl (Or.inl rfl) (pe_callTy call_tuple_of (by rfl) T.tuple (by decide +kernel) (pa_cons (pv 3) pa_nil)))))))))))
      (pss_one (ps_ret (pe_op op_cat (pe_op op_cat (pe_slice sl_list (pv 0) po_none (po_some (pv 2))) (pe_lst (pa_cons (pv 3) pa_nil))) (pe_slice sl_list (pv 0) (po_some (pe_op op_add (pv 2) pe_int)) po_none))))))))))), ?_⟩
    obtain ⟨L, hLe⟩ : ∃ L, ks.map V.ref = L := ⟨_, rfl⟩
    have ia : ∀ {B : Hp}, Ex H B → B a = some (.lst L) := fun e => by rw [← hLe]; exact e _ _ im.1
    have hL : L.length = 4 * b := by rw [← hLe, List.length_map]; exact im.2.1
    have b0 := im.2.2.1
    have b1 := im.2.2.2.1
    have arw : ∀ {B : Hp}, Ex H B → ∀ (i : Nat) (x : V), L[i]? = some x → Arw B x 8 true := fun e i x hx => (im.ex e).arw (by rw [hLe]; exact hx)
    have deq : ∀ c : Nat, decide (V.int (kd : Int) = V.int (c : Int)) = decide (kd = c) := fun c => by
      rw [decide_eq_decide]
      exact ⟨fun h => by have := V.int.inj h; omega, fun h => by rw [h]⟩
    have t : ∀ {B : Hp} {σ : L2.St} {tc : TE} (c : Nat), σ[1]? = some (some (.int (kd : Int))) → Ev tc σ B (.int (c : Int)) → EvT (tTest (tOp rEq (tVar 1) tc)) σ B (decide (kd = c)) := fun c h1 hc => et_is (et_test (ev_op (ev_var h1) hc (rv_eq rfl))) (deq c)
    refine q_when (t 0 rfl ev_c) (fun _ H1 e1 => ?_) (fun n0 H1 e1 => ?_)
    · refine s_retL (xs := L.drop 1) (el_is (el_sl (ev_var rfl) (eo_some ev_c) eo_none (sq_of (ia e1))) (cut_hi L 1)) fun l H2 hl e2 h2 => q _ H2 (e1.trans e2) (badSeg h2 (fun i x hx => arw (e1.trans e2) (1 + i) x (by rw [List.getElem?_drop] at hx; exact hx)) (by rw [List.length_drop]; omega))
    refine q_when (t 1 rfl ev_c) (fun _ H2 e2 => ?_) (fun n1 H2 e2 => ?_)
    · refine r_cat1 (ev_var rfl) (ia (e1.trans e2)) el_zer (by omega) fun l M H3 e3 hl hM => q _ H3 ((e1.trans e2).trans e3) (badSeg hM (fun i x hx => ?_) (by rw [List.length_append, List.length_singleton]; omega))
      by_cases hi : i < L.length
      · rw [List.getElem?_append_left hi] at hx
        exact arw ((e1.trans e2).trans e3) i x hx
      · rw [List.getElem?_append_right (by omega)] at hx
        have : x = .ref l := by
          cases e : i - L.length with
          | zero => rw [e] at hx; exact (Option.some.inj hx).symm
          | succ n => rw [e] at hx; cases hx
        subst this
        exact .inl ⟨l, _, rfl, hl, kd_ints _, rfl⟩
    have e12 := e1.trans e2
    refine q_when (t 2 rfl ev_c) (fun _ H3 e3 => ?_) (fun n2 H3 e3 => ?_)
    · refine s_retL (xs := L.take 380) (el_is (el_sl (ev_var rfl) eo_none (eo_some (ev_op ev_c ev_c (rv_I (.inl ⟨by decide, by decide⟩)))) (sq_of (ia (e12.trans e3)))) (cut_lo L 380)) fun l H4 hl e4 h4 => q _ H4 ((e12.trans e3).trans e4) (badSeg h4 (fun i x hx => arw ((e12.trans e3).trans e4) i x (by
        rw [List.getElem?_take] at hx
        split at hx
        · exact hx
        · cases hx)) (by rw [List.length_take]; omega))
    have e13 := e12.trans e3
    refine q_when (t 3 rfl ev_c) (fun _ H4 e4 => ?_) (fun n3 H4 e4 => ?_)
    · refine r_catR (R := Rz H4) (ev_var rfl) (ia (e13.trans e4)) (er_R1 (n := 4 * 257 - (L.length : Int)) (ea_cons (ev_op (ev_op ev_c ev_c (rv_I (.inl ⟨by decide, by decide⟩))) (ev_len (ev_var rfl) (sq_of (ia (e13.trans e4)))) rv_I0) ea_nil) ⟨by omega, by omega⟩ (fun _ => rfl) (rz_mon _) (fun i Dd B hD eB hDn hi xs hxs hpre Q' q' => el_zer B (Ex.refl _) _ fun l B2 hl eB2 hB2 => q' (.ref l) B2 eB2 ⟨l, rfl, fresh_back eB hl, but_new hDn hl hB2⟩)) (by omega) (fun ys M B eB hy hr hM => q _ B ((e13.trans e4).trans eB) (badSeg hM (fun i x hx => ?_) (by rw [List.length_append, hy]; omega))) (rz_mon _)
      by_cases hi : i < L.length
      · rw [List.getElem?_append_left hi] at hx
        exact arw ((e13.trans e4).trans eB) i x hx
      · rw [List.getElem?_append_right (by omega)] at hx
        obtain ⟨l, rfl, _, hl⟩ := hr _ _ hx
        exact .inl ⟨l, _, rfl, hl, kd_ints _, rfl⟩
    have e14 := e13.trans e4
    refine q_when (t 9 rfl ev_c) (fun _ H5 e5 => s_retU (eu_tupA (ev_var rfl) (ia (e14.trans e5))) fun u H6 hu e6 h6 => q _ H6 ((e14.trans e5).trans e6) (.inl ⟨"tuple", .tup h6, by decide⟩)) (fun n9 H5 e5 => ?_)
    have e15 := e14.trans e5
    obtain ⟨k, hk⟩ : ∃ k, ks[s]? = some k := ⟨ks[s]'(by have := im.2.1; omega), List.getElem?_eq_getElem _⟩
    have hks : L[s]? = some (.ref k) := by rw [← hLe, List.getElem?_map, hk]; rfl
    have h8 := im.2.2.2.2.2.1 s
    refine q_asgL (el_list (ev_op (ev_var rfl) (ev_var rfl) (rv_ixL (sq_of (ia e15)) (atI_nat hks))) (sq_of (e15 _ _ (im.2.2.2.2.1 s k hk)))) fun W H6 hW0 e6 hW => ?_
    have e16 := e15.trans e6
    have hWH : H W = none := fresh_back e15 hW0
    refine q_cut (M := fun σ2 B => ∃ wv, σ2 = [some (.ref a), some (.int (kd : Int)), some (.int (s : Int)), some wv, none] ∧ Ex H B ∧ Arw B wv 8 false) ?_ ?_
    · refine s_if (t 4 rfl ev_c) (fun _ B1 c1 => ?_) (fun n4 B1 c1 => ?_)
      · refine s_asgL (xs := ((f s).take 7).map V.int) (el_is (el_sl (ev_var rfl) eo_none (eo_some ev_c) (sq_of (c1 _ _ hW))) (by rw [List.map_take]; exact cut_lo _ 7)) fun l B2 hl c2 h2 => ⟨.ref l, rfl, (e16.trans c1).trans c2, .inl ⟨l, _, rfl, h2, kd_ints _, by rw [List.length_map, List.length_take, h8]; rfl⟩⟩
      refine s_if (t 5 rfl ev_c) (fun _ B2 c2 => ?_) (fun n5 B2 c2 => ?_)
      · refine s_asgL (xs := ((f s) ++ [0]).map V.int) (el_is (el_cat (ev_var rfl) ((c1.trans c2) _ _ hW) (el_lst (vs := [.int 0]) (ea_cons ev_c ea_nil) (Nat.le_of_ble_eq_true rfl)) (by rw [List.length_map, h8]; decide)) (by rw [List.map_append]; rfl)) fun l B3 hl c3 h3 => ⟨.ref l, rfl, ((e16.trans c1).trans c2).trans c3, .inl ⟨l, _, rfl, h3, kd_ints _, by rw [List.length_map, List.length_append, h8]; rfl⟩⟩
      have m0 := Int.emod_nonneg (s : Int) (show (8 : Int) ≠ 0 by decide)
      have m1 := Int.emod_lt_of_pos (s : Int) (show (0 : Int) < 8 by decide)
      obtain ⟨j, hj⟩ := Int.eq_ofNat_of_zero_le m0
      have hj8 : j < ((f s).map V.int).length := by rw [List.length_map, h8]; omega
      have sj : ∀ {B : Hp} {σ : L2.St}, σ[2]? = some (some (.int (s : Int))) → Ev (tOp (rI (fun x j => 0 < j) fun i j => V.int (i % j)) (tVar 2) (tC (.int 8))) σ B (.int (j : Int)) := fun h => ev_is (ev_op (ev_var h) ev_c (rv_I (by show (0 : Int) < 8; decide))) (congrArg V.int hj)
      refine s_if (t 6 rfl ev_c) (fun _ B3 c3 => ?_) (fun n6 B3 c3 => ?_)
      · refine s_setL (j := j) (v := .int (-1)) (((c1.trans c2).trans c3) _ _ hW) (ev_un ev_c ru_neg) (ev_var rfl) (sj rfl) hj8 fun B4 c4 => ⟨.ref W, rfl, (((e16.trans ((c1.trans c2).trans c3)).trans c4)).mut hWH, .inl ⟨W, _, rfl, upd_same, kd_set (.int _), by rw [all_set hj8 rfl, Bool.and_false]⟩⟩
      refine s_if (t 7 rfl ev_c) (fun _ B4 c4 => ?_) (fun n7 B4 c4 => ?_)
      · refine s_setL (j := j) (v := .bl true) ((((c1.trans c2).trans c3).trans c4) _ _ hW) ev_c (ev_var rfl) (sj rfl) hj8 fun B5 c5 => ⟨.ref W, rfl, ((e16.trans (((c1.trans c2).trans c3).trans c4)).trans c5).mut hWH, .inl ⟨W, _, rfl, upd_same, kd_set (.bl _), by rw [all_set hj8 rfl, Bool.and_false]⟩⟩
      · refine s_asgU (eu_tupA (ev_var rfl) ((((c1.trans c2).trans c3).trans c4) _ _ hW)) fun u B5 hu c5 h5 => ⟨.ref u, rfl, (e16.trans (((c1.trans c2).trans c3).trans c4)).trans c5, .inr ⟨"tuple", .tup h5, by decide, rfl⟩⟩
    · rintro σ2 B ⟨wv, rfl, eB, hwv⟩
      have hsL : s < L.length := by omega
      refine s_retL (xs := L.set s wv) (el_is (el_catL (el_catL (el_sl (ev_var rfl) eo_none (eo_some (ev_var rfl)) (sq_of (ia eB))) (el_lst (ea_cons (ev_var rfl) ea_nil) (Nat.le_of_ble_eq_true rfl)) ?_) (el_sl (ev_var rfl) (eo_some (ev_is (ev_op (ev_var rfl) ev_c rv_I0) (congrArg V.int (show (s : Int) + 1 = ((s + 1 : Nat) : Int) by push_cast; rfl)))) eo_none (sq_of (ia eB))) ?_) ?_) fun l B2 hl c2 h2 => q _ B2 (eB.trans c2) (.inr ⟨l, _, fun i => !decide (i = s), rfl, h2, fun i x hx => ?_, .inl (allF_one (by rw [List.length_set]; exact hsL))⟩)
      · rw [cut_lo, List.length_take]
        show _ + 1 ≤ 100000
        omega
      · rw [cut_lo, cut_hi, List.length_append, List.length_take, List.length_drop]
        show _ + 1 + _ ≤ 100000
        omega
      · rw [cut_lo, cut_hi, List.set_eq_take_append_cons_drop, if_pos hsL, List.append_assoc]
        rfl
      · by_cases hi : i = s
        · subst hi
          rw [List.getElem?_set_self hsL] at hx
          cases hx
          simp only [decide_true, Bool.not_true]
          exact hwv.mono c2
        · rw [List.getElem?_set_ne (fun e => hi e.symm)] at hx
          show Arw B2 x 8 (!decide (i = s))
          rw [decide_eq_false hi]
          exact arw (eB.trans c2) i x hx
theorem ok_told {f fD : Addr} {fd fdD : FuncData} (F : Fun K "_law_told" "_law_told" sTo f fd) (FDf : Fun K "disk_from" "disk_from" sDf fD fdD) (GDf : FnOk P w K mg base (L2.CX P w) 6 fD fdD ["image"] (spDf C CB Pw Pd)) (bDf : Binds K fdD ["image"] []) (gDf : mg "disk_from" = some (.ref fD)) (T : Txt mg K C)
    (XL : Xc K mg "LaminaError" CL) (XB : Xc K mg "BadImage" CB) (XN : Xc K mg "NotValid" CN) (XCB : ExcC K CB) (sBL : PySem.W.subIn K (.ref CB) (.ref CL) = some true) (sBB : PySem.W.subIn K (.ref CB) (.ref CB) = some true) (sBN : PySem.W.subIn K (.ref CB) (.ref CN) = some false) : FnOk P w K mg base CX0 7 f fd ["image"] (spTo C Pw Pd) := by
  refine F.ok scTo (fun vs H Q E h => ?_) (fun cdv A outer s H vs Q E hr h => ?_)
  · obtain ⟨v, rfl, _⟩ := h
    rfl
  · obtain ⟨v, rfl, hTd, hTw, h⟩ := h
    refine ⟨_, (pss_cons (ps_try_as (i := 2) rfl rfl scTo.nd rfl rfl ⟨rfl, by decide, .inl XL.g⟩ takes0 (fun W pn xe tk _ => (pss_one (ps_set (i := 1) scTo.nd rfl (Or.inl rfl) (pe_callS GDf hr (by rfl) gDf FDf.kp bDf (fun σ => passAt tk σ) (pa_cons (pv 0) pa_nil))))) (fun a oe cls d pn hz hf => (pss_one (ps_ret (pe_lst (pa_cons (pe_and (pe_callB (call_isX XCB hz hf) (by rfl) T.isinstance (by decide +kernel) (pa_cons (pv 2) (pa_cons (pe_glob (v := .ref CB) rfl XB.g rfl) pa_nil))) (pe_one (pe_not (pe_callB (call_isX XCB hz hf) (by rfl) T.isinstance (by decide +kernel) (pa_cons (pv 2) (pa_cons (pe_glob (v := .ref CN) rfl XN.g rfl) pa_nil)))))) pa_nil))))))
      (pss_one (ps_ret (pv 1)))), ?_⟩
    refine callS_run (vs := [v]) (ea_cons (ev_var rfl) ea_nil) fun H1 e1 => ⟨v, rfl, hTd.mono e1, hTw.mono e1, ?_⟩
    rcases h with ⟨G, a, ks, f, b, rfl, gG, gw, im, q⟩ | ⟨hB, q⟩
    · have im1 := im.ex e1
      refine .inl ⟨G, a, ks, f, b, rfl, gG.trans e1, gw, im1.1, im1.2.1, im1.2.2.1, im1.2.2.2.1, im1.2.2.2.2.1, im1.2.2.2.2.2.1, im1.2.2.2.2.2.2, fun G1 H2 p ka sa wa d S e2 hp w1 w2 w3 w4 D => ?_⟩
      exact s_ret (ev_var rfl) fun H3 e3 => q G1 H3 p ka sa wa d (((St.ex e1).trans S).trans (St.ex e3)) ((e1.trans e2).trans e3) (fresh_back e1 hp) w1 w2 w3 w4 (D.ex e3)
    · refine .inr ⟨?_, fun H2 e2 => ⟨true, XL.exm sBL, fun _ a ha => s_retL (el_lst (vs := [.bl true]) (ea_cons (ev_is (ev_andV (ev_isX (ev_var rfl) ev_c (XB.kit sBB (fun _ => rfl))) (fun _ => ev_notV (ev_isX (ev_var rfl) ev_c (XN.kit sBN (fun e => by
            cases e
            rw [sBB] at sBN
            cases sBN))))) rfl) ea_nil) (Nat.le_of_ble_eq_true rfl)) fun l H3 hl e3 h3 => q l H3 ((e1.trans e2).trans e3) h3, fun q => nomatch q⟩⟩
      rcases hB with ⟨n, k, hn⟩ | ⟨a, xs, g, rfl, ha, hA, hg⟩
      · exact .inl ⟨n, k.mono e1, hn⟩
      · exact .inr ⟨a, xs, g, rfl, e1 _ _ ha, fun i x hx => (hA i x hx).mono e1, hg⟩
theorem ok_ts {f f1 : Addr} {fd fd1 : FuncData} (F : Fun K "_law_told_size" "_law_told_size" sTs f fd) (MS : Mk K C f1) (GI3 : FnOk P w K mg base (L2.CX P w) 3 f1 fd1 ["self", "blocks"] (spI3 C CN)) (binit : Binds K fd1 ["self", "blocks"] []) (T : Txt mg K C)
    (XL : Xc K mg "LaminaError" CL) (XB : Xc K mg "BadImage" CB) (XN : Xc K mg "NotValid" CN) (XCN : ExcC K CN) (sNL : PySem.W.subIn K (.ref CN) (.ref CL) = some true) (sNN : PySem.W.subIn K (.ref CN) (.ref CN) = some true) (sNB : PySem.W.subIn K (.ref CN) (.ref CB) = some false) : FnOk P w K mg base CX0 5 f fd ["blocks"] spTs := by
  refine F.ok scTs (fun vs H Q E h => ?_) (fun cdv A outer s H vs Q E hr h => ?_)
  · obtain ⟨v, n, rfl, _⟩ := h
    rfl
  · obtain ⟨v, n, rfl, k, q, qE⟩ := h
    refine ⟨_, (pss_one (ps_try_as (i := 1) rfl rfl scTs.nd rfl rfl ⟨rfl, by decide, .inl XL.g⟩ takes0 (fun W pn xe tk _ => (pss_one (ps_ret (pe_fldT (K := K) rfl (pe_makeA MS GI3 (hr.mono (by decide)) (by rfl) T.mgC binit (fun σ => passAt tk σ) (pa_cons (pv 0) pa_nil)) rfl)))) (fun a oe cls d pn hz hf => (pss_one (ps_ret (pe_lst (pa_cons (pe_and (pe_callB (call_isX XCN hz hf) (by rfl) T.isinstance (by decide +kernel) (pa_cons (pv 1) (pa_cons (pe_glob (v := .ref CN) rfl XN.g rfl) pa_nil))) (pe_one (pe_not (pe_callB (call_isX XCN hz hf) (by rfl) T.isinstance (by decide +kernel) (pa_cons (pv 1) (pa_cons (pe_glob (v := .ref CB) rfl XB.g rfl) pa_nil)))))) pa_nil))))))), ?_⟩
    refine fldMake_run (vs := [v]) (ea_cons (ev_var rfl) ea_nil) fun H1 e1 x dx hx hd hne => ?_
    have eX : Ex H1 (upd (upd H1 dx (.own x)) x (.ins C dx [])) := (Ex.new hd).mut hx
    cases hz : szV v with
    | true =>
      cases v with
      | int z =>
        have hz' : 0 ≤ z ∧ 96 ≤ z ∧ z ≤ 256 := by
          unfold szV at hz
          simp only [Bool.and_eq_true, decide_eq_true_eq] at hz
          exact hz
        obtain ⟨m, rfl⟩ := Int.eq_ofNat_of_zero_le hz'.1
        refine .inl ⟨H1, x, dx, m, rfl, eX, hx, upd_same, by omega, by omega, fun G' ka sa wa H2 S fr _ _ _ D => ⟨rfl, ?_⟩⟩
        obtain ⟨dx2, ho⟩ := D.o
        exact ⟨x, C, dx2, _, _, rfl, ho, T.cl, T.nb, d_b, q _ rfl hz H2 (fun u o hu => fr u o (eX _ _ (e1 _ _ hu)) fun z => by
          have := e1 _ _ hu
          rw [z, hx] at this
          cases this)⟩
      | _ => cases hz
    | false =>
      exact .inr ⟨x, dx, v, n, rfl, upd_same, (k.mono e1).mono eX, hz, fun H2 e2 => ⟨true, XL.exm sNL, fun _ a ha => s_retL (el_lst (vs := [.bl true]) (ea_cons (ev_is (ev_andV (ev_isX (ev_var rfl) ev_c (XN.kit sNN (fun _ => rfl))) (fun _ => ev_notV (ev_isX (ev_var rfl) ev_c (XB.kit sNB (fun e => by
            cases e
            rw [sNN] at sNB
            cases sNB))))) rfl) ea_nil) (Nat.le_of_ble_eq_true rfl)) fun l H3 hl e3 h3 => qE hz l H3 (((e1.trans eX).trans e2).trans e3) h3, fun q => nomatch q⟩⟩
end

end K06

set_option Elab.async false
set_option linter.all false
set_option maxRecDepth 100000
set_option maxHeartbeats 4000000
namespace K06
open PySem PySem.Spec PyProof.Rows L2 Evl LK LT LG LS LQ LX LO LN LP LH LV
def rowsD (f : Nat → List Int) : Nat → Nat → List PyData
  | _, 0 => []
  | k, m + 1 => .list ((f k).map PyData.int) :: rowsD f (k + 1) m
theorem dpa_img {K : PySem.W.Frag} {H : Hp} {f : Nat → List Int} : ∀ {ys : List V} {k : Nat}, (∀ (i : Nat) (y : V), ys[i]? = some y → ∃ l, y = .ref l ∧ H l = some (.lst ((f (k + i)).map V.int))) → DpAll K H ys (rowsD f k ys.length)
  | [], k, _ => .nil
  | y :: ys, k, h => by
    obtain ⟨l, rfl, hl⟩ := h 0 y rfl
    exact .cons (.lst (sq_of hl) (dp_ints _)) (dpa_img fun i z hz => by
      obtain ⟨l, e, hl⟩ := h (i + 1) z hz
      exact ⟨l, e, by rw [show k + 1 + i = k + (i + 1) by omega]; exact hl⟩)
theorem sh_img {f : Nat → List Int} : ∀ {m k : Nat}, ∀ d ∈ rowsD f k m, Sh 1 d
  | 0, k, d, h => nomatch h
  | m + 1, k, d, h => by
    rcases List.mem_cons.mp h with rfl | h
    · exact sh_lst (sh_ints _)
    · exact sh_img d h
section
variable {K : PySem.W.Frag} {σ : L2.St} {H : Hp} {te tl ta tb t1 t2 t3 : TE} {tz : TS} {D : Ends} {sp : Sp} {E : XK}
theorem ev_w {a : Addr} {ns : List Int} {z : Int} (k : Nat) (ha : Ev ta σ H (.ref a)) (hb : Ev tb σ H (.int z)) (hz : z = (k : Int)) (h : H a = some (.lst (ns.map V.int))) (hk : k < ns.length) : Ev (tOp (rIxL K) ta tb) σ H (.int (cellv ns k)) := ev_op ha hb (rv_ixL (sq_of h) (at_of hz (cellv_in hk)))
theorem q_m2L {C p dx : Addr} {m : Str} {fs : List (Str × V)} {v : V} {xs : List V} (ha : Ev ta σ H (.ref p)) (hi : H p = some (.ins C dx fs)) (hl : fs.lookup m = none) (h1 : Ev t1 σ H v) (ht : EvL te σ H xs) (k : ∀ c H1, H c = none → Ex H H1 → H1 c = some (.lst xs) → sp [.ref p, v, .ref c] H1 (fun _ H2 => tz D σ H2) E) : tSeq (tDrop (tMeth C m sp [] E ta (tCons t1 (tCons te tNil)))) tz D σ H :=
  ha H (Ex.refl _) _ fun H2 e2 => ⟨p, dx, fs, rfl, e2 _ _ hi, hl, h1 H2 e2 _ fun H3 e3 => ht H3 (e2.trans e3) _ fun c H4 hc e4 h4 => k c H4 (fresh_back (e2.trans e3) hc) ((e2.trans e3).trans e4) h4⟩
end
section
variable {C CN CO : Addr}
theorem DK.dueLen {G H : Hp} {p ka sa wa : Addr} {n : Nat} {d : Dk} (D : DK C G H p ka sa wa n d) (s : Nat) : (due d.kept d.ws s).length = 8 := due_len D.kz (fun w hw => (D.ok w hw).2) s
theorem sl_read {G H : Hp} {p ka sa wa : Addr} {n : Nat} {d : Dk} {s : Nat} (D : DK C G H p ka sa wa n d) (hp : d.pw = true) (hs : s < 4 * n) : SpL (spRead C CN CO) [.ref p, .int (s : Int)] H ((due d.kept d.ws s).map V.int) := fun H1 e1 Q q E => ⟨G, p, ka, sa, wa, n, d, (s : Int), rfl, D.ex e1, fun _ s' e' hs' => by
  have : s' = s := by omega
  subst this
  exact q, (fun h => by rw [hp] at h; cases h), fun _ h => absurd ⟨by omega, by omega⟩ h⟩
theorem el_rd {G H : Hp} {p ka sa wa : Addr} {n : Nat} {d : Dk} {s : Nat} {σ : L2.St} {te ts : TE} {E : XK} (D : DK C G H p ka sa wa n d) (hp : d.pw = true) (hs : s < 4 * n) (h : Ev te σ H (.ref p)) (h2 : Ev ts σ H (.int (s : Int))) : EvL (tMeth C "read" (spRead C CN CO) [] E te (tCons ts tNil)) σ H ((due d.kept d.ws s).map V.int) := by
  obtain ⟨dx, ho⟩ := D.o
  exact el_meth h ho (d_no ⟨by decide +kernel, by decide +kernel, by decide +kernel, by decide +kernel, by decide +kernel, by decide +kernel⟩) (ea_cons h2 ea_nil) (sl_read D hp hs)
end
theorem rowsD_congr {f g : Nat → List Int} : ∀ {m k : Nat}, (∀ s, k ≤ s → s < k + m → f s = g s) → rowsD f k m = rowsD g k m
  | 0, k, _ => rfl
  | m + 1, k, h => by
    show PyData.list ((f k).map PyData.int) :: rowsD f (k + 1) m = PyData.list ((g k).map PyData.int) :: rowsD g (k + 1) m
    rw [h k (by omega) (by omega), rowsD_congr fun s h1 h2 => h s (by omega) (by omega)]
section
variable {K : PySem.W.Frag} {σ : L2.St} {C Pw Pd : Addr} {G H : Hp} {p ka sa wa : Addr} {n : Nat} {d : Dk} {tp ti ts tb : TE} {tA : TA} {E E' : XK}
theorem ev_imgNe {m : Str} {g : Dk → Nat → List Int} {Li : Addr} {f : Nat → List Int} (hm : m ≠ "blocks" ∧ m ≠ "_kept" ∧ m ≠ "_shown" ∧ m ≠ "_writes" ∧ m ≠ "_powered" ∧ m ≠ "_before_failure") (D : DK C G H p ka sa wa n d) (hf : ∀ s, s < 4 * n → g d s = f s) (h : Ev tp σ H (.ref p)) (hi : Ev ti σ H (.ref Li)) (img : Dp K H (.ref Li) (.list (rowsD f 0 (4 * n)))) : Ev (tOp (rNeD K) (tMeth C m (spImgs C g) [] E tp tNil) ti) σ H (.bl false) := fun H1 e1 Q q => by
  obtain ⟨dx, ho⟩ := D.o
  show tMeth C m (spImgs C g) [] E tp tNil σ H1 (fun x H2 => ti σ H2 fun y H3 => rNeD K x y H3 Q)
  refine m_run (h.mono e1) (e1 _ _ ho) (d_no hm) ea_nil fun H2 e2 => ⟨G, p, ka, sa, wa, n, d, rfl, (D.ex e1).ex e2, fun L ys H3 hL e3 h3 yn yr => ?_⟩
  refine hi H3 ((e1.trans e2).trans e3) _ fun H4 e4 => ?_
  have hd : DpAll K H4 ys (rowsD f 0 (4 * n)) := by
    rw [← rowsD_congr (f := g d) (g := f) (k := 0) (m := 4 * n) (fun s _ hs => hf s (by omega)), ← yn]
    refine dpa_img fun i y hy => ?_
    obtain ⟨l, h1, _, h2, _⟩ := yr i y hy
    exact ⟨l, h1, by rw [Nat.zero_add]; exact e4 _ _ h2⟩
  exact rv_neD (n := 2) (.lst (sq_of (e4 _ _ h3)) hd) (dp_mono (((e1.trans e2).trans e3).trans e4) _ img) (sh_lst sh_img) (by decide) H4 (Ex.refl _) Q fun H5 e5 => q H5 (((e2.trans e3).trans e4).trans e5)
theorem ev_imgEq {m : Str} {g : Dk → Nat → List Int} {Li : Addr} {f : Nat → List Int} (hm : m ≠ "blocks" ∧ m ≠ "_kept" ∧ m ≠ "_shown" ∧ m ≠ "_writes" ∧ m ≠ "_powered" ∧ m ≠ "_before_failure") (D : DK C G H p ka sa wa n d) (hf : ∀ s, s < 4 * n → g d s = f s) (h : Ev tp σ H (.ref p)) (hi : Ev ti σ H (.ref Li)) (img : Dp K H (.ref Li) (.list (rowsD f 0 (4 * n)))) : Ev (tOp (rEqD K) (tMeth C m (spImgs C g) [] E tp tNil) ti) σ H (.bl true) := fun H1 e1 Q q => by
  obtain ⟨dx, ho⟩ := D.o
  show tMeth C m (spImgs C g) [] E tp tNil σ H1 (fun x H2 => ti σ H2 fun y H3 => rEqD K x y H3 Q)
  refine m_run (h.mono e1) (e1 _ _ ho) (d_no hm) ea_nil fun H2 e2 => ⟨G, p, ka, sa, wa, n, d, rfl, (D.ex e1).ex e2, fun L ys H3 hL e3 h3 yn yr => ?_⟩
  refine hi H3 ((e1.trans e2).trans e3) _ fun H4 e4 => ?_
  have hd : DpAll K H4 ys (rowsD f 0 (4 * n)) := by
    rw [← rowsD_congr (f := g d) (g := f) (k := 0) (m := 4 * n) (fun s _ hs => hf s (by omega)), ← yn]
    refine dpa_img fun i y hy => ?_
    obtain ⟨l, h1, _, h2, _⟩ := yr i y hy
    exact ⟨l, h1, by rw [Nat.zero_add]; exact e4 _ _ h2⟩
  exact rv_eqD (n := 2) (.lst (sq_of (e4 _ _ h3)) hd) (dp_mono (((e1.trans e2).trans e3).trans e4) _ img) (sh_lst sh_img) (by decide) H4 (Ex.refl _) Q fun H5 e5 => q H5 (((e2.trans e3).trans e4).trans e5)
theorem ev_waitNe (D : DK C G H p ka sa wa n d) (hw : d.ws = []) (h : Ev tp σ H (.ref p)) : Ev (tOp (rNeD K) (tMeth C "waiting" (spWait C) [] E tp tNil) (tLst tNil)) σ H (.bl false) := fun H1 e1 Q q => by
  obtain ⟨dx, ho⟩ := D.o
  show tMeth C "waiting" (spWait C) [] E tp tNil σ H1 (fun x H2 => tLst tNil σ H2 fun y H3 => rNeD K x y H3 Q)
  refine m_run (h.mono e1) (e1 _ _ ho) (d_no ⟨by decide +kernel, by decide +kernel, by decide +kernel, by decide +kernel, by decide +kernel, by decide +kernel⟩) ea_nil fun H2 e2 => ⟨G, p, ka, sa, wa, n, d, rfl, (D.ex e1).ex e2, fun L ys H3 hL e3 h3 yn yr => ?_⟩
  rw [hw] at yn
  obtain rfl : ys = [] := List.eq_nil_of_length_eq_zero yn
  refine (el_lst ea_nil (by decide) : EvL (tLst tNil) σ H3 []) H3 (Ex.refl _) _ fun q1 H4 hq e4 h4 => ?_
  exact rv_neD (n := 1) (d := .list []) (.lst (sq_of (e4 _ _ h3)) .nil) (.lst (sq_of h4) .nil) (sh_lst (n := 0) (by simp)) (by decide) H4 (Ex.refl _) Q fun H5 e5 => q H5 (((e2.trans e3).trans e4).trans e5)
theorem lstB : ∀ {H : Hp} {l : Addr}, H l = some (.lst [.bl true]) → Dp K H (.ref l) (.list [.bool true]) := fun h => .lst (sq_of h) (.cons (.bl true) .nil)
theorem shB : Sh 1 (.list [.bool true]) := sh_lst (by simp [sh_bool])
/-- a size that is refused; one that is not -/
theorem ev_szNe {v : V} {k : String} (hv : Ev ts σ H v) (hk : Kd H v k) (hz : szV v = false) : Ev (tOp (rNeD K) (tCall spTs [] E (tCons ts tNil)) (tLst (tCons (tC (.bl true)) tNil))) σ H (.bl false) := fun H1 e Q q =>
  hv H1 e _ fun H2 e2 => ⟨v, k, rfl, hk.mono (e.trans e2), (fun z _ h => by rw [hz] at h; cases h), fun _ l H3 e3 h3 => (el_lst (vs := [.bl true]) (ea_cons ev_c ea_nil) (Nat.le_of_ble_eq_true rfl) : EvL (tLst (tCons (tC (.bl true)) tNil)) σ H3 [.bl true]) H3 (Ex.refl _) _ fun q1 H4 hq e4 h4 => rv_neD (n := 1) (lstB (e4 _ _ h3)) (lstB h4) shB (by decide) H4 (Ex.refl _) Q fun H5 e5 => q H5 (((e2.trans e3).trans e4).trans e5)⟩
theorem ev_szOk {z : Int} (hv : Ev ts σ H (.int z)) (hb : Ev tb σ H (.int z)) (hz : szV (.int z) = true) : Ev (tOp (rNeD K) (tCall spTs [] E (tCons ts tNil)) tb) σ H (.bl false) := fun H1 e Q q =>
  hv H1 e _ fun H2 e2 => ⟨.int z, "int", rfl, .int z, fun z' h _ H3 e3 => (by
    cases h
    exact hb H3 ((e.trans e2).trans e3) _ fun H4 e4 => rv_neD (d := .int z) (n := 0) (.int z) (.int z) (sh_int z) (by decide) H4 (Ex.refl _) Q fun H5 e5 => q H5 (((e2.trans e3).trans e4).trans e5)), fun h => by rw [hz] at h; cases h⟩
/-- what is spoiled is refused -/
theorem ev_bad {a : Addr} {ks : List Addr} {f : Nat → List Int} {b kd s : Nat} (hA : EvA tA σ H [.ref a, .int (kd : Int), .int (s : Int)]) (hkd : kd < 10) (hs : s < 4 * b) (im : Img H a ks f b) (hd : Tab H Pd) (hw : Tab H Pw) : Ev (tOp (rEqD K) (tCall (spTo C Pw Pd) [] E (tCons (tCall spSp [] E' tA) tNil)) (tLst (tCons (tC (.bl true)) tNil))) σ H (.bl true) := fun H1 e Q q =>
  hA H1 e _ fun H2 e2 => ⟨a, ks, f, b, kd, s, rfl, hkd, hs, im.ex (e.trans e2), fun v H3 e3 hB => ⟨v, rfl, hd.mono ((e.trans e2).trans e3), hw.mono ((e.trans e2).trans e3), .inr ⟨hB, fun l H4 e4 h4 => (el_lst (vs := [.bl true]) (ea_cons ev_c ea_nil) (Nat.le_of_ble_eq_true rfl) : EvL (tLst (tCons (tC (.bl true)) tNil)) σ H4 [.bl true]) H4 (Ex.refl _) _ fun q1 H5 hq e5 h5 => rv_eqD (n := 1) (lstB (e5 _ _ h4)) (lstB h5) shB (by decide) H5 (Ex.refl _) Q fun H6 e6 => q H6 ((((e2.trans e3).trans e4).trans e5).trans e6)⟩⟩⟩
end
def spLaw (K : PySem.W.Frag) (Pw Pd : Addr) : Sp := fun vs H Q _ => ∃ (a : Addr) (ns : List Int), vs = [.ref a] ∧ SqL K H a (ns.map V.int) ∧ ns.length ≤ 63 ∧ Tab H Pw ∧ Tab H Pd ∧ ∀ H', Ex H H' → Q (.bl true) H'
abbrev sl (a ta : Addr) (b : Nat) (ia : Addr) (y4 y5 y6 y7 y8 y9 y10 : Option V) : L2.St := [some (.ref a), some (.ref ta), some (.int (b : Int)), some (.ref ia), y4, y5, y6, y7, y8, y9, y10]

end K06

set_option Elab.async false
set_option linter.all false
set_option maxRecDepth 100000
set_option maxHeartbeats 4000000
namespace K06
open PySem PySem.Spec PyProof.Rows L2 Evl LK LT LG LS LQ LX LO LN LP LH LV
section
variable {P : Program} {w : World} {K : PySem.W.Frag} {mg : Str → Option Value} {base : Heap} {C CN CO CB CL Pw Pd : Addr}
theorem ok_law {f fT fA fZ fW fEq fSp fTo fTs f1 f2 f3 f4 f5 : Addr} {fd fdT fdA fdZ fdW fdEq fdSp fdTo fdTs fd1 fd2 fd3 fd4 fd5 : FuncData} (F : Fun K "law" "law" sLaw f fd)
    (FT : Fun K "_law_tape" "_law_tape" sTape fT fdT) (bT : Binds K fdT ["script"] []) (gT : mg "_law_tape" = some (.ref fT)) (FA : Fun K "_law_at" "_law_at" sAt fA fdA) (bA : Binds K fdA ["tape", "k"] []) (gA : mg "_law_at" = some (.ref fA))
    (FZ : Fun K "_law_zeros" "_law_zeros" sZer fZ fdZ) (bZ : Binds K fdZ [] []) (gZ : mg "_law_zeros" = some (.ref fZ))
    (FWo : Fun K "_law_words" "_law_words" sWords fW fdW) (bWo : Binds K fdW ["number", "extra"] []) (gWo : mg "_law_words" = some (.ref fW))
    (FEq : Fun K "_law_equal" "_law_equal" sEq fEq fdEq) (bEq : Binds K fdEq ["told", "due"] []) (gEq : mg "_law_equal" = some (.ref fEq))
    (FSp : Fun K "_law_spoiled" "_law_spoiled" sSp fSp fdSp) (bSp : Binds K fdSp ["image", "kind", "sector"] []) (gSp : mg "_law_spoiled" = some (.ref fSp)) (GSp : FnOk P w K mg base CX0 2 fSp fdSp ["image", "kind", "sector"] spSp)
    (FTo : Fun K "_law_told" "_law_told" sTo fTo fdTo) (bTo : Binds K fdTo ["image"] []) (gTo : mg "_law_told" = some (.ref fTo)) (GTo : FnOk P w K mg base CX0 7 fTo fdTo ["image"] (spTo C Pw Pd))
    (FTs : Fun K "_law_told_size" "_law_told_size" sTs fTs fdTs) (bTs : Binds K fdTs ["blocks"] []) (gTs : mg "_law_told_size" = some (.ref fTs)) (GTs : FnOk P w K mg base CX0 5 fTs fdTs ["blocks"] spTs)
    (Gwrite : FnOk P w K mg base (L2.CX P w) 3 f1 fd1 ["self", "sector", "words"] (spWrite C CN CO Pw)) (bwrite : Binds K fd1 ["self", "sector", "words"] []) (mwrite : Meth K C "write" f1)
    (Gread : FnOk P w K mg base (L2.CX P w) 3 f2 fd2 ["self", "sector"] (spRead C CN CO)) (bread : Binds K fd2 ["self", "sector"] []) (mread : Meth K C "read" f2)
    (Gwaiting : FnOk P w K mg base CX0 1 f3 fd3 ["self"] (spWait C)) (bwaiting : Binds K fd3 ["self"] []) (mwaiting : Meth K C "waiting" f3)
    (Glasting : FnOk P w K mg base CX0 1 f4 fd4 ["self"] (spImgs C Dk.kept)) (blasting : Binds K fd4 ["self"] []) (mlasting : Meth K C "lasting" f4)
    (Gimage : FnOk P w K mg base CX0 1 f5 fd5 ["self"] (spImgs C fun d => due d.kept d.ws)) (bimage : Binds K fd5 ["self"] []) (mimage : Meth K C "image" f5)
    (ica : PySem.W.findIn K (.ref C) "__class__" = some (some (.builtin "object.__class__"))) (icn : PySem.W.specialIn K (.builtin "object.__class__") "__get__" = some (some (.builtin "getset_descriptor.__get__"))) (ict : PySem.W.takesIn K (.builtin "object.__class__") = some true) (icm : PySem.W.mroIn K C (.type "object") = some true) (ikl : PySem.W.kitOne K (.ref C) (.type "list") = some false)
    (T : Txt mg K C) : FnOk P w K mg base CX0 8 f fd ["script"] (spLaw K Pw Pd) := by
  have GT : FnOk P w K mg base CX0 1 fT fdT ["script"] (spTape K) := ok_tape FT T
  have GA : FnOk P w K mg base CX0 1 fA fdA ["tape", "k"] (spCel K) := ok_at FA T
  have GZ : FnOk P w K mg base CX0 1 fZ fdZ [] spZ := ok_zer FZ T
  have GWo : FnOk P w K mg base CX0 1 fW fdW ["number", "extra"] spWoD := ok_words FWo T
  have GEq : FnOk P w K mg base CX0 1 fEq fdEq ["told", "due"] spEq := ok_eq FEq T
  refine F.ok scLaw (fun vs H Q E h => ?_) (fun cdv A outer s H vs Q E hr h => ?_)
  · obtain ⟨a, ns, rfl, _⟩ := h
    rfl
  · obtain ⟨a, ns, rfl, hS, hlen, hTw, hTd, q⟩ := h
    refine ⟨_, (pss_cons (ps_set (i := 1) scLaw.nd rfl (Or.inl rfl) (pe_call GT (hr.mono (by decide)) (by rfl) gT FT.kp bT .nil pass0 (pa_cons (pv 0) pa_nil)))
      (pss_cons (ps_set (i := 2) scLaw.nd rfl (Or.inl rfl) (pe_ix ix_list (pe_lst (pa_cons pe_int (pa_cons pe_int (pa_cons pe_int (pa_cons pe_int (pa_cons (pe_op op_add pe_int (pe_op op_mod (pe_call GA (hr.mono (by decide)) (by rfl) gA FA.kp bA .nil pass0 (pa_cons (pv 1) (pa_cons pe_int pa_nil))) pe_int)) pa_nil)))))) (pe_op op_mod (pe_call GA (hr.mono (by decide)) (by rfl) gA FA.kp bA .nil pass0 (pa_cons (pv 1) (pa_cons pe_int pa_nil))) pe_int) (fun _ _ => rfl)))
      (pss_cons (ps_setLc (i := 3) (own := [("sector", 5)]) (g := gName 5) (tt := tYes) rfl scLaw.nd rfl rfl (sw_true rfl rfl rfl (by decide +kernel)) (pi_range1 (by rfl) T.range (pa_cons (pe_op op_mul pe_int (pv 2)) pa_nil)) (blkOk_by (own := [("sector", 5)]) (N := ["script", "tape", "blocks", "image", "k", "sector", "size", "kept", "disk", "lasting", "words"]) (sc := defScope sLaw) (by decide +kernel)) (fun _ _ _ _ _ => pg_name (i := 5) scLaw.nd rfl (Or.inl rfl)) (fun _ _ _ _ _ => pts_nil) (fun _ _ _ _ _ => (pe_call0 GZ (hr.mono (by decide)) (by rfl) gZ FZ.kp bZ .nil pass0)))
      (pss_cons (ps_for PassesOwn.never rfl (pi_range1 (by rfl) T.range (pa_cons pe_int pa_nil)) (pg_name (i := 4) scLaw.nd rfl (Or.inl rfl)) (pss_cons (ps_set (i := 5) scLaw.nd rfl (Or.inl rfl) (pe_op op_mod (pe_op op_mul (pe_call GA (hr.mono (by decide)) (by rfl) gA FA.kp bA .nil pass0 (pa_cons (pv 1) (pa_cons (pe_op op_add (pe_op op_mul pe_int (pv 4)) pe_int) pa_nil))) pe_int) (pe_op op_mul pe_int (pv 2))))
      (pss_one (ps_if (pt_cmpR op_gt (pe_call GA (hr.mono (by decide)) (by rfl) gA FA.kp bA .nil pass0 (pa_cons (pv 1) (pa_cons (pe_op op_add (pe_op op_mul pe_int (pv 4)) pe_int) pa_nil))) pe_int (nomark _)) (pss_one (ps_asg (pe_call GWo (hr.mono (by decide)) (by rfl) gWo FWo.kp bWo .nil pass0 (pa_cons (pe_call GA (hr.mono (by decide)) (by rfl) gA FA.kp bA .nil pass0 (pa_cons (pv 1) (pa_cons (pe_op op_add (pe_op op_mul pe_int (pv 4)) pe_int) pa_nil))) (pa_cons (pe_call GA (hr.mono (by decide)) (by rfl) gA FA.kp bA .nil pass0 (pa_cons (pv 1) (pa_cons (pe_op op_add (pe_op op_mul pe_int (pv 4)) pe_int) pa_nil))) pa_nil))) (pg_sub (pv 3) (pv 5) set_list))) pss_nil))))
      (pss_cons (ps_set (i := 6) scLaw.nd rfl (Or.inl rfl) (pe_ix ix_list (pe_lst (pa_cons pe_int (pa_cons pe_int (pa_cons pe_int (pa_cons (pe_un un_neg pe_int) (pa_cons pe_bl (pa_cons pe_str (pa_cons pe_non (pa_cons (pe_op op_pow pe_int pe_int) pa_nil))))))))) (pe_op op_mod (pe_call GA (hr.mono (by decide)) (by rfl) gA FA.kp bA .nil pass0 (pa_cons (pv 1) (pa_cons pe_int pa_nil))) pe_int) (fun _ _ => rfl)))
      (pss_cons (ps_if (PW.pt (pw_or (pt_cmpR (op_neD hr.units) (pe_call GTs (hr.mono (by decide)) (by rfl) gTs FTs.kp bTs .nil pass0 (pa_cons (pv 6) pa_nil)) (pe_lst (pa_cons pe_bl pa_nil)) (nomark _)) (pw_or1 (pt_cmpR (op_neD hr.units) (pe_call GTs (hr.mono (by decide)) (by rfl) gTs FTs.kp bTs .nil pass0 (pa_cons (pv 2) pa_nil)) (pv 2) (nomark _))))) (pss_one (ps_ret pe_bl)) pss_nil)
      (pss_cons (ps_if (pt_cmpR op_eq (pe_op op_mod (pe_call GA (hr.mono (by decide)) (by rfl) gA FA.kp bA .nil pass0 (pa_cons (pv 1) (pa_cons pe_int pa_nil))) pe_int) pe_int (nomark _)) (pss_one (ps_ret (pe_cmpR (op_eqD hr.units) (pe_call GTo (hr.mono (by decide)) (by rfl) gTo FTo.kp bTo .nil pass0 (pa_cons (pe_call GSp (hr.mono (by decide)) (by rfl) gSp FSp.kp bSp .nil pass0 (pa_cons (pv 3) (pa_cons (pe_op op_mod (pe_call GA (hr.mono (by decide)) (by rfl) gA FA.kp bA .nil pass0 (pa_cons (pv 1) (pa_cons pe_int pa_nil))) pe_int) (pa_cons (pe_op op_mod (pe_op op_mul (pe_call GA (hr.mono (by decide)) (by rfl) gA FA.kp bA .nil pass0 (pa_cons (pv 1) (pa_cons pe_int pa_nil))) pe_int) (pe_op op_mul pe_int (pv 2))) pa_nil)))) pa_nil)) (pe_lst (pa_cons pe_bl pa_nil)) (nomark _)))) pss_nil)
      (pss_cons (ps_setLc (i := 7) (own := [("words", 10)]) (g := gName 10) (tt := tYes) rfl scLaw.nd rfl rfl (sw_true rfl rfl rfl (by decide +kernel)) (pi_list (pv 3)) (blkOk_by (own := [("words", 10)]) (N := ["script", "tape", "blocks", "image", "k", "sector", "size", "kept", "disk", "lasting", "words"]) (sc := defScope sLaw) (by decide +kernel)) (fun _ _ _ _ _ => pg_name (i := 10) scLaw.nd rfl (Or.inl rfl)) (fun _ _ _ _ _ => pts_nil) (fun _ _ _ _ _ => (pe_callTy (r := rListS K) call_list_of (by rfl) T.list (by decide +kernel) (pa_cons (pv 10) pa_nil))))
      (pss_cons (ps_set (i := 8) scLaw.nd rfl (Or.inl rfl) (pe_call GTo (hr.mono (by decide)) (by rfl) gTo FTo.kp bTo .nil pass0 (pa_cons (pv 3) pa_nil)))
      (pss_cons (ps_if (pt_val (pe_callB call_isi (by rfl) T.isinstance (by decide +kernel) (pa_cons (pv 8) (pa_cons (pe_bltn (v := .ty "list") (u := .type "list") (by rfl) T.list (by decide +kernel) rfl) pa_nil)))) (pss_one (ps_ret pe_bl)) pss_nil)
      (pss_cons (ps_if (PW.pt (pw_or (pt_cmpR (op_neD hr.units) (pv 3) (pv 7) (nomark _)) (pw_or (pt_cmpR op_ne (pe_fld (pv 8) rfl) (pv 2) (nomark _)) (pw_or1 (pt_cmpR (op_neD hr.units) (pe_meth0 (pv 8) T.cl mwaiting Gwaiting (hr.mono (by decide)) bwaiting .nil pass0) (pe_lst pa_nil) (nomark _)))))) (pss_one (ps_ret pe_bl)) pss_nil)
      (pss_cons (ps_asg (pe_op op_add (pe_ix ix_list (pe_ix ix_list (pv 3) pe_int (fun _ _ => rfl)) pe_int (fun _ _ => rfl)) pe_int) (pg_sub (pe_ix ix_list (pv 3) pe_int (fun _ _ => rfl)) pe_int set_list))
      (pss_cons (ps_set (i := 9) scLaw.nd rfl (Or.inl rfl) (pe_meth0 (pv 8) T.cl mlasting Glasting (hr.mono (by decide)) blasting .nil pass0))
      (pss_cons (ps_if (PW.pt (pw_or (pt_cmpR op_ne (pe_callB call_len_seq (by rfl) T.len (by decide +kernel) (pa_cons (pv 9) pa_nil)) (pe_op op_mul pe_int (pv 2)) (nomark _)) (pw_or1 (pt_cmpR (op_neD hr.units) (pe_meth0 (pv 8) T.cl mimage Gimage (hr.mono (by decide)) bimage .nil pass0) (pv 7) (nomark _))))) (pss_one (ps_ret pe_bl)) pss_nil)
      (pss_cons (ps_for PassesOwn.never rfl (pi_range1 (by rfl) T.range (pa_cons (pe_op op_mul pe_int (pv 2)) pa_nil)) (pg_name (i := 5) scLaw.nd rfl (Or.inl rfl)) (pss_one (ps_if (PW.pt (pw_or (pt_not (pt_val (pe_call GEq (hr.mono (by decide)) (by rfl) gEq FEq.kp bEq .nil pass0 (pa_cons (pe_ix ix_list (pv 9) (pv 5) (fun _ _ => rfl)) (pa_cons (pe_ix ix_list (pv 7) (pv 5) (fun _ _ => rfl)) pa_nil))))) (pw_or1 (pt_not (pt_val (pe_call GEq (hr.mono (by decide)) (by rfl) gEq FEq.kp bEq .nil pass0 (pa_cons (pe_meth (pv 8) T.cl mread Gread (hr.mono (by decide)) bread .nil passL (pa_cons (pv 5) pa_nil)) (pa_cons (pe_ix ix_list (pv 7) (pv 5) (fun _ _ => rfl)) pa_nil)))))))) (pss_one (ps_ret pe_bl)) pss_nil)))
      (pss_cons (ps_expr (pe_meth (pv 8) T.cl mwrite Gwrite (hr.mono (by decide)) bwrite .nil passL (pa_cons pe_int (pa_cons (pe_call GWo (hr.mono (by decide)) (by rfl) gWo FWo.kp bWo .nil pass0 (pa_cons pe_int (pa_cons pe_int pa_nil))) pa_nil))))
      (pss_one (ps_ret (pe_and (pe_cmpR (op_eqD hr.units) (pe_meth0 (pv 8) T.cl mlasting Glasting (hr.mono (by decide)) blasting .nil pass0) (pv 7) (nomark _)) (pe_one (pe_call GEq (hr.mono (by decide)) (by rfl) gEq FEq.kp bEq .nil pass0 (pa_cons (pe_meth (pv 8) T.cl mread Gread (hr.mono (by decide)) bread .nil passL (pa_cons pe_int pa_nil)) (pa_cons (pe_call GWo (hr.mono (by decide)) (by rfl) gWo FWo.kp bWo .nil pass0 (pa_cons pe_int (pa_cons pe_int pa_nil))) pa_nil))))))))))))))))))))))), ?_⟩
    refine q_call (vs := [.ref a]) (ea_cons (ev_var rfl) ea_nil) fun H2 e2 => ⟨a, ns, rfl, ex_l e2 hS, hlen, fun ta H3 ts hta e3 h3 hg hl => ?_⟩
    have e03 := e2.trans e3
    have cc : ∀ {H' : Hp} {z : Int} {σ : L2.St} {tk : TE} (j : Nat), Ex H3 H' → z = (j : Int) → σ[1]? = some (some (.ref ta)) → Ev tk σ H' (.int z) → Ev (tCall (spCel K) [] E0 (tCons (tVar 1) (tCons tk tNil))) σ H' (.int (cellv ts j)) :=
      fun j e ez h0 hk => ev_call (ea_cons (ev_var h0) (ea_cons hk ea_nil)) (sv_cell (sq_of (e _ _ h3)) ez)
    have md : ∀ z : Int, ∀ m : Int, 0 < m → ∃ k : Nat, z % m = (k : Int) ∧ (k : Int) < m := fun z m hm => by
      obtain ⟨k, hk⟩ := Int.eq_ofNat_of_zero_le (Int.emod_nonneg z (show m ≠ 0 by omega))
      exact ⟨k, hk, by rw [← hk]; exact Int.emod_lt_of_pos z hm⟩
    obtain ⟨j, hj, hj5⟩ := md (cellv ts 0) 5 (by decide)
    obtain ⟨m1, hm1, hm1b⟩ := md (cellv ts 1) 161 (by decide)
    have hj5' : j < 5 := by omega
    have hv : ∃ n : Nat, 96 ≤ n ∧ n ≤ 256 ∧ cellv ([96, 97, 255, 256, 96 + cellv ts 1 % 161] : List Int) j = (n : Int) := by
      have c5 : j = 0 ∨ j = 1 ∨ j = 2 ∨ j = 3 ∨ j = 4 := by omega
      rcases c5 with rfl | rfl | rfl | rfl | rfl
      · exact ⟨96, by decide, by decide, rfl⟩
      · exact ⟨97, by decide, by decide, rfl⟩
      · exact ⟨255, by decide, by decide, rfl⟩
      · exact ⟨256, by decide, by decide, rfl⟩
      · exact ⟨96 + m1, by omega, by omega, by show (96 : Int) + cellv ts 1 % 161 = _; rw [hm1]; push_cast; rfl⟩
    obtain ⟨b, b0, b1, hb⟩ := hv
    refine q_asg (v := .int (b : Int)) (ev_is (ev_opL1 (el_lst (vs := ([96, 97, 255, 256, 96 + cellv ts 1 % 161] : List Int).map V.int) (ea_cons ev_c (ea_cons ev_c (ea_cons ev_c (ea_cons ev_c (ea_cons (ev_op ev_c (ev_op (cc 1 (Ex.refl _) rfl rfl ev_c) ev_c (rv_I (by show (0 : Int) < 161; decide))) rv_I0) ea_nil))))) (Nat.le_of_ble_eq_true rfl)) (fun H7 e7 => ev_op (cc 0 e7 rfl rfl ev_c) ev_c (rv_I (by show (0 : Int) < 5; decide))) (fun q H7 hq e7 => rv_ixL (sq_of hq) (at_of hj (cellv_in (by show j < 5; exact hj5'))))) (congrArg V.int hb)) fun H4 e4 => ?_
    have mul4 : ∀ {B : Hp} {σ : L2.St}, σ[2]? = some (some (.int (b : Int))) → Ev (tOp (rI CMul fun i j => V.int (i * j)) (tC (.int 4)) (tVar 2)) σ B (.int ((4 * b : Nat) : Int)) := fun h => ev_is (ev_op ev_c (ev_var h) (rv_I (.inl ⟨by decide, by decide⟩))) (congrArg V.int (by push_cast; rfl))
    refine er_asg (er_R1 (n := ((4 * b : Nat) : Int)) (R := Rz H4) (ea_cons (mul4 rfl) ea_nil) ⟨by omega, by omega⟩ (fun _ => rfl) (rz_mon _) (fun i Dd B hD eB hDn hi xs hxs hpre Q' q' => el_zer B (Ex.refl _) _ fun l B2 hl eB2 hB2 => q' (.ref l) B2 eB2 ⟨l, rfl, fresh_back eB hl, but_new hDn hl hB2⟩)) fun ia xs H5 hia e5 h5 hxl hxr => ?_
    obtain ⟨ks0, hks0⟩ := refs_of (xs := xs) fun y hy => by
      obtain ⟨i, hi⟩ := List.mem_iff_getElem?.mp hy
      obtain ⟨l, e, _⟩ := hxr i y hi
      exact ⟨l, e⟩
    subst hks0
    have e34 := e4.trans e5
    have hi3 : H3 ia = none := fresh_back e4 hia
    have im0 : Img H5 ia ks0 (fun _ => Z8) b := ⟨h5, by rw [List.length_map] at hxl; omega, b0, b1, fun i k hk => by
      obtain ⟨l, e, _, hl⟩ := hxr i (.ref k) (by rw [List.getElem?_map, hk]; rfl)
      cases e
      exact hl, fun _ => rfl, fun _ z hz => by simp [Z8] at hz; omega⟩
    have fr0 : ∀ (i : Nat) (k : Addr), ks0[i]? = some k → H3 k = none := fun i k hk => by
      obtain ⟨l, e, hn, _⟩ := hxr i (.ref k) (by rw [List.getElem?_map, hk]; rfl)
      cases e
      exact fresh_back e4 hn
    clear hxr hxl h5
    refine q_forR1 (n := 20) (ea_cons ev_c ea_nil) ⟨by decide, by decide⟩ (fun i σ' H' => ∃ y4 y5 ks f, σ' = sl a ta b ia y4 y5 none none none none none ∧ Ex H3 H' ∧ Img H' ia ks f b ∧ ∀ (i : Nat) (k : Addr), ks[i]? = some k → H3 k = none) (fun H6 e6 => ⟨none, none, ks0, _, rfl, e34.trans e6, im0.ex e6, fr0⟩) ?_ ?_
    · rintro i σ' H' hi ⟨y4, y5, ks, f, rfl, e6, im, fr⟩
      obtain ⟨s, hs, hsb⟩ := md (cellv ts (3 * i + 2) * 7) ((4 * b : Nat) : Int) (by omega)
      have hsb' : s < 4 * b := by omega
      have ix : ∀ {B : Hp} {σ : L2.St} {c : Int} (k : Nat), Ex H' B → 3 * (i : Int) + c = (k : Int) → σ[1]? = some (some (.ref ta)) → σ[4]? = some (some (.int (i : Int))) → Ev (tCall (spCel K) [] E0 (tCons (tVar 1) (tCons (tOp (rI0 fun i j => V.int (i + j)) (tOp (rI CMul fun i j => V.int (i * j)) (tC (.int 3)) (tVar 4)) (tC (.int c))) tNil))) σ B (.int (cellv ts k)) := fun k e hc h1 h4 => cc k (e6.trans e) hc h1 (ev_op (ev_op ev_c (ev_var h4) (rv_I (.inl ⟨by decide, by decide⟩))) ev_c rv_I0)
      refine q_asg (v := .int (s : Int)) (ev_is (ev_op (ev_op (ix (3 * i + 2) (Ex.refl _) (by push_cast; rfl) rfl rfl) ev_c (rv_I (.inr ⟨by decide, by decide⟩))) (mul4 rfl) (rv_I (by show (0 : Int) < ((4 * b : Nat) : Int); omega))) (congrArg V.int hs)) fun B1 c1 => ?_
      refine s_when (et_test (ev_op (ix (3 * i + 3) c1 (by push_cast; rfl) rfl rfl) ev_c rv_I0)) (fun _ B2 c2 => ?_) (fun _ B2 c2 => ⟨_, _, ks, f, rfl, (e6.trans c1).trans c2, (im.ex c1).ex c2, fr⟩)
      have im2 := (im.ex c1).ex c2
      have g3 := hg.cell (3 * i + 3)
      have g4 := hg.cell (3 * i + 4)
      refine s_setLL (j := s) im2.1 (el_words (ix (3 * i + 3) (c1.trans c2) (by push_cast; rfl) rfl rfl) (ix (3 * i + 4) (c1.trans c2) (by push_cast; rfl) rfl rfl) g3 g4) (ev_var rfl) (ev_var rfl) (by rw [List.length_map, im2.2.1]; exact hsb') fun q1 B3 hq1 c3 h3q => ?_
      have im3 := im2.ex c3
      have nia : ∀ {k : Addr} {r : List Int}, B3 k = some (.lst (r.map V.int)) → r.length = 8 → k ≠ ia := fun h h8 e => by
        rw [e, im3.1] at h
        have := congrArg List.length (HO.lst.inj (Option.some.inj h))
        rw [List.length_map, List.length_map, im3.2.1] at this
        omega
      refine ⟨_, _, ks.set s q1, fset f s (wF (cellv ts (3 * i + 3)) (cellv ts (3 * i + 4))), rfl, (((e6.trans c1).trans c2).trans c3).mut hi3, ⟨by rw [upd_same, List.map_set], by rw [List.length_set]; exact im3.2.1, b0, b1, fun n k hk => ?_, fun n => ?_, fun n => ?_⟩, fun n k hk => ?_⟩
      · by_cases hn : n = s
        · subst hn
          rw [List.getElem?_set_self (by rw [im3.2.1]; exact hsb')] at hk
          cases hk
          rw [upd_ne (nia h3q (wF_len _ _)), h3q]
          unfold fset
          rw [if_pos rfl]
        · rw [List.getElem?_set_ne (fun e => hn e.symm)] at hk
          have hk3 := im3.2.2.2.2.1 n k hk
          rw [upd_ne (nia hk3 (im3.2.2.2.2.2.1 n)), hk3]
          unfold fset
          rw [if_neg hn]
      · unfold fset
        split
        · exact wF_len _ _
        · exact im3.2.2.2.2.2.1 n
      · unfold fset
        split
        · exact wF_nn g3.1
        · exact im3.2.2.2.2.2.2 n
      · by_cases hn : n = s
        · subst hn
          rw [List.getElem?_set_self (by rw [im3.2.1]; exact hsb')] at hk
          cases hk
          exact fresh_back ((e6.trans c1).trans c2) hq1
        · rw [List.getElem?_set_ne (fun e => hn e.symm)] at hk
          exact fr n k hk
    rintro σ' H' ⟨y4, y5, ks, f, rfl, e6, im, fr⟩
    clear im0 fr0
    obtain ⟨j8, hj8, hj8b⟩ := md (cellv ts 1) 8 (by decide)
    have hj8' : j8 < 8 := by omega
    obtain ⟨V8, hV8⟩ : ∃ V8 : List V, [.int 95, .int 257, .int 0, .int (-96), .bl true, .str "96", .non, .int (10 ^ Int.toNat 9)] = V8 := ⟨_, rfl⟩
    have hsz : ∃ v k, V8[j8]? = some v ∧ (∀ B : Hp, Kd B v k) ∧ szV v = false := by
      subst hV8
      have c8 : j8 = 0 ∨ j8 = 1 ∨ j8 = 2 ∨ j8 = 3 ∨ j8 = 4 ∨ j8 = 5 ∨ j8 = 6 ∨ j8 = 7 := by omega
      rcases c8 with rfl | rfl | rfl | rfl | rfl | rfl | rfl | rfl
      · exact ⟨_, _, rfl, fun _ => .int _, rfl⟩
      · exact ⟨_, _, rfl, fun _ => .int _, rfl⟩
      · exact ⟨_, _, rfl, fun _ => .int _, rfl⟩
      · exact ⟨_, _, rfl, fun _ => .int _, rfl⟩
      · exact ⟨_, _, rfl, fun _ => .bl _, rfl⟩
      · exact ⟨_, _, rfl, fun _ => .str _, rfl⟩
      · exact ⟨_, _, rfl, fun _ => .non, rfl⟩
      · exact ⟨_, _, rfl, fun _ => .int _, by decide +kernel⟩
    obtain ⟨v, kn, hv8, hkd, hszv⟩ := hsz
    refine q_asg (v := v) (ev_opL1 (el_lst (vs := V8) (by rw [← hV8]; exact ea_cons ev_c (ea_cons ev_c (ea_cons ev_c (ea_cons (ev_un ev_c ru_neg) (ea_cons ev_c (ea_cons ev_c (ea_cons ev_c (ea_cons (ev_op ev_c ev_c (rv_I ⟨by decide, by decide, by decide⟩)) ea_nil)))))))) (by rw [← hV8]; exact Nat.le_of_ble_eq_true rfl)) (fun B c => ev_op (cc 1 (e6.trans c) rfl rfl ev_c) ev_c (rv_I (by show (0 : Int) < 8; decide))) (fun p1 B hp1 c => rv_ixL (sq_of hp1) (at_of hj8 hv8))) fun B1 c1 => ?_
    have hszb : szV (.int (b : Int)) = true := by
      show (decide (0 ≤ (b : Int)) && (decide (96 ≤ (b : Int)) && decide ((b : Int) ≤ 256))) = true
      rw [decide_eq_true (by omega), decide_eq_true (by omega), decide_eq_true (by omega)]
      rfl
    refine q_when (b := false) (et_is (et_or (et_test (ev_szNe (ev_var rfl) (hkd _) hszv)) (fun _ => et_test (ev_szOk (ev_var rfl) (ev_var rfl) hszb))) rfl) (fun h => by cases h) (fun _ B2 c2 => ?_)
    have c12 := c1.trans c2
    have im2 := im.ex c12
    have eB2 := e6.trans c12
    refine q_when (et_test (ev_op (ev_op (cc 2 eB2 rfl rfl ev_c) ev_c (rv_I (by show (0 : Int) < 2; decide))) ev_c (rv_eq rfl))) (fun _ B3 c3 => ?_) (fun _ B3 c3 => ?_)
    · obtain ⟨kd, hkd2, hkd3⟩ := md (cellv ts 3) 10 (by decide)
      obtain ⟨s, hs, hsb⟩ := md (cellv ts 4 * 3) ((4 * b : Nat) : Int) (by omega)
      have e3B := eB2.trans c3
      exact s_ret (ev_bad (ea_cons (ev_var rfl) (ea_cons (ev_is (ev_op (cc 3 e3B rfl rfl ev_c) ev_c (rv_I (by show (0 : Int) < 10; decide))) (congrArg V.int hkd2)) (ea_cons (ev_is (ev_op (ev_op (cc 4 e3B rfl rfl ev_c) ev_c (rv_I (.inr ⟨by decide, by decide⟩))) (mul4 rfl) (rv_I (by show (0 : Int) < ((4 * b : Nat) : Int); omega))) (congrArg V.int hs)) ea_nil))) (by omega) (by omega) (im2.ex c3) (hTd.mono (e03.trans e3B)) (hTw.mono (e03.trans e3B))) fun B4 c4 => q B4 ((e03.trans e3B).trans c4)
    have im3 := im2.ex c3
    have e3B := eB2.trans c3
    refine er_asg (er_L (R := Rl B3 f) (ev_var rfl) (sq_of im3.1) (by rw [List.length_map, im3.2.1]; omega) (fun _ => rfl) (rl_mon _ _) (fun i x Dd B hD eB hDn hx xs hxs hpre Q' q' => ?_)) fun kl ys B4 hkl0 c4 h4 hyl hyr => ?_
    · rw [List.getElem?_map] at hx
      obtain ⟨k, hk, rfl⟩ := Option.map_eq_some_iff.mp hx
      refine el_list (K := K) (ev_var rfl) (sq_of (eB _ _ (im3.2.2.2.2.1 i k hk))) B (Ex.refl _) _ fun l2 B2 hl2 eB2 hB2 => q' (.ref l2) B2 eB2 ⟨l2, rfl, fresh_back eB hl2, but_new hDn hl2 hB2, fun l' hl' e => ?_⟩
      obtain ⟨j, hj⟩ := List.mem_iff_getElem?.mp hl'
      obtain ⟨l3, e3, _, h6, _⟩ := hpre j _ hj
      cases e3
      have := but_ex _ _ h6
      rw [e, hl2] at this
      cases this
    have im4 := im3.ex c4
    have hyl4 : ys.length = 4 * b := by rw [hyl, List.length_map]; exact im3.2.1
    have hrow : ∀ (i : Nat) (y : V), ys[i]? = some y → ∃ l, y = .ref l ∧ B3 l = none ∧ B4 l = some (.lst ((f i).map V.int)) := fun i y hy => by
      obtain ⟨l, x1, x2, x3, _⟩ := hyr i y hy
      exact ⟨l, x1, x2, x3⟩
    obtain ⟨k0, hk0⟩ : ∃ k, ks[0]? = some k := ⟨ks[0]'(by have := im4.2.1; omega), List.getElem?_eq_getElem _⟩
    have hk03 := im3.2.2.2.2.1 0 k0 hk0
    have hk04 := im4.2.2.2.2.1 0 k0 hk0
    have f08 := im4.2.2.2.2.2.1 0
    have gF : ∀ {x : Addr} {o : HO}, B4 x = some o → x ≠ k0 → frz [k0] B4 x = some o := fun h n => by rw [frz_ne (by simpa using n)]; exact h
    have gkl : frz [k0] B4 kl = some (.lst ys) := gF h4 (fun e => by
      rw [e] at hkl0
      rw [hkl0] at hk03
      cases hk03)
    have grow' : ∀ (i : Nat) (y : V), ys[i]? = some y → ∃ l, y = .ref l ∧ frz [k0] B4 l = some (.lst ((f i).map V.int)) := fun i y hy => by
      obtain ⟨l, x1, x2, x3⟩ := hrow i y hy
      exact ⟨l, x1, gF x3 (fun e => by rw [e, hk03] at x2; cases x2)⟩
    have e4B := e03.trans (e3B.trans c4)
    have gtw : Tab (frz [k0] B4) Pw := gF (hTw.mono e4B) (fun e => by
      have := hTw.mono e4B
      rw [e] at this
      have h2 : B4 k0 = some (.ext (LT.TabPhi k0)) := this
      rw [hk04] at h2
      cases h2)
    refine q_run (vs := [.ref ia]) (ea_cons (ev_var rfl) ea_nil) fun B5 c5 => ⟨.ref ia, rfl, hTd.mono (e4B.trans c5), hTw.mono (e4B.trans c5), .inl ⟨frz [k0] B4, ia, ks, f, b, rfl, frz_ex.trans c5, gtw, im4.ex c5, fun G1 B6 p ka sa wa d S6 c6 hp w1 w2 w3 w4 D6 => ?_⟩⟩
    have c56 := c5.trans c6
    have gG := S6.g
    have kG : ∀ {B : Hp}, Ex G1 B → B kl = some (.lst ys) := fun e => e _ _ (gG _ _ gkl)
    have rG : ∀ {B : Hp}, Ex G1 B → ∀ (i : Nat) (y : V), ys[i]? = some y → ∃ l, y = .ref l ∧ B l = some (.lst ((f i).map V.int)) := fun e i y hy => by
      obtain ⟨l, x1, x2⟩ := grow' i y hy
      exact ⟨l, x1, e _ _ (gG _ _ x2)⟩
    have kept : ∀ {B : Hp}, Ex G1 B → Dp K B (.ref kl) (.list (rowsD f 0 (4 * b))) := fun e => .lst (sq_of (kG e)) (by
      rw [← hyl4]
      refine dpa_img fun i y hy => ?_
      obtain ⟨l, h1, h2⟩ := rG e i y hy
      exact ⟨l, h1, by rw [Nat.zero_add]; exact h2⟩)
    obtain ⟨dx6, ho6⟩ := D6.o
    refine q_when (b := false) (et_is (et_B (ev_isi (ev_var rfl) ev_c (fun B c => .base (.ins (c _ _ ho6) T.cl ica icn ict icm)) ikl)) rfl) (fun h => by cases h) (fun _ B7 c7 => ?_)
    have im7 := (im4.ex c56).ex c7
    have D7 := D6.ex c7
    have imgD : Dp K B7 (.ref ia) (.list (rowsD f 0 (4 * b))) := .lst (sq_of im7.1) (by
      have e : 4 * b = (ks.map V.ref).length := by rw [List.length_map, im7.2.1]
      rw [e]
      refine dpa_img fun i y hy => ?_
      rw [List.getElem?_map] at hy
      obtain ⟨k, hk, rfl⟩ := Option.map_eq_some_iff.mp hy
      exact ⟨k, rfl, by rw [Nat.zero_add]; exact im7.2.2.2.2.1 i k hk⟩)
    obtain ⟨dx7, ho7⟩ := D7.o
    refine q_when (b := false) (et_is (et_or (et_test (ev_op (ev_var rfl) (ev_var rfl) (rv_neD imgD (kept D7.g) (sh_lst sh_img) (by decide)))) (fun _ => et_or (et_test (ev_op (ev_fld (ev_var rfl) ho7 T.cl T.nb d_b) (ev_var rfl) (rv_ne rfl))) (fun _ => et_test (ev_waitNe D7 w1 (ev_var rfl))))) (by simp)) (fun h => by cases h) (fun _ B8 c8 => ?_)
    have im8 := im7.ex c8
    have D8 := D7.ex c8
    have hk08 := im8.2.2.2.2.1 0 k0 hk0
    have row0 : ∀ {B : Hp} {σ : L2.St}, Ex B8 B → σ[3]? = some (some (.ref ia)) → Ev (tOp (rIxL K) (tVar 3) (tC (.int 0))) σ B (.ref k0) := fun e h => ev_op (ev_var h) ev_c (rv_ixL (sq_of (e _ _ im8.1)) (at_of (j := 0) rfl (by rw [List.getElem?_map, hk0]; rfl)))
    have n8 : ∀ {x : Addr} {zs : List V}, B8 x = some (.lst zs) → zs.length ≠ 8 → k0 ≠ x := fun h hz e => by
      rw [← e, hk08] at h
      have := congrArg List.length (HO.lst.inj (Option.some.inj h))
      rw [List.length_map, f08] at this
      exact hz this.symm
    have nk1 : k0 ≠ p := fun e => by
      obtain ⟨_, ho⟩ := D8.o
      rw [← e, hk08] at ho
      cases ho
    have nk2 : k0 ≠ ka := by
      obtain ⟨zs, x1, x2, _⟩ := D8.k
      exact n8 x1 (by rw [List.length_map, x2]; omega)
    have nk3 : k0 ≠ sa := by
      obtain ⟨zs, x1, x2, _⟩ := D8.s
      exact n8 x1 (by rw [List.length_map, x2]; omega)
    have nk4 : k0 ≠ wa := by
      obtain ⟨zs, x1, x2, _⟩ := D8.w
      exact n8 x1 (by rw [List.length_map, x2, w1]; decide)
    have gk0 : G1 k0 = none := S6.n k0 (by rw [c5 _ _ hk04]; exact fun z => by cases z) (if_pos (List.mem_singleton.mpr rfl))
    refine q_setL (j := 0) (v := .int (cellv (f 0) 0 + 1)) hk08 (ev_op (ev_w 0 (row0 (Ex.refl _) rfl) ev_c rfl hk08 (by rw [f08]; decide)) ev_c rv_I0) (row0 (Ex.refl _) rfl) ev_c (by rw [List.length_map, f08]; decide) fun B9 c9 => ?_
    have D9 := (D8.ex c9).upd (o := .lst (((f 0).map V.int).set 0 (.int (cellv (f 0) 0 + 1)))) gk0 nk1 nk2 nk3 nk4
    have hHk : H k0 = none := fresh_back e03 (fr 0 k0 hk0)
    have eHG : Ex H G1 := fun x o h => gG _ _ (gF (e4B _ _ h) fun e => by
      rw [e, hHk] at h
      cases h)
    generalize upd B9 k0 (.lst (((f 0).map V.int).set 0 (.int (cellv (f 0) 0 + 1)))) = B10 at *
    have dN : ∀ s, due d.kept d.ws s = d.kept s := fun s => by rw [w1]; rfl
    obtain ⟨dx9, ho9⟩ := D9.o
    refine q_mA (ev_var rfl) ho9 (d_no ⟨by decide +kernel, by decide +kernel, by decide +kernel, by decide +kernel, by decide +kernel, by decide +kernel⟩) ea_nil fun B11 c11 => ⟨G1, p, ka, sa, wa, b, d, rfl, D9.ex c11, fun Li zs B12 hLi c12 h12 zn zr => ?_⟩
    have D12 := (D9.ex c11).ex c12
    refine q_when (b := false) (et_is (et_or (et_test (ev_op (ev_len (ev_var rfl) (sq_of h12)) (mul4 rfl) (rv_ne rfl))) (fun _ => et_test (ev_imgNe (f := f) ⟨by decide +kernel, by decide +kernel, by decide +kernel, by decide +kernel, by decide +kernel, by decide +kernel⟩ D12 (fun s hs => by rw [dN]; exact w4 s hs) (ev_var rfl) (ev_var rfl) (kept D12.g)))) (by rw [zn]; simp)) (fun h => by cases h) (fun _ B13 c13 => ?_)
    have D13 := D12.ex c13
    have f8 := im.2.2.2.2.2.1
    refine q_forR1 (n := ((4 * b : Nat) : Int)) (ea_cons (mul4 rfl) ea_nil) ⟨by omega, by omega⟩ (fun i σ' H' => ∃ y5, σ' = sl a ta b ia y4 y5 (some v) (some (.ref kl)) (some (.ref p)) (some (.ref Li)) none ∧ Ex B13 H') (fun B14 c14 => ⟨_, rfl, c14⟩) ?_ ?_
    · rintro i σ' H' hi ⟨y5, rfl, eI⟩
      have hi4 : i < 4 * b := by omega
      have DI := D13.ex eI
      obtain ⟨l1, hl1, _, hl1b, _⟩ := zr i _ (List.getElem?_eq_getElem (show i < zs.length by omega))
      obtain ⟨l2, hl2, hl2b⟩ := rG DI.g i _ (List.getElem?_eq_getElem (show i < ys.length by omega))
      have hl1c := (c13.trans eI) _ _ hl1b
      rw [w4 i hi4] at hl1c
      have hLi' := (c13.trans eI) _ _ h12
      have kE : ∀ {B : Hp}, Ex H' B → EvF (tOp (rIxL K) (tVar 7) (tVar 5)) (sl a ta b ia y4 (some (.int (i : Int))) (some v) (some (.ref kl)) (some (.ref p)) (some (.ref Li)) none) B ((f i).map V.int) := fun e => ef_ref (ev_op (ev_var rfl) (ev_var rfl) (rv_ixL (sq_of (e _ _ (kG DI.g))) (atI_nat (by rw [List.getElem?_eq_getElem (show i < ys.length by omega), hl2])))) (e _ _ hl2b)
      refine s_when (b := false) (et_is (et_or (et_not (et_B (ev_eqF (ns := f i) (ef_ref (ev_op (ev_var rfl) (ev_var rfl) (rv_ixL (sq_of hLi') (atI_nat (by rw [List.getElem?_eq_getElem (show i < zs.length by omega), hl1])))) hl1c) (kE (Ex.refl _)) (f8 i)))) (fun _ => et_not (et_B (ev_eqF (ns := f i) (el_f (el_is (el_rd (s := i) DI w2 hi4 (ev_var rfl) (ev_var rfl)) (by rw [dN, w4 i hi4]))) (kE (Ex.refl _)) (f8 i))))) rfl) (fun h => by cases h) (fun _ B b => ⟨_, rfl, eI.trans b⟩)
    · rintro σ' H' ⟨y5', rfl, eI⟩
      have DI := D13.ex eI
      obtain ⟨dxI, hoI⟩ := DI.o
      refine q_m2L (v := .int ((3 : Nat) : Int)) (ev_var rfl) hoI (d_no ⟨by decide +kernel, by decide +kernel, by decide +kernel, by decide +kernel, by decide +kernel, by decide +kernel⟩) ev_c (el_words (a := 5) (b := 6) ev_c ev_c ⟨by decide, by decide⟩ ⟨by decide, by decide⟩) fun c B14 hc c14 hcx => ⟨G1, p, ka, sa, wa, b, d, _, c, _, rfl, DI.ex c14, hcx, kd_ints _, gtw.mono gG, by rw [w1]; decide, (fun e => by rw [e, hoI] at hc; cases hc), fun hno => absurd ⟨⟨by omega, by omega⟩, by rw [List.length_map]; exact wF_len _ _, ints_wd (wF_nn (by decide))⟩ hno, fun _ s ns hs hs4 hns h8 hnn G2 B15 S15 fr15 D15 => ?_, fun hno _ => absurd ⟨w2, by rw [w3]; exact fun z => by cases z⟩ hno⟩
      obtain rfl : 3 = s := by omega
      obtain rfl := ints_inj hns
      have g12 := S15.g
      refine s_ret (ev_andV (a := true) (b := true) (ev_imgEq (f := f) ⟨by decide +kernel, by decide +kernel, by decide +kernel, by decide +kernel, by decide +kernel, by decide +kernel⟩ D15 (fun s hs => w4 s hs) (ev_var rfl) (ev_var rfl) (kept (g12.trans D15.g))) (fun _ => ev_eqF (ns := wF 5 6) (el_f (el_is (el_rd (s := 3) D15 w2 (by omega) (ev_var rfl) ev_c) ?_)) (el_f (el_words (a := 5) (b := 6) ev_c ev_c ⟨by decide, by decide⟩ ⟨by decide, by decide⟩)) (wF_len _ _))) fun B16 c16 => q B16 (eHG.trans ((g12.trans D15.g).trans c16))
      show (due d.kept (d.ws ++ [(3, wF 5 6)]) 3).map V.int = _
      rw [due_snoc]
      unfold fset
      rw [if_pos rfl]
end

end K06

set_option Elab.async false
set_option linter.all false
set_option maxRecDepth 100000
set_option maxHeartbeats 4000000
namespace K06
open PySem PySem.Spec PyProof.Rows L2 Evl LK LT LG LS LQ LX LO LN LP LH LV StX
def d1 : He.DefD := ⟨("is_word", none), "is_word", "is_word", defArgs sIw, defBody sIw, defScope sIw, [], []⟩
def d2 : He.DefD := ⟨("are_words", none), "are_words", "are_words", defArgs sAre, defBody sAre, defScope sAre, [], []⟩
def d3 : He.DefD := ⟨("is_size", none), "is_size", "is_size", defArgs sSize, defBody sSize, defScope sSize, [], []⟩
def d4 : He.DefD := ⟨("Disk", some "__init__"), "__init__", "Disk.__init__", defArgs sInit, defBody sInit, defScope sInit, [], []⟩
def d5 : He.DefD := ⟨("Disk", some "read"), "read", "Disk.read", defArgs sRead, defBody sRead, defScope sRead, [], []⟩
def d6 : He.DefD := ⟨("Disk", some "write"), "write", "Disk.write", defArgs sWrite, defBody sWrite, defScope sWrite, [], []⟩
def d7 : He.DefD := ⟨("Disk", some "flush"), "flush", "Disk.flush", defArgs sFlush, defBody sFlush, defScope sFlush, [], []⟩
def d8 : He.DefD := ⟨("Disk", some "waiting"), "waiting", "Disk.waiting", defArgs sWait, defBody sWait, defScope sWait, [], []⟩
def d9 : He.DefD := ⟨("Disk", some "image"), "image", "Disk.image", defArgs sImg, defBody sImg, defScope sImg, [], []⟩
def d10 : He.DefD := ⟨("Disk", some "lasting"), "lasting", "Disk.lasting", defArgs sLast, defBody sLast, defScope sLast, [], []⟩
def d11 : He.DefD := ⟨("Disk", some "_is_sector"), "_is_sector", "Disk._is_sector", defArgs sSec, defBody sSec, defScope sSec, [], []⟩
def d12 : He.DefD := ⟨("Disk", some "_begin_operation"), "_begin_operation", "Disk._begin_operation", defArgs sBeg, defBody sBeg, defScope sBeg, [], []⟩
def d13 : He.DefD := ⟨("Disk", some "_settle_writes"), "_settle_writes", "Disk._settle_writes", defArgs sSet, defBody sSet, defScope sSet, [], []⟩
def d14 : He.DefD := ⟨("disk_from", none), "disk_from", "disk_from", defArgs sDf, defBody sDf, defScope sDf, [], []⟩
def d15 : He.DefD := ⟨("_law_tape", none), "_law_tape", "_law_tape", defArgs sTape, defBody sTape, defScope sTape, [], []⟩
def d16 : He.DefD := ⟨("_law_at", none), "_law_at", "_law_at", defArgs sAt, defBody sAt, defScope sAt, [], []⟩
def d17 : He.DefD := ⟨("_law_zeros", none), "_law_zeros", "_law_zeros", defArgs sZer, defBody sZer, defScope sZer, [], []⟩
def d18 : He.DefD := ⟨("_law_words", none), "_law_words", "_law_words", defArgs sWords, defBody sWords, defScope sWords, [], []⟩
def d19 : He.DefD := ⟨("_law_equal", none), "_law_equal", "_law_equal", defArgs sEq, defBody sEq, defScope sEq, [], []⟩
def d20 : He.DefD := ⟨("_law_spoiled", none), "_law_spoiled", "_law_spoiled", defArgs sSp, defBody sSp, defScope sSp, [], []⟩
def d21 : He.DefD := ⟨("_law_told", none), "_law_told", "_law_told", defArgs sTo, defBody sTo, defScope sTo, [], []⟩
def d22 : He.DefD := ⟨("_law_told_size", none), "_law_told_size", "_law_told_size", defArgs sTs, defBody sTs, defScope sTs, [], []⟩
def d23 : He.DefD := ⟨("law", none), "law", "law", defArgs sLaw, defBody sLaw, defScope sLaw, [], []⟩
def fnL : List He.DefD := [d1, d2, d3, d4, d5, d6, d7, d8, d9, d10, d11, d12, d13, d14, d15, d16, d17, d18, d19, d20, d21, d22, d23]
def faL : List He.Fa := ([.glo "is_word", .glo "are_words", .glo "is_size", .meth "Disk" "read", .meth "Disk" "write", .meth "Disk" "flush", .meth "Disk" "waiting", .meth "Disk" "image", .meth "Disk" "lasting", .meth "Disk" "_is_sector", .meth "Disk" "_begin_operation", .meth "Disk" "_settle_writes", .glo "disk_from", .glo "_law_tape", .glo "_law_at", .glo "_law_zeros", .glo "_law_words", .glo "_law_equal", .glo "_law_spoiled", .glo "_law_told", .glo "_law_told_size", .glo "law", .free "len", .free "range", .free "tuple", .free "list", .free "dict", .free "isinstance", .free "zip", .free "abs"] : List He.Fa) ++ ([.free "int", .free "bool", .free "min", .free "all", .free "divmod", .free "enumerate", .int "MIN_BLOCKS" 96, .int "MAX_BLOCKS" 256, .int "SECTOR_WORDS" 8, .int "BLOCK_SECTORS" 4, .glo "Disk", .cls "Disk", .keep "Disk", .noat "Disk" "blocks", .noat "Disk" "_kept", .noat "Disk" "_shown", .noat "Disk" "_writes", .noat "Disk" "_powered", .noat "Disk" "_before_failure", .mkr "Disk", .glo "NotValid", .exc "NotValid", .glo "PowerOff", .exc "PowerOff", .glo "BadImage", .exc "BadImage", .glo "LaminaError", .exc "LaminaError"] : List He.Fa)
def tfL : List He.Defn := [("are_words", none), ("disk_from", none)]
def exL (K : PySem.W.Frag) : Bool := (HE.dictC K "NotValid" && (HE.dictC K "PowerOff" && (HE.dictC K "BadImage" && (HE.dictC K "LaminaError" && (HE.subC K "NotValid" "LaminaError" true && (HE.subC K "NotValid" "NotValid" true && (HE.subC K "NotValid" "BadImage" false && (HE.subC K "BadImage" "LaminaError" true && (HE.subC K "BadImage" "BadImage" true && (HE.subC K "BadImage" "NotValid" false && (HE.excC K "NotValid" && (HE.excC K "BadImage" && (HE.eqS (PySem.W.findIn K (.ref (He.ga K "Disk")) "__class__") (some (some (.builtin "object.__class__"))) && (HE.eqS (PySem.W.specialIn K (.builtin "object.__class__") "__get__") (some (some (.builtin "getset_descriptor.__get__"))) && (decide (PySem.W.takesIn K (.builtin "object.__class__") = some true) && (decide (PySem.W.mroIn K (He.ga K "Disk") (.type "object") = some true) && (decide (PySem.W.kitOne K (.ref (He.ga K "Disk")) (.type "list") = some false) && true)))))))))))))))))
abbrev R : PySem.W.OpenRow := PySem.W.OpenLaw.row PySem.Challenge.rw_laminae_k06_disk_from_image
abbrev hk : PySem.W.Hook := He.hookX 5 faL fnL [] tfL exL
def ob (s : PySem.W.SharedT) : He.AlX := He.obsX 5 faL fnL [] tfL exL (HandSHeadRun.getT s)
theorem ob_eq (s : PySem.W.SharedT) : ob s = hk.obs s.abs := He.obsX_eq (HandSHeadRun.getT_eq s)
def looseL : List PySem.Str := (["_wall", "LaminaError", "NotValid", "PowerOff", "BadImage", "is_word", "are_words", "MIN_BLOCKS", "MAX_BLOCKS", "SECTOR_WORDS", "BLOCK_SECTORS", "is_size", "Disk", "disk_from", "_law_tape", "_law_at", "_law_zeros", "_law_words", "_law_sector", "_law_due", "_law_after_cut", "_law_equal", "_law_choices", "_law_spoiled", "_law_told", "_law_told_size"] : List PySem.Str)
set_option maxHeartbeats 0 in
theorem run (w : World) : HandSHeadRun.RunEq R (PySem.W.view R.prog [30]) hk ob 4000 looseL w := by
  intro os
  kernel_rfl
theorem facts {l : PySem.W.OpenLaw} {w : World} {K : PySem.W.Frag} {h : Heap} {mg : Str → Option Value} {fa : Addr} (X : K.In h) (G : h.Ns mainGlobals mg) (hfa : mg ("law" : Str) = some (.ref fa)) (c : He.SaysX faL fnL [] tfL exL w h K) :
    ∃ (fd : FuncData) (cs : List (Addr × Addr)) (sp : Sp), (∀ p ∈ cs, h.get? p.2 = some { cls := .none, data := .fields #[] } ∧ K.lookup p.2 = none ∧ PySem.W.CodeHd h p.1 p.2) ∧ (∀ (s : Shared) (u : Value), BindsTo s fd ⟨[u], []⟩ [("script", u)]) ∧
        (∀ (H : Hp) (a : Addr) (ns : List Int), ns.length ≤ 63 → (∀ p ∈ cs, LT.Tab H p.2) → SqL K H a (ns.map V.int) → ∀ Q : VK, (∀ H', Ex H H' → Q (.bl true) H') → sp [.ref a] H Q fun _ _ _ => False) ∧
        ∀ base : Heap, K.In base → base.Ns mainGlobals mg → (∀ p ∈ cs, LamX.TabB base mg p.1 p.2) → FnOk l.prog w K mg base CX0 8 fa fd ["script"] sp := by
  have cd := c.t.d
  obtain ⟨fd1, F1⟩ := cd.def_ 0 (d := d1) rfl
  have F1 := HE.fun_of (st := sIw) F1
  have m1 := He.glo_ok X G (cd.fact 0 (f := .glo "is_word") rfl)
  have b1 := F1.binds (ps := ["value"]) fun _ _ _ _ _ _ us hl => match us, hl with | [_], _ => rfl
  obtain ⟨fd2, F2⟩ := cd.def_ 1 (d := d2) rfl
  have F2 := HE.fun_of (st := sAre) F2
  have F2 := HE.funC_of F2
  have m2 := He.glo_ok X G (cd.fact 1 (f := .glo "are_words") rfl)
  have b2 := F2.fun.binds (ps := ["values", "many"]) fun _ _ _ _ _ _ us hl => match us, hl with | [_, _], _ => rfl
  obtain ⟨fd3, F3⟩ := cd.def_ 2 (d := d3) rfl
  have F3 := HE.fun_of (st := sSize) F3
  have m3 := He.glo_ok X G (cd.fact 2 (f := .glo "is_size") rfl)
  have b3 := F3.binds (ps := ["blocks"]) fun _ _ _ _ _ _ us hl => match us, hl with | [_], _ => rfl
  obtain ⟨fd4, F4⟩ := cd.def_ 3 (d := d4) rfl
  have F4 := HE.fun_of (st := sInit) F4
  have b4 := F4.binds (ps := ["self", "blocks"]) fun _ _ _ _ _ _ us hl => match us, hl with | [_, _], _ => rfl
  obtain ⟨fd5, F5⟩ := cd.def_ 4 (d := d5) rfl
  have F5 := HE.fun_of (st := sRead) F5
  have m5 := He.meth_ok (cd.fact 3 (f := .meth "Disk" "read") rfl)
  have b5 := F5.binds (ps := ["self", "sector"]) fun _ _ _ _ _ _ us hl => match us, hl with | [_, _], _ => rfl
  obtain ⟨fd6, F6⟩ := cd.def_ 5 (d := d6) rfl
  have F6 := HE.fun_of (st := sWrite) F6
  have m6 := He.meth_ok (cd.fact 4 (f := .meth "Disk" "write") rfl)
  have b6 := F6.binds (ps := ["self", "sector", "words"]) fun _ _ _ _ _ _ us hl => match us, hl with | [_, _, _], _ => rfl
  obtain ⟨fd7, F7⟩ := cd.def_ 6 (d := d7) rfl
  have F7 := HE.fun_of (st := sFlush) F7
  have m7 := He.meth_ok (cd.fact 5 (f := .meth "Disk" "flush") rfl)
  have b7 := F7.binds (ps := ["self"]) fun _ _ _ _ _ _ us hl => match us, hl with | [_], _ => rfl
  obtain ⟨fd8, F8⟩ := cd.def_ 7 (d := d8) rfl
  have F8 := HE.fun_of (st := sWait) F8
  have m8 := He.meth_ok (cd.fact 6 (f := .meth "Disk" "waiting") rfl)
  have b8 := F8.binds (ps := ["self"]) fun _ _ _ _ _ _ us hl => match us, hl with | [_], _ => rfl
  obtain ⟨fd9, F9⟩ := cd.def_ 8 (d := d9) rfl
  have F9 := HE.fun_of (st := sImg) F9
  have m9 := He.meth_ok (cd.fact 7 (f := .meth "Disk" "image") rfl)
  have b9 := F9.binds (ps := ["self"]) fun _ _ _ _ _ _ us hl => match us, hl with | [_], _ => rfl
  obtain ⟨fd10, F10⟩ := cd.def_ 9 (d := d10) rfl
  have F10 := HE.fun_of (st := sLast) F10
  have m10 := He.meth_ok (cd.fact 8 (f := .meth "Disk" "lasting") rfl)
  have b10 := F10.binds (ps := ["self"]) fun _ _ _ _ _ _ us hl => match us, hl with | [_], _ => rfl
  obtain ⟨fd11, F11⟩ := cd.def_ 10 (d := d11) rfl
  have F11 := HE.fun_of (st := sSec) F11
  have m11 := He.meth_ok (cd.fact 9 (f := .meth "Disk" "_is_sector") rfl)
  have b11 := F11.binds (ps := ["self", "sector"]) fun _ _ _ _ _ _ us hl => match us, hl with | [_, _], _ => rfl
  obtain ⟨fd12, F12⟩ := cd.def_ 11 (d := d12) rfl
  have F12 := HE.fun_of (st := sBeg) F12
  have m12 := He.meth_ok (cd.fact 10 (f := .meth "Disk" "_begin_operation") rfl)
  have b12 := F12.binds (ps := ["self"]) fun _ _ _ _ _ _ us hl => match us, hl with | [_], _ => rfl
  obtain ⟨fd13, F13⟩ := cd.def_ 12 (d := d13) rfl
  have F13 := HE.fun_of (st := sSet) F13
  have m13 := He.meth_ok (cd.fact 11 (f := .meth "Disk" "_settle_writes") rfl)
  have b13 := F13.binds (ps := ["self", "choices"]) fun _ _ _ _ _ _ us hl => match us, hl with | [_, _], _ => rfl
  obtain ⟨fd14, F14⟩ := cd.def_ 13 (d := d14) rfl
  have F14 := HE.fun_of (st := sDf) F14
  have F14 := HE.funC_of F14
  have m14 := He.glo_ok X G (cd.fact 12 (f := .glo "disk_from") rfl)
  have b14 := F14.fun.binds (ps := ["image"]) fun _ _ _ _ _ _ us hl => match us, hl with | [_], _ => rfl
  obtain ⟨fd15, F15⟩ := cd.def_ 14 (d := d15) rfl
  have F15 := HE.fun_of (st := sTape) F15
  have m15 := He.glo_ok X G (cd.fact 13 (f := .glo "_law_tape") rfl)
  have b15 := F15.binds (ps := ["script"]) fun _ _ _ _ _ _ us hl => match us, hl with | [_], _ => rfl
  obtain ⟨fd16, F16⟩ := cd.def_ 15 (d := d16) rfl
  have F16 := HE.fun_of (st := sAt) F16
  have m16 := He.glo_ok X G (cd.fact 14 (f := .glo "_law_at") rfl)
  have b16 := F16.binds (ps := ["tape", "k"]) fun _ _ _ _ _ _ us hl => match us, hl with | [_, _], _ => rfl
  obtain ⟨fd17, F17⟩ := cd.def_ 16 (d := d17) rfl
  have F17 := HE.fun_of (st := sZer) F17
  have m17 := He.glo_ok X G (cd.fact 15 (f := .glo "_law_zeros") rfl)
  have b17 := F17.binds (ps := []) fun _ _ _ _ _ _ us hl => match us, hl with | [], _ => rfl
  obtain ⟨fd18, F18⟩ := cd.def_ 17 (d := d18) rfl
  have F18 := HE.fun_of (st := sWords) F18
  have m18 := He.glo_ok X G (cd.fact 16 (f := .glo "_law_words") rfl)
  have b18 := F18.binds (ps := ["number", "extra"]) fun _ _ _ _ _ _ us hl => match us, hl with | [_, _], _ => rfl
  obtain ⟨fd19, F19⟩ := cd.def_ 18 (d := d19) rfl
  have F19 := HE.fun_of (st := sEq) F19
  have m19 := He.glo_ok X G (cd.fact 17 (f := .glo "_law_equal") rfl)
  have b19 := F19.binds (ps := ["told", "due"]) fun _ _ _ _ _ _ us hl => match us, hl with | [_, _], _ => rfl
  obtain ⟨fd20, F20⟩ := cd.def_ 19 (d := d20) rfl
  have F20 := HE.fun_of (st := sSp) F20
  have m20 := He.glo_ok X G (cd.fact 18 (f := .glo "_law_spoiled") rfl)
  have b20 := F20.binds (ps := ["image", "kind", "sector"]) fun _ _ _ _ _ _ us hl => match us, hl with | [_, _, _], _ => rfl
  obtain ⟨fd21, F21⟩ := cd.def_ 20 (d := d21) rfl
  have F21 := HE.fun_of (st := sTo) F21
  have m21 := He.glo_ok X G (cd.fact 19 (f := .glo "_law_told") rfl)
  have b21 := F21.binds (ps := ["image"]) fun _ _ _ _ _ _ us hl => match us, hl with | [_], _ => rfl
  obtain ⟨fd22, F22⟩ := cd.def_ 21 (d := d22) rfl
  have F22 := HE.fun_of (st := sTs) F22
  have m22 := He.glo_ok X G (cd.fact 20 (f := .glo "_law_told_size") rfl)
  have b22 := F22.binds (ps := ["blocks"]) fun _ _ _ _ _ _ us hl => match us, hl with | [_], _ => rfl
  obtain ⟨fd23, F23⟩ := cd.def_ 22 (d := d23) rfl
  have F23 := HE.fun_of (st := sLaw) F23
  have m23 := He.glo_ok X G (cd.fact 21 (f := .glo "law") rfl)
  have bl := HE.binds1 (y := "script") F23 fun _ _ _ _ _ _ _ => rfl
  have e := hfa.symm.trans m23
  cases e
  have clC := He.cls_ok (cd.fact 41 (f := .cls "Disk") rfl)
  have n0C := He.noat_ok (cd.fact 43 (f := .noat "Disk" "blocks") rfl)
  have n1C := He.noat_ok (cd.fact 44 (f := .noat "Disk" "_kept") rfl)
  have n2C := He.noat_ok (cd.fact 45 (f := .noat "Disk" "_shown") rfl)
  have n3C := He.noat_ok (cd.fact 46 (f := .noat "Disk" "_writes") rfl)
  have n4C := He.noat_ok (cd.fact 47 (f := .noat "Disk" "_powered") rfl)
  have n5C := He.noat_ok (cd.fact 48 (f := .noat "Disk" "_before_failure") rfl)
  have mgC := He.glo_ok X G (cd.fact 40 (f := .glo "Disk") rfl)
  have MC := He.mkr_ok (cd.fact 49 (f := .mkr "Disk") rfl)
  have ex := c.more
  unfold exL at ex
  obtain ⟨xdN, ex⟩ := He.ba ex
  obtain ⟨xdO, ex⟩ := He.ba ex
  obtain ⟨xdB, ex⟩ := He.ba ex
  obtain ⟨xdL, ex⟩ := He.ba ex
  obtain ⟨sNL, ex⟩ := He.ba ex
  obtain ⟨sNN, ex⟩ := He.ba ex
  obtain ⟨sNB, ex⟩ := He.ba ex
  obtain ⟨sBL, ex⟩ := He.ba ex
  obtain ⟨sBB, ex⟩ := He.ba ex
  obtain ⟨sBN, ex⟩ := He.ba ex
  obtain ⟨xfN, ex⟩ := He.ba ex
  obtain ⟨xfB, ex⟩ := He.ba ex
  obtain ⟨xica, ex⟩ := He.ba ex
  obtain ⟨xicn, ex⟩ := He.ba ex
  obtain ⟨xict, ex⟩ := He.ba ex
  obtain ⟨xicm, ex⟩ := He.ba ex
  obtain ⟨xikl, ex⟩ := He.ba ex
  have XN := HE.xc_of X G (cd.fact 50 (f := .glo "NotValid") rfl) (cd.fact 51 (f := .exc "NotValid") rfl) xdN
  have XCN := HE.excC_ok xfN
  have XO := HE.xc_of X G (cd.fact 52 (f := .glo "PowerOff") rfl) (cd.fact 53 (f := .exc "PowerOff") rfl) xdO
  have XB := HE.xc_of X G (cd.fact 54 (f := .glo "BadImage") rfl) (cd.fact 55 (f := .exc "BadImage") rfl) xdB
  have XCB := HE.excC_ok xfB
  have XL := HE.xc_of X G (cd.fact 56 (f := .glo "LaminaError") rfl) (cd.fact 57 (f := .exc "LaminaError") rfl) xdL
  have sNL := HE.subC_ok sNL
  have sNN := HE.subC_ok sNN
  have sNB := HE.subC_ok sNB
  have sBL := HE.subC_ok sBL
  have sBB := HE.subC_ok sBB
  have sBN := HE.subC_ok sBN
  have xica := HE.eqS_ok xica
  have xicn := HE.eqS_ok xicn
  have xict := of_decide_eq_true xict
  have xicm := of_decide_eq_true xicm
  have xikl := of_decide_eq_true xikl
  have T : Txt mg K (He.ga K "Disk") := ⟨He.free_ok X G (cd.fact 22 (f := .free "len") rfl), He.free_ok X G (cd.fact 23 (f := .free "range") rfl), He.free_ok X G (cd.fact 24 (f := .free "tuple") rfl), He.free_ok X G (cd.fact 25 (f := .free "list") rfl), He.free_ok X G (cd.fact 26 (f := .free "dict") rfl), He.free_ok X G (cd.fact 27 (f := .free "isinstance") rfl), He.free_ok X G (cd.fact 28 (f := .free "zip") rfl), He.free_ok X G (cd.fact 29 (f := .free "abs") rfl), He.free_ok X G (cd.fact 30 (f := .free "int") rfl), He.free_ok X G (cd.fact 31 (f := .free "bool") rfl), He.free_ok X G (cd.fact 32 (f := .free "min") rfl), He.free_ok X G (cd.fact 33 (f := .free "all") rfl), He.free_ok X G (cd.fact 34 (f := .free "divmod") rfl), He.free_ok X G (cd.fact 35 (f := .free "enumerate") rfl), He.int_ok X G (cd.fact 36 (f := .int "MIN_BLOCKS" 96) rfl), He.int_ok X G (cd.fact 37 (f := .int "MAX_BLOCKS" 256) rfl), He.int_ok X G (cd.fact 38 (f := .int "SECTOR_WORDS" 8) rfl), He.int_ok X G (cd.fact 39 (f := .int "BLOCK_SECTORS" 4) rfl), clC, n0C, n1C, n2C, n3C, n4C, n5C, mgC⟩
  refine ⟨fd23, [He.cT K ("are_words", none), He.cT K ("disk_from", none)], spLaw K (He.cT K ("are_words", none)).2 (He.cT K ("disk_from", none)).2, fun p hp => ?_, bl, fun H a ns hl hT hS Q q => ⟨a, ns, rfl, hS, hl, hT (He.cT K ("are_words", none)) (by simp), hT (He.cT K ("disk_from", none)) (by simp), q⟩, fun base hKb hGb hTB => ?_⟩
  · obtain ⟨t, ht, rfl⟩ : ∃ t ∈ tfL, He.cT K t = p := by
      simp only [List.mem_cons, List.not_mem_nil, or_false] at hp
      rcases hp with hp | hp
      · exact ⟨("are_words", none), by simp [tfL], hp.symm⟩
      · exact ⟨("disk_from", none), by simp [tfL], hp.symm⟩
    exact ⟨c.empty t ht, c.out t ht, PySem.W.codeHd_of_K X (c.hd t ht)⟩
  · have B1 : LamX.TabB base mg (He.codeOf K ("are_words", none)) (He.cT K ("are_words", none)).2 := hTB (He.cT K ("are_words", none)) (by simp)
    have B2 : LamX.TabB base mg (He.codeOf K ("disk_from", none)) (He.cT K ("disk_from", none)).2 := hTB (He.cT K ("disk_from", none)) (by simp)
    exact (have GAw := ok_are (P := l.prog) (w := w) (base := base) F2 B1 T F1 b1 m1; have GAw2 := ok_are2 (P := l.prog) (w := w) (base := base) F2 B1 T F1 b1 m1; have GSz := ok_size (P := l.prog) (w := w) (base := base) F3 F1 b1 m1 T; have GSz2 := ok_size2 (P := l.prog) (w := w) (base := base) F3 F1 b1 m1 T; have GSec := ok_sec (P := l.prog) (w := w) (base := base) F11 F1 b1 m1 T; have GBg := ok_beg (P := l.prog) (w := w) (base := base) F12 T XO; have GRd := ok_read F5 GSec b11 m11 T XO XN; have GWr := ok_write F6 GSec b11 m11 F2.fun GAw b2 m2 GBg b12 m12 T XN; have GSt := ok_set (P := l.prog) (w := w) (base := base) F13 T; have GFl := ok_flush F7 GBg b12 m12 GSt b13 m13 T; have GWa := ok_wait (P := l.prog) (w := w) (base := base) F8 T; have GIm := ok_img (P := l.prog) (w := w) (base := base) F9 T; have GLa := ok_last (P := l.prog) (w := w) (base := base) F10 T; have GIn := ok_init F4 F3 GSz b3 m3 T XN; have GIx := ok_initX F4 F3 GSz2 b3 m3 T XN; have GI3 := (fn_or GIn GIx : FnOk l.prog w K mg base (L2.CX l.prog w) 3 _ _ ["self", "blocks"] (spI3 (He.ga K "Disk") (He.ga K "NotValid"))); have GDf := ok_df F14 B2 F2.fun GAw2 b2 m2 F3 GSz2 b3 m3 MC GIn b4 GWr b6 m6 GFl b7 m7 T XB; have GSp := ok_sp (P := l.prog) (w := w) (base := base) F20 F17 b17 m17 T; have GTo := ok_told F21 F14.fun GDf b14 m14 T XL XB XN XCB sBL sBB sBN; have GTs := ok_ts F22 MC GI3 b4 T XL XB XN XCN sNL sNN sNB; ok_law F23 F15 b15 m15  F16 b16 m16  F17 b17 m17  F18 b18 m18  F19 b19 m19  F20 b20 m20 GSp F21 b21 m21 GTo F22 b22 m22 GTs GWr b6 m6 GRd b5 m5 GWa b8 m8 GLa b10 m10 GIm b9 m9 xica xicn xict xicm xikl T)
end K06
open PySem PySem.W PySem.Calls PyProof.Rows
set_option maxHeartbeats 0 in
theorem PySem.Challenge.cw_laminae_k06_disk_from_image_holds : PySem.Challenge.rw_laminae_k06_disk_from_image.Holds := by
  w_on; o_law
  refine HandSHeadRun.head_any (r := OpenLaw.row PySem.Challenge.rw_laminae_k06_disk_from_image) (q := view (OpenLaw.row PySem.Challenge.rw_laminae_k06_disk_from_image).prog [30]) (H := K06.hk) (ob := K06.ob) (M := 4000) (loose := K06.looseL) (d := HandSHeadRun.topDef (OpenLaw.row PySem.Challenge.rw_laminae_k06_disk_from_image).prog 30) (kwd := []) K06.ob_eq
    (by kernel_rfl) (fun s => by kernel_rfl) K06.run (by kernel_rfl) (by kernel_rfl) (by kernel_rfl) (by rfl) (by first | assumption | decide +kernel) (by decide +kernel) ⟨rfl, rfl, rfl, rfl, rfl, by decide +kernel⟩ ?hw ?hc
  case hw => w_witness2
  case hc =>
    refine HE.walk_facts (l := PySem.Challenge.rw_laminae_k06_disk_from_image) (n := 63) (k := 8) (x := "script") rfl (by decide) (by kernel_rfl) ⟨rfl, by decide, by decide⟩ ?F
    intro w mg fa h Y G hmg0
    obtain ⟨K, KX, c⟩ := Y
    have hmg : mg ("law" : PySem.Str) = some (.ref fa) := by
      have e : (HandSHeadRun.topDef (OpenLaw.row PySem.Challenge.rw_laminae_k06_disk_from_image).prog 30).name = ("law" : PySem.Str) := by kernel_rfl
      rw [← e]
      exact hmg0
    obtain ⟨fd, cs, sp, h1, h2, h3, h4⟩ := K06.facts (l := PySem.Challenge.rw_laminae_k06_disk_from_image) KX G hmg c
    exact ⟨K, fd, cs, sp, KX, h1, h2, h3, h4⟩

