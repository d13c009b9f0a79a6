import PyProof.Rows.All
import Wide.All
import OpenK.AllK
import Wide.FinOn
import HandS.ForMost
import HandS.Evl
import HandS.TupLe
import HandS.IsInst
import HandS.AnyAll
import HandS.EndOwn
import HandS.StrMore
import HandS.Conv
import HandS.Sort
import HandS.Star
import HandS.WordsExc
import HandS.ExcIs
import HandS.Wide
import HandS.ExcOwn
import HandS.TryOnly
import HandS.GenList
import HandS.HotCalls
import HandS.Walk
import PyProof.WalksPairs
import KE.KStateDown
import Lean
import HandS.Defaults
import HandS.Head0
import HandS.Head1
import HandS.Head2
import HandS.Head3
import HandS.HeadEnd
import HandS.HeadHook1
import HandS.HeadHook2
import HandS.HeadHook3
import HandS.HeadHook4
import HandS.HeadWalk
import HandS.Lambda
import HandS.EndTab
import PySem.Challenge.RW_laminae_k70_room_of_the_log
set_option Elab.async false
set_option linter.all false
set_option maxRecDepth 100000
set_option maxHeartbeats 4000000
namespace LT
open PySem PySem.Spec PyProof.Rows L2 Evl
/-! ### the table of a code object: whatever it holds -/
def TabPhi (P : Addr) (h : Heap) : Prop := ∃ ps : Array Value, h.get? P = some { cls := .none, data := .fields ps } ∧ TriplesOk ps.toList
def Tab (H : Hp) (P : Addr) : Prop := H P = some (.ext (TabPhi P))
theorem tab_stab (P : Addr) : ∀ h1 h2 : Heap, TabPhi P h1 → (∀ o, h1.get? P = some o → h2.get? P = some o) → TabPhi P h2 := fun _ _ ⟨ps, e, t⟩ k => ⟨ps, k _ e, t⟩
theorem tab_ok {p : Program} {w : World} {H : Hp} {h : Heap} {P : Addr} (t : TabPhi P h) : ObjOk p w H h P (.ext (TabPhi P)) := ⟨t, ⟨_, t.choose_spec.1⟩, tab_stab P⟩
theorem Tab.of_ok {p : Program} {w : World} {H : Hp} {h : Heap} {P : Addr} (t : Tab H P) (ok : HOk p w H h) : TabPhi P h := (ok P _ t).1
theorem Tab.mono {H H' : Hp} {P : Addr} (e : Ex H H') (t : Tab H P) : Tab H' P := e _ _ t
open Classical in
def extH (Ps : List Addr) (H : Hp) : Hp := fun b => if b ∈ Ps then some (.ext (TabPhi b)) else H b
theorem extH_in {Ps : List Addr} {H : Hp} {b : Addr} (h : b ∈ Ps) : extH Ps H b = some (.ext (TabPhi b)) := if_pos h
theorem extH_out {Ps : List Addr} {H : Hp} {b : Addr} (h : b ∉ Ps) : extH Ps H b = H b := if_neg h
/-- a promise over heaps whose tables are opaque, for a caller whose tables are all empty -/
def spExt (Ps : List Addr) (sp : Sp) : Sp := fun vs H Q E => (∀ p ∈ Ps, H p = some (.tbl #[])) ∧ sp vs (extH Ps H) (fun v H' => (∀ p ∈ Ps, Tab H' p) ∧ ∀ H2, Q v H2) E
section
variable {P : Program} {w : World} {K : PySem.W.Frag} {mg : Str → Option Value} {base : Heap}
theorem ok_ext {Ps : List Addr} {k : Nat} {f : Addr} {fd : FuncData} {ps : List Str} {sp : Sp} (F : FnOk P w K mg base CX0 k f fd ps sp) : FnOk P w K mg base CX0 k f fd ps (spExt Ps sp) := by
  refine ⟨fun vs H Q E h => F.len _ _ _ _ h.2, fun A outer s H args us vs Q E hr e0 hb hv ⟨hT, hs⟩ => ?_⟩
  have none_ : ∀ {b : Addr}, H b = none → extH Ps H b = none := fun {b} n => by
    rw [extH_out fun hb => by rw [hT b hb] at n; cases n]
    exact n
  have same : ∀ {b : Addr} {u : HO}, H b = some u → (∀ q, u ≠ .tbl q) → extH Ps H b = some u := fun {b u} e n => by
    rw [extH_out fun hb => by rw [hT b hb] at e; exact n _ (Option.some.inj e).symm]
    exact e
  have ok1 : HOk P w (extH Ps H) s.heap := fun b u e => by
    by_cases hb : b ∈ Ps
    · rw [extH_in hb] at e
      cases e
      exact tab_ok ⟨#[], e0.hok b _ (hT b hb), by simp [TriplesOk]⟩
    · rw [extH_out hb] at e
      exact (e0.hok b u e).stay (fun _ _ _ q => q) (fun c q => same q (fun z y => by cases y)) fun c xs q => same q (fun z y => by cases y)
  have e1 : Env0 P w K mg base A outer s (extH Ps H) := ⟨e0.frames, e0.mod, fun b o e => ⟨(e0.bs b o e).1, none_ (e0.bs b o e).2⟩, e0.bsz, e0.funs, fun b hb => none_ (e0.frf b hb), ok1, e0.bare⟩
  refine codeAny_mono (F.run A outer s (extH Ps H) args us vs _ E hr e1 hb hv hs) fun r s' h => ?_
  cases r with
  | error e => exact h.elim
  | ok fl =>
    cases fl with
    | next => exact h
    | brk => exact h
    | cont => exact h
    | ret u =>
      obtain ⟨v, H', os, bare, un, ok', rv, hTab, q⟩ := h
      have more : ∀ p ∈ Ps, TabPhi p s'.heap := fun p hp => (hTab p hp).of_ok ok'
      let H2 : Hp := fun b => if hb : b ∈ Ps then some (.tbl (more b hb).choose) else H' b
      have hin : ∀ {b : Addr} (hb : b ∈ Ps), H2 b = some (.tbl (more b hb).choose) := fun {b} hb => dif_pos hb
      have hout : ∀ {b : Addr}, b ∉ Ps → H2 b = H' b := fun {b} hb => dif_neg hb
      have keepH : ∀ {b : Addr} {u : HO}, H' b = some u → (∀ φ, u ≠ .ext φ) → H2 b = some u := fun {b u} e n => by
        rw [hout fun hb => by rw [hTab b hb] at e; exact n _ (Option.some.inj e).symm]
        exact e
      refine ⟨v, H2, os, bare, ⟨fun b o e n => un.keep b o e (none_ n), fun b o e n => un.slot b o e (none_ n), fun b o e n hx => ?_, un.there, fun b xs e => ?_, fun b o x e => ?_, fun b q e => ?_⟩, fun b y e => ?_, rv, q H2⟩
      · have n' := none_ n
        rw [hout fun hb => by rw [hT b hb] at n; cases n]
        exact un.free b o e n' hx
      · exact keepH (un.tups b xs (same e (fun z y => by cases y))) (fun z y => by cases y)
      · exact keepH (un.frzs b o x (same e (fun z y => by cases y))) (fun z y => by cases y)
      · by_cases hb : b ∈ Ps
        · rw [hT b hb] at e
          cases e
          exact ⟨(more b hb).choose, by rw [hin hb, Array.empty_append]⟩
        · obtain ⟨m, z⟩ := un.tbls b q (by rw [extH_out hb]; exact e)
          exact ⟨m, by rw [hout hb]; exact z⟩
      · by_cases hb : b ∈ Ps
        · rw [hin hb] at e
          cases e
          exact (more b hb).choose_spec.1
        · rw [hout hb] at e
          exact (ok' b y e).stay (fun _ _ _ q => q) (fun c q => keepH q (fun z y => by cases y)) fun c xs q => keepH q (fun z y => by cases y)
end
/-- the law's walk where top-level defs (names) hold generator expressions: their tables are empty at the start -/
theorem walk_tabs {l : PySem.W.OpenLaw} {n k : Nat} {q : Program} {loose : List Str} {XP : (Str → Option Value) → Heap → Prop} {YP : World → Heap → Prop} {d : DefRec} {K : Params → PySem.W.Frag} {x : Str} (names : List Str)
    (hn : l.most = some n) (hn2 : n ≤ sizeLine) (hdf : d.params.defaults = []) (hr : Room k callerA) (hrec : ∀ y ∈ names, ((recsOf q).find? fun e => e.name == y).isSome = true) (hY : ∀ (w : World) (h : Heap), YP w h → (K w.params).In h)
    (F : ∀ (w : World) (mg : Str → Option Value) (fa : Addr) (h : Heap), (K w.params).In h → h.Ns mainGlobals mg → mg d.name = some (.ref fa) →
      ∃ (fd : FuncData) (cs : List (Str × Addr × Addr)) (sp : Sp), (∀ p ∈ cs, p.1 ∈ names ∧ PySem.W.tabIn (K w.params) p.1 = some p.2 ∧ (K w.params).lookup p.2.2 = none) ∧ (∀ (s : Shared) (u : Value), BindsTo s fd ⟨[u], []⟩ [(x, u)]) ∧
        (∀ (H : Hp) (a : Addr) (ns : List Int), ns.length ≤ n → (∀ p ∈ cs, Tab H p.2.2) → SqL (K w.params) H a (ns.map V.int) → ∀ Q : VK, (∀ H', Ex H H' → Q (.bl true) H') → sp [.ref a] H Q fun _ _ _ => False) ∧
        ∀ base : Heap, (K w.params).In base → base.Ns mainGlobals mg → (∀ p ∈ cs, LamX.TabB base mg p.2.1 p.2.2) → FnOk l.prog w (K w.params) mg base CX0 k fa fd [x] sp) :
    PySem.W.WalkO q loose XP YP l.row.toRowW d [] (fun f vs => PySem.call f vs) := by
  refine Att.attach_callB hn hdf fun w s₀ s₁ mg mb fa o pm cd doc a vs ns G Y ho hd hcd hmg hobj hints hlen hbits hg => ?_
  have KX := hY w _ Y
  obtain ⟨fd, cs, sp, hcs, hb, hsp, hF⟩ := F w mg fa _ KX G.T.g hmg
  have two : ∀ p ∈ cs, PySem.W.CodeHd s₁.heap p.2.1 p.2.2 ∧ s₁.heap.get? p.2.2 = some { cls := .none, data := .fields #[] } := fun p hp => by
    obtain ⟨h1, h2, _⟩ := hcs p hp
    obtain ⟨e, he⟩ := Option.isSome_iff_exists.mp (hrec _ h1)
    exact PySem.W.tab_of G.T KX he h2
  have mem : ∀ y ∈ cs.map (fun p => (p.2.1, p.2.2)), ∃ p ∈ cs, p.2 = y := fun y hy => by
    obtain ⟨p, hp, e⟩ := List.mem_map.mp hy
    exact ⟨p, hp, by rw [← e]⟩
  have lim : ∀ b ∈ cs.map (fun p => p.2.2), ∃ p ∈ cs, p.2.2 = b := fun b hb => by
    obtain ⟨p, hp, e⟩ := List.mem_map.mp hb
    exact ⟨p, hp, e⟩
  refine LamX.law_callTs (cs := cs.map fun p => (p.2.1, p.2.2)) (CX := CX0) (sp := spExt (cs.map fun p => p.2.2) sp) KX G.T.g G.T.b G.T.builtins G.T.nolimit hg (fun y hy => ?_) (fun y hy => ?_) (fun y hy => ?_) G.T.bmain hobj hints (Nat.le_trans hlen hn2) hr
    (fun base h1 h2 h3 => ok_ext (hF base h1 h2 fun p hp => h3 (p.2.1, p.2.2) (List.mem_map.mpr ⟨p, hp, rfl⟩))) hb (fun H hH hS => ?_) fun H e s' z => z
  · obtain ⟨p, hp, rfl⟩ := mem y hy
    exact (two p hp).2
  · obtain ⟨p, hp, rfl⟩ := mem y hy
    exact (hcs p hp).2.2
  · obtain ⟨p, hp, rfl⟩ := mem y hy
    exact (two p hp).1
  · refine ⟨fun b hb => ?_, ?_⟩
    · obtain ⟨p, hp, rfl⟩ := lim b hb
      exact hH (p.2.1, p.2.2) (List.mem_map.mpr ⟨p, hp, rfl⟩)
    · have hnt : ∀ p ∈ cs, extH (cs.map fun p => p.2.2) H p.2.2 = some (.ext (TabPhi p.2.2)) := fun p hp => extH_in (List.mem_map.mpr ⟨p, hp, rfl⟩)
      refine hsp _ a ns hlen hnt ?_ _ fun H' e => ⟨fun b hb => ?_, fun _ => rfl⟩
      · rcases hS with (h | ⟨o, h⟩) | h
        · refine .inl (.inl ?_)
          rw [extH_out fun hb => ?_]
          · exact h
          · obtain ⟨p, hp, rfl⟩ := lim a hb
            rw [hH (p.2.1, p.2.2) (List.mem_map.mpr ⟨p, hp, rfl⟩)] at h
            cases h
        · refine .inl (.inr ⟨o, ?_⟩)
          rw [extH_out fun hb => ?_]
          · exact h
          · obtain ⟨p, hp, rfl⟩ := lim a hb
            rw [hH (p.2.1, p.2.2) (List.mem_map.mpr ⟨p, hp, rfl⟩)] at h
            cases h
        · exact .inr h
      · obtain ⟨p, hp, rfl⟩ := lim b hb
        exact e _ _ (hnt p hp)
end LT

set_option Elab.async false
set_option linter.all false
set_option maxRecDepth 100000
set_option maxHeartbeats 4000000
namespace LG
open PySem PySem.Spec PyProof.Rows L2 Evl LT
/-! ### generator expressions whose elements leave everything as it stands -/
theorem kp_tok (s : Shared) (k : Nat) : Keeps s { s with toks := k } := ⟨s.heap, k, rfl, fun _ _ e => e⟩
theorem kp_refl (s : Shared) : Keeps s s := kp_tok s s.toks
theorem kp_trans {s s1 s2 : Shared} (a : Keeps s s1) (b : Keeps s1 s2) : Keeps s s2 := by
  obtain ⟨h1, t1, rfl, k1⟩ := a
  obtain ⟨h2, t2, rfl, k2⟩ := b
  exact ⟨h2, t2, rfl, fun c o e => k2 c o (k1 c o e)⟩
theorem kp_at {s s1 : Shared} (a : Keeps s s1) : ∀ b o, s.heap.get? b = some o → s1.heap.get? b = some o := by
  obtain ⟨h1, t1, rfl, k1⟩ := a
  exact k1
def but (P : Addr) (H : Hp) : Hp := fun b => if b = P then none else H b
theorem but_ne {P b : Addr} {H : Hp} (h : b ≠ P) : but P H b = H b := if_neg h
/-- in the frame of a generator expression, at one turn: its name x holds u -/
structure Fc (X : Cx) (σ : L2.St) (H : Hp) (P : Addr) (scope : Scope) (x : Str) (u : Value) (cenv : Env) (A' : Around) (s₂ : Shared) (m₂ : Str → Option Value) : Prop where
  hd : A'.handled = none
  dp : A'.depth ≤ X.A.depth + 1
  un : A'.units ≤ X.A.units + 8
  sc : cenv.scope = scope
  gl : cenv.globals = mainGlobals
  bi : cenv.builtins = builtinsNs
  ns : s₂.heap.Ns cenv.locals m₂
  mx : m₂ x = some u
  base : ∀ b o, X.base.get? b = some o → s₂.heap.get? b = some o
  md : L2.Mod X.K X.mg X.base
  hok : HOk X.prog X.w (but P H) s₂.heap
  cap : ∀ (i : Nat) (y : Str) (v : V), X.N[i]? = some y → σ[i]? = some (some v) → (X.env.kindOf y = some .cell ∨ X.env.kindOf y = some .free) → scope.names.lookup y = some .free → ∃ r c, RelV v r ∧ cenv.cells.lookup y = some c ∧ s₂.heap.IsCell c (some r)
section
variable {X : Cx} {σ : L2.St} {H : Hp} {P : Addr} {scope : Scope} {x : Str} {u : Value} {cenv : Env} {A' : Around} {s₂ s₃ : Shared} {m₂ : Str → Option Value}
theorem Fc.keeps (F : Fc X σ H P scope x u cenv A' s₂ m₂) (k : Keeps s₂ s₃) : Fc X σ H P scope x u cenv A' s₃ m₂ :=
  have k' := kp_at k
  ⟨F.hd, F.dp, F.un, F.sc, F.gl, F.bi, (let ⟨o, es, ep, e, r⟩ := F.ns; ⟨o, es, ep, k' _ _ e, r⟩), F.mx, fun b o e => k' b o (F.base b o e), F.md, F.hok.kept k', fun i y v h1 h2 h3 h4 => by
    obtain ⟨r, c, a1, a2, o, a3, a4⟩ := F.cap i y v h1 h2 h3 h4
    exact ⟨r, c, a1, a2, o, k' _ _ a3, a4⟩⟩
theorem Fc.kin (F : Fc X σ H P scope x u cenv A' s₂ m₂) : X.K.In s₂.heap := F.md.kin.keeps F.base
theorem Fc.list (F : Fc X σ H P scope x u cenv A' s₂ m₂) (hT : Tab H P) {a : Addr} {xs : List V} (h : SqL X.K H a xs) : ∃ its : List Value, Vals xs its ∧ PlainL s₂.heap a its.toArray ∧ xs.length ≤ sizeLine := by
  have rd : ∀ {o : HO}, H a = some o → (∀ φ, o ≠ .ext φ) → but P H a = some o := fun {o} e n => by
    rw [but_ne fun z => by rw [z, hT] at e; exact n _ (Option.some.inj e).symm]
    exact e
  rcases h with (h | ⟨o, h⟩) | ⟨o, its, n, hk, hc, hd, hs, hz, r⟩
  · obtain ⟨z, its, n, r, e⟩ := F.hok a _ (rd h (fun φ z => by cases z))
    exact ⟨its, r, ⟨_, n, e, rfl, rfl, rfl⟩, z⟩
  · obtain ⟨_, z, its, n, r, e⟩ := F.hok a _ (rd h (fun φ z => by cases z))
    exact ⟨its, r, ⟨_, n, e, rfl, rfl, rfl⟩, z⟩
  · refine ⟨its.toList, r, ⟨o, n, F.kin a o hk, hc, hd, by simpa using hs⟩, ?_⟩
    have e := r.length
    simp only [Array.length_toList] at e
    omega
theorem Fc.tuple (F : Fc X σ H P scope x u cenv A' s₂ m₂) (hT : Tab H P) {a : Addr} {xs : List V} (h : SqT X.K H a xs) : ∃ its : List Value, Vals xs its ∧ IsTup s₂.heap a its.toArray ∧ xs.length ≤ sizeLine := by
  have rd : ∀ {o : HO}, H a = some o → (∀ φ, o ≠ .ext φ) → but P H a = some o := fun {o} e n => by
    rw [but_ne fun z => by rw [z, hT] at e; exact n _ (Option.some.inj e).symm]
    exact e
  rcases h with (h | ⟨o, h⟩) | ⟨o, its, n, hk, hc, hs, hz, r⟩
  · obtain ⟨z, its, r, p⟩ := F.hok a _ (rd h (fun φ z => by cases z))
    exact ⟨its, r, p, z⟩
  · obtain ⟨_, z, its, r, p⟩ := F.hok a _ (rd h (fun φ z => by cases z))
    exact ⟨its, r, p, z⟩
  · refine ⟨its.toList, r, ⟨o, F.kin a o hk, hc, n, by simpa using hs⟩, ?_⟩
    have e := r.length
    simp only [Array.length_toList] at e
    omega
end
/-- the expression has the value z there -/
def QV (X : Cx) (σ : L2.St) (H : Hp) (P : Addr) (scope : Scope) (x : Str) (u : Value) (e : Expr) (z : V) : Prop :=
  ∀ (cenv : Env) (A' : Around) (E' : Value → Shared → Prop) (s₂ : Shared) (m₂ : Str → Option Value), Fc X σ H P scope x u cenv A' s₂ m₂ → wpAny (model X.prog X.w) A' (eval e cenv) (fun y s₃ => RelV z y ∧ Keeps s₂ s₃) E' s₂
section
variable {X : Cx} {σ : L2.St} {H : Hp} {P : Addr} {scope : Scope} {x : Str} {u : Value} {a b : Expr} {za zb z : V} {pos : Pos}
theorem qv_x (hk : scope.kind = .function) (hl : scope.names.lookup x = some .local) (r : RelV z u) (hd : (x == ("__debug__" : Str)) = false := by decide) : QV X σ H P scope x u (.Name x pos) z := fun cenv A' E' s m F =>
  wpAny_Name (wpAny_loadName_local (by rw [F.sc]; exact hk) (show cenv.scope.names.lookup x = some .local by rw [F.sc]; exact hl) F.ns F.mx ⟨r, kp_refl _⟩) hd
theorem qv_cap {i : Nat} {y : Str} (hk : scope.kind = .function) (hl : scope.names.lookup y = some .free) (hN : X.N[i]? = some y) (hs : σ[i]? = some (some z)) (hv : X.env.kindOf y = some .cell ∨ X.env.kindOf y = some .free := by first | exact Or.inl rfl | exact Or.inr rfl) (hd : (y == ("__debug__" : Str)) = false := by decide) (hcd : (y == ("__classdict__" : Str)) = false := by decide) :
    QV X σ H P scope x u (.Name y pos) z := fun cenv A' E' s m F => by
  obtain ⟨r, c, h1, h2, h3⟩ := F.cap i y z hN hs hv hl
  exact wpAny_Name (wpAny_loadName_free (by rw [F.sc]; exact hk) (show cenv.scope.names.lookup y = some .free by rw [F.sc]; exact hl) h2 h3 ⟨h1, kp_refl _⟩ hcd) hd
theorem qv_glob {y : Str} {r : Value} (hk : scope.kind = .function) (hl : scope.names.lookup y = some .globalImplicit) (hm : X.mg y = some r) (h : RelV z r) (hd : (y == ("__debug__" : Str)) = false := by decide) :
    QV X σ H P scope x u (.Name y pos) z := fun cenv A' E' s m F =>
  Calls.Name_function_global (by rw [F.sc]; exact hk) (show cenv.scope.names.lookup y = some .globalImplicit by rw [F.sc]; exact hl) (Calls.loadGlobal_global (by rw [F.gl]; exact F.md.glob.keeps F.base) hm ⟨h, kp_refl _⟩) hd
theorem qv_int {i : Int} {j : Nat} : QV X σ H P scope x u (.Constant (.int i) j pos) (.int i) := fun cenv A' E' s m F => wpAny_Constant_int ⟨⟨_, rfl⟩, kp_tok _ _⟩
theorem qv_str {i : Str} {j : Nat} : QV X σ H P scope x u (.Constant (.str i) j pos) (.str i) := fun cenv A' E' s m F => Calls.Constant_str ⟨⟨_, rfl⟩, kp_tok _ _⟩
/-- an operation on two values -/
def QR (X : Cx) (σ : L2.St) (H : Hp) (P : Addr) (scope : Scope) (x : Str) (u : Value) (f : Value → Value → Sem Value) (za zb z : V) : Prop :=
  ∀ (cenv : Env) (A' : Around) (E' : Value → Shared → Prop) (s₂ : Shared) (m₂ : Str → Option Value) (v w : Value), Fc X σ H P scope x u cenv A' s₂ m₂ → RelV za v → RelV zb w → wpAny (model X.prog X.w) A' (f v w) (fun y s₃ => RelV z y ∧ Keeps s₂ s₃) E' s₂
theorem qv_two {f : Value → Value → Sem Value} (ha : QV X σ H P scope x u a za) (hb : QV X σ H P scope x u b zb) (hr : QR X σ H P scope x u f za zb z) (cenv : Env) (A' : Around) (E' : Value → Shared → Prop) (s : Shared) (m : Str → Option Value) (F : Fc X σ H P scope x u cenv A' s m) :
    wpAny (model X.prog X.w) A' (eval a cenv) (fun v s₁ => wpAny (model X.prog X.w) A' (eval b cenv) (fun w s₂ => wpAny (model X.prog X.w) A' (f v w) (fun y s₃ => RelV z y ∧ Keeps s s₃) E' s₂) E' s₁) E' s :=
  wpAny_mono (ha cenv A' E' s m F) (fun v s1 r1 => wpAny_mono (hb cenv A' E' s1 m (F.keeps r1.2)) (fun w s2 r2 => wpAny_mono (hr cenv A' E' s2 m v w ((F.keeps r1.2).keeps r2.2) r1.1 r2.1)
    (fun y s3 r3 => ⟨r3.1, kp_trans (kp_trans r1.2 r2.2) r3.2⟩) fun _ _ e => e) fun _ _ e => e) fun _ _ e => e
theorem qv_cmp {op : CmpOp} (hr : QR X σ H P scope x u (compareOp op) za zb z) (ha : QV X σ H P scope x u a za) (hb : QV X σ H P scope x u b zb) (hm : behindInMarks op b = false) : QV X σ H P scope x u (.Compare a [op] [b] pos) z := fun cenv A' E' s m F =>
  wpAny_Compare1 (qv_two ha hb hr cenv A' E' s m F) hm
theorem qv_op {op : Operator} (hr : QR X σ H P scope x u (binaryOp op) za zb z) (ha : QV X σ H P scope x u a za) (hb : QV X σ H P scope x u b zb) : QV X σ H P scope x u (.BinOp a op b pos) z := fun cenv A' E' s m F =>
  wpAny_BinOp (qv_two ha hb hr cenv A' E' s m F)
theorem qv_ix (hr : ∀ value slice, subscripted slice false = subscripted slice false → QR X σ H P scope x u (fun v w => subscriptTail value slice v w) za zb z) (ha : QV X σ H P scope x u a za) (hb : QV X σ H P scope x u b zb) : QV X σ H P scope x u (.Subscript a b pos) z := fun cenv A' E' s m F =>
  Subscript_ (qv_two ha hb (hr a b rfl) cenv A' E' s m F)
theorem qr_add {i j : Int} : QR X σ H P scope x u (binaryOp .Add) (.int i) (.int j) (.int (i + j)) := fun cenv A' E' s m v w F r1 r2 => by
  obtain ⟨t, rfl⟩ := r1
  obtain ⟨t', rfl⟩ := r2
  exact add_int ⟨⟨_, rfl⟩, kp_tok _ _⟩
theorem qr_ne_int {i j : Int} : QR X σ H P scope x u (compareOp .NotEq) (.int i) (.int j) (.bl (i != j)) := fun cenv A' E' s m v w F r1 r2 => by
  obtain ⟨t, rfl⟩ := r1
  obtain ⟨t', rfl⟩ := r2
  exact ne_int ⟨rfl, kp_refl _⟩
theorem qr_le_int {i j : Int} : QR X σ H P scope x u (compareOp .LtE) (.int i) (.int j) (.bl (decide (i ≤ j))) := fun cenv A' E' s m v w F r1 r2 => by
  obtain ⟨t, rfl⟩ := r1
  obtain ⟨t', rfl⟩ := r2
  exact le_int ⟨rfl, kp_refl _⟩
theorem qr_ne_str {i j : Str} : QR X σ H P scope x u (compareOp .NotEq) (.str i) (.str j) (.bl (i.cps.toList != j.cps.toList)) := fun cenv A' E' s m v w F r1 r2 => by
  obtain ⟨t, rfl⟩ := r1
  obtain ⟨t', rfl⟩ := r2
  exact PySem.P.ne_str ⟨rfl, kp_refl _⟩
theorem qr_in_sign {c : Nat} {j : Str} : QR X σ H P scope x u (compareOp .In) (.str ⟨#[c]⟩) (.str j) (.bl (decide (c ∈ j.cps.toList))) := fun cenv A' E' s m v w F r1 r2 => by
  obtain ⟨t, rfl⟩ := r1
  obtain ⟨t', rfl⟩ := r2
  exact PyProof.Rows.in_str ⟨(PySem.StrLaws.found_one j c).symm ▸ rfl, kp_refl _⟩
end

/-! ### what is walked -/
def SrcV (K : PySem.W.Frag) (H : Hp) (v : V) (n : Nat) (xs : Nat → V) : Prop :=
  (∃ (a : Addr) (l : List V), v = .ref a ∧ SqL K H a l ∧ n = l.length ∧ ∀ i, xs i = l.getD i .non) ∨
  (∃ z : Str, v = .str z ∧ n = z.cps.size ∧ ∀ i c, z.cps[i]? = some c → xs i = .str ⟨#[c]⟩) ∨
  (∃ (a : Addr) (lo hi : Int), v = .ref a ∧ H a = some (.rng lo hi) ∧ n = (hi - lo).toNat ∧ -(2 ^ 62) ≤ lo ∧ lo < 2 ^ 62 ∧ -(2 ^ 62) ≤ hi ∧ hi < 2 ^ 62 ∧ ∀ i : Nat, xs i = .int (lo + i))
section
variable {X : Cx} {pins : List (Addr × Obj)} {σ : L2.St} {H : Hp} {s : Shared}
theorem src_iter {v : V} {xv : Value} {n : Nat} {xs : Nat → V} {P : Addr} {Q : Value → Shared → Prop} {E : Value → Shared → Prop} (S : SrcV X.K H v n xs) (I : Inv X pins σ H s) (r : RelV v xv) (hT : Tab H P)
    (h : ∀ (o : Obj) (fp : List Addr) (Pf : Nat → Value → Prop) (St : Nat → Heap → Prop), (∀ i u, Pf i u → i < n → RelV (xs i) u) → (∀ A' : Around, A'.handled = none → Walks X.prog X.w A' s.heap.objs.size fp [s.heap.objs.size] n Pf St) →
      St 0 (s.heap.push o) → (∀ b ∈ fp, b ≤ s.heap.objs.size ∧ b ≠ P) → Q (.ref s.heap.objs.size) { s with heap := s.heap.push o }) : wpAny (model X.prog X.w) X.A (pyIter xv) Q E s := by
  have Plt : P < s.heap.objs.size := Heap.lt_size (hT.of_ok I.hok).choose_spec.1
  have szP : s.heap.objs.size ≠ P := fun z => Nat.lt_irrefl _ (z ▸ Plt : s.heap.objs.size < s.heap.objs.size)
  rcases S with ⟨a, l, rfl, hl, rfl, hx⟩ | ⟨z, rfl, rfl, hx⟩ | ⟨a, lo, hi, rfl, ha, rfl, b1, b2, b3, b4, hx⟩
  · cases r
    obtain ⟨its, rv, pl, _⟩ := I.list hl
    have hal : a < s.heap.objs.size := let ⟨_, e, _⟩ := pl.isList; Heap.lt_size e
    have naP : a ≠ P := fun e => by
      obtain ⟨ps, e1, _⟩ := hT.of_ok I.hok
      obtain ⟨o, n, e2, e3, _, e4⟩ := pl
      rw [e, e1] at e2
      cases e2
      cases e3
    refine wpAny_pyIter_list pl.isList ?_
    have hne : a ≠ s.heap.objs.size := Nat.ne_of_lt hal
    have en : its.toArray.size = l.length := by rw [List.size_toArray]; exact rv.length.symm
    refine h _ [s.heap.objs.size, a] (fun i v => its.toArray[i]? = some v) (fun i h => h.IsListIter s.heap.objs.size a i ∧ h.IsList a its.toArray) (fun i u hu hi => ?_) (fun A' hA => by rw [← en]; exact Walks.list hA _ a hne its.toArray) ⟨⟨_, Heap.get?_push_size _ rfl, rfl, rfl⟩, pl.isList.at fun o e => Heap.get?_push_of_some _ e⟩ fun b hb => ?_
    · obtain ⟨w, ew, rw'⟩ := rv.get (List.getElem?_eq_getElem hi)
      have e2 : its.toArray[i]? = some w := by simpa using ew
      rw [e2] at hu
      cases hu
      rw [hx, List.getD_eq_getElem?_getD, List.getElem?_eq_getElem hi]
      exact rw'
    · rcases List.mem_cons.mp hb with e | hb
      · rw [e]
        exact ⟨Nat.le_refl _, szP⟩
      · rw [List.mem_singleton.mp hb]
        exact ⟨Nat.le_of_lt hal, naP⟩
  · obtain ⟨t, rfl⟩ := r
    refine wpAny_pyIter_str fun o St W hst => ?_
    refine h o [s.heap.objs.size] (SignAt z) St (fun i u hu hi => ?_) W hst fun b hb => ?_
    · obtain ⟨c, t', hc, rfl⟩ := hu
      rw [hx i c hc]
      exact ⟨_, rfl⟩
    · rw [List.mem_singleton.mp hb]
      exact ⟨Nat.le_refl _, szP⟩
  · cases r
    obtain ⟨t, t1, t2, e⟩ := I.hok a _ ha
    refine wpAny_pyIter_range (a := lo) (b := hi) (c := 1) e (small_one b1 b2 b3 b4) ?_
    have en : ((Builtin.Range.rangeSize lo hi 1 : Int)) = (((hi - lo).toNat : Nat) : Int) := by
      unfold Builtin.Range.rangeSize
      simp
      omega
    refine h _ [s.heap.objs.size] (fun i v => ∃ t, v = .int (lo + i * 1) t) _ (fun i u hu hi => ?_) (fun A' hA => Walks.range hA _ lo 1 _) ?_ fun b hb => ?_
    · obtain ⟨t, rfl⟩ := hu
      rw [hx]
      exact ⟨t, by rw [Int.mul_one]⟩
    · rw [en]
      show IsRangeIter _ _ (lo + ((0 : Nat) : Int) * 1) ((((hi - lo).toNat : Nat) : Int) - ((0 : Nat) : Int)) 1
      rw [show lo + ((0 : Nat) : Int) * 1 = lo by simp, show (((hi - lo).toNat : Nat) : Int) - ((0 : Nat) : Int) = (((hi - lo).toNat : Nat) : Int) by simp]
      exact Heap.get?_push_size _ rfl
    · rw [List.mem_singleton.mp hb]
      exact ⟨Nat.le_refl _, szP⟩
end
theorem lookup_mem' {α : Type} : ∀ {l : List (Str × α)} {n : Str} {c : α}, l.lookup n = some c → (n, c) ∈ l
  | [], _, _, h => by cases h
  | (k, v) :: r, n, c, h => by
    rw [List.lookup_cons] at h
    cases hb : n == k with
    | true =>
      rw [hb] at h
      cases h
      rw [beq_iff_eq.mp hb]
      exact List.mem_cons_self
    | false =>
      rw [hb] at h
      exact List.mem_cons_of_mem _ (lookup_mem' h)
theorem walks_lt {prog : Program} {w : World} {A : Around} {I : Addr} {fp wr : List Addr} {n : Nat} {Pf : Nat → Value → Prop} {St : Nat → Heap → Prop} (W : Walks prog w A I fp wr n Pf St) : Walks prog w A I fp wr n (fun i u => i < n ∧ Pf i u) St where
  sub := W.sub
  frame := W.frame
  item := fun i s Q E hi st hQ => W.item i s Q E hi st fun v h' tk hp => hQ v h' tk ⟨hi, hp⟩
  done := W.done
  self := W.self
theorem clo_lookup {cells : List (Str × Addr)} {names : List (Str × NameKind)} {y : Str} {c : Addr} (hy : (y, NameKind.free) ∈ names) (hc : cells.lookup y = some c) : (cloFrom cells names []).lookup y = some c := by
  obtain ⟨c', h⟩ := mem_lookup (cloFrom_has (cells := cells) (acc := []) hy)
  rcases cloFrom_mem (lookup_mem' h) with z | ⟨_, z⟩
  · cases z
  · rw [h, z, hc]
    rfl
section
variable {X : Cx} {pins : List (Addr × Obj)} {σ : L2.St} {H : Hp} {s : Shared}
/-- the table has grown: nothing that is tracked changes -/
theorem inv_grown {P : Addr} {s' : Shared} (I : Inv X pins σ H s) (hT : Tab H P) (k : ∀ b o, b ≠ P → s.heap.get? b = some o → s'.heap.get? b = some o) (hP : TabPhi P s'.heap) (ho : s'.os = s.os) (hg : AllBare s'.gens) : Inv X pins σ H s' := by
  have nN : ∀ b, H b = none → b ≠ P := fun b e z => by
    rw [z, hT] at e
    cases e
  have J := I.step (h' := s'.heap) (H' := H) (g' := s'.gens) (t' := s'.toks) (d' := s'.drawn) (ch := []) (fun b hb => absurd hb (by simp)) (fun b o _ _ _ e n => k b o (nN b n) e) (fun b o _ _ _ e n => ⟨o.slots, k b o (nN b n) e⟩) (fun b o _ _ n => n)
    (fun b o _ e => by
      by_cases hb : b = P
      · rw [hb]
        exact ⟨_, hP.choose_spec.1⟩
      · exact ⟨o, k b o hb e⟩)
    (fun b xs e => e) (fun b o u e => e) (fun b ps e => ⟨#[], by rw [e]; simp⟩) (fun m ⟨ob, es, ep, e, r⟩ => ⟨ob, es, ep, k _ ob (nN _ I.free) e, r⟩)
    (fun b u e => by
      by_cases hb : b = P
      · subst hb
        rw [hT] at e
        cases e
        exact tab_ok hP
      · refine (I.hok b u e).stay (fun d v hd q => k d v ?_ q) (fun d q => q) fun d xs q => q
        rcases hd with z | z
        · rw [z]
          exact hb
        · intro e2
          rw [e2, hT] at z
          cases z) hg
  have e : ({ s with heap := s'.heap, gens := s'.gens, drawn := s'.drawn, toks := s'.toks } : Shared) = s' := by
    cases s'
    cases ho
    rfl
  rw [e] at J
  exact J
/-- the generator g, ready to be walked -/
def RdyG (X : Cx) (pins : List (Addr × Obj)) (σ : L2.St) (H : Hp) (n : Nat) (f : Nat → Bool) (g : Addr) (s5 : Shared) : Prop :=
  ∃ (fp wr : List Addr) (G : Array GenState → Array GenState → Prop) (F : Nat → Value → Prop) (St : Nat → Shared → Prop), WalksS X.prog X.w X.A.in1 g fp wr G n F St ∧ St 0 s5 ∧ TruthOf X.prog X.w X.A.in1 F f ∧ ∀ s', Moved wr G s5 s' → Inv X pins σ H s'
theorem gen_make {c P : Addr} {elt iter : Expr} {x : Str} {px gpos : Pos} {scope : Scope} {te : TE} {k : Nat} {Q' : Value → Shared → Prop} {R : Nat → (Nat → Bool) → Hp → Prop}
    (hr : Room k X.A) (TB : LamX.TabB X.base X.mg c P) (hcode : X.env.code = .ref c) (S : GxR.GenS X.env scope x) (hi : PE X iter te) (hs : ∀ v, genFold iter X.env v = pure v) (I : Inv X pins σ H s)
    (h : te σ H fun v H1 => Tab H1 P ∧ ∃ (n : Nat) (xs : Nat → V) (f : Nat → Bool), SrcV X.K H1 v n xs ∧ (∀ i u, i < n → RelV (xs i) u → QV X σ H1 P scope x u elt (.bl (f i))) ∧ R n f H1)
    (hQ : ∀ n f H1 g s5, R n f H1 → RdyG X pins σ H1 n f g s5 → Q' (.ref g) s5) :
    wpAny (model X.prog X.w) X.A (eval (.GeneratorExp elt [⟨.Name x px, iter, [], 0⟩] scope gpos) X.env) Q' X.xe s := by
  refine wpAny_GeneratorExp_walksQD hr.hd S.co (closure_ok S.free) S.cell S.dot S.loc S.kind hr.depth ?_ hs
  refine thn (hi.run pins s σ H _ I h) fun xv s1 ⟨v, H1, I1, r1, hT, n, xs, f, hsrc, hel, hR⟩ => ?_
  refine src_iter hsrc I1 r1 hT fun o fp Pf St hPf hW hst hfp => ?_
  obtain ⟨ps, hPs, ht⟩ := hT.of_ok I1.hok
  have hPlt : P < s1.heap.objs.size := Heap.lt_size hPs
  have hP2 : (s1.heap.push o).get? P = some { cls := .none, data := .fields ps } := Heap.get?_push_of_some _ hPs
  have cd : PySem.W.CodeHd (s1.heap.push o) c P := TB.code.keeps fun b u e => Heap.get?_push_of_some _ (I1.bk b u e)
  have lim2 : (s1.heap.push o).NoLimit := I1.nolimit.push o
  have hcP : cStatics ≠ P := fun e => by
    obtain ⟨_, ⟨o', es, ep, ho, hd, _⟩, _⟩ := I1.nolimit
    rw [e, hPs] at ho
    cases ho
    cases hd
  have hcl : cStatics < s1.heap.objs.size := let ⟨_, hns, _⟩ := I1.nolimit; hns.lt
  have sz2 : (s1.heap.push o).objs.size = s1.heap.objs.size + 1 := Heap.size_push ..
  have nTb : ∀ b, H1 b = none → b ≠ P := fun b e z => by
    rw [z, hT] at e
    cases e
  -- what is left once the code object is known
  have go : ∀ (code : Value) (h3 : Heap) (tk : Nat) (ps' : Array Value), Heap.ExtBut P (s1.heap.push o) h3 → (s1.heap.push o).objs.size ≤ h3.objs.size → h3.get? P = some { cls := .none, data := .fields ps' } → TriplesOk ps'.toList →
      wpAny (model X.prog X.w) X.A (builtinsFor X.env.globals X.env.builtins) (fun bi s₄ => ∃ I fp wr n₀ Pg St₀ pz F, Value.ref s1.heap.objs.size = .ref I ∧ (∀ A' : Around, A'.handled = none → Walks X.prog X.w A' I fp wr n₀ Pg St₀) ∧ St₀ 0 s₄.heap ∧ (∀ b ∈ fp, b < s₄.heap.objs.size) ∧ s₄.heap.NoLimit ∧ cStatics ∉ wr ∧
          (∀ href : Heap, (∀ b o, s₄.heap.get? b = some o → href.get? b = some o) → QuietGenD X.prog X.w (genEnv scope (cloFrom X.env.cells scope.names []) s₄.heap.objs.size code bi X.env) x [] elt (List.range s₄.heap.objs.size) wr Pg pz F href (X.A.depth + 1) (X.A.units + 8)) ∧
          (∀ a h₅ tk gs, gs.bare = true → s₄.heap.objs.size < a → h₅.objs.size = a + 1 → (∀ b o, s₄.heap.get? b = some o → h₅.get? b = some o) →
            WalksS X.prog X.w X.A.in4 a (a :: s₄.heap.objs.size :: List.range s₄.heap.objs.size) (s₄.heap.objs.size :: wr) (GenOnlyQ s₄.gens.size) (passing pz n₀ 0).length (fun j y => ∃ i, (passing pz n₀ 0)[j]? = some i ∧ F i y) (GenAt X.prog X.w X.A.in4 a s₄.gens.size s₄.heap.objs.size (List.range s₄.heap.objs.size) wr pz n₀ F) →
            GenAt X.prog X.w X.A.in4 a s₄.gens.size s₄.heap.objs.size (List.range s₄.heap.objs.size) wr pz n₀ F 0 { s₄ with gens := s₄.gens.push gs, toks := tk, heap := h₅ } →
            Q' (.ref a) { s₄ with gens := s₄.gens.push gs, toks := tk, heap := h₅ })) X.xe { s1 with heap := h3, toks := tk } := by
    intro code h3 tk ps' hx hsz hP3 ht3
    obtain ⟨bm, ob, e1, e2, e3, e4, e5, e6, e7, e8⟩ := TB.bm
    have keep3 : ∀ b u, b ≠ P → s1.heap.get? b = some u → h3.get? b = some u := fun b u hb e => hx b u hb (Heap.get?_push_of_some _ e)
    refine wpAny_builtinsFor (m := X.mg) (by rw [I1.ok.glob]; exact ((I1.mod.glob.keeps I1.bk).push o).extBut hx TB.gP) e1 e2 (keep3 _ _ e4 (I1.bk _ _ e5)) e6 e7 e8 ?_
    have hsz3 : s1.heap.objs.size < h3.objs.size := by omega
    refine ⟨s1.heap.objs.size, fp, [s1.heap.objs.size], n, fun i u => i < n ∧ Pf i u, St, fun _ => true, fun i y => y = .bool (f i), rfl, fun A' hA => walks_lt (hW A' hA), ?_, fun b hb => Nat.lt_of_le_of_lt (hfp b hb).1 hsz3, lim2.extBut hx hcP, ?_, ?_, ?_⟩
    · exact (hW X.A hr.hd).frame _ _ _ hst fun b hb u e => hx b u (hfp b hb).2 e
    · intro z
      rw [List.mem_singleton.mp z] at hcl
      exact Nat.lt_irrefl _ hcl
    · intro href hhref
      refine ⟨fun A' E' i v s₂ m₂ hA hD hU hPv hn hm hk => ?_, fun A' E' i v s₂ m₂ hA hD hU hPv hp hn hm hk => ?_⟩
      · simp only [List.forIn_nil]
        exact wpAny_pure ⟨rfl, kp_refl _⟩
      · have kept : ∀ b u, b ≠ P → s1.heap.get? b = some u → s₂.heap.get? b = some u := fun b u hb e => by
          have hlt := Heap.lt_size e
          refine hk b (List.mem_range.mpr ?_) (fun z => ?_) u (hhref b u (keep3 b u hb e))
          · show b < h3.objs.size
            exact Nat.lt_trans hlt hsz3
          · rw [List.mem_singleton.mp z] at hlt
            exact Nat.lt_irrefl _ hlt
        refine wpAny_mono (hel i v hPv.1 (hPf i v hPv.2 hPv.1) _ A' E' s₂ m₂ ⟨hA, hD, hU, rfl, I1.ok.glob, rfl, hn, hm, fun b u e => kept b u (nTb b (I1.bs b u e).2) (I1.bk b u e), I1.mod, fun b u e => ?_, fun j y w hN hσ hv hfr => ?_⟩) (fun y s3 r => ⟨r.1, r.2⟩) fun _ _ e => e
        · have hb : b ≠ P := fun z => by
            rw [z] at e
            unfold but at e
            rw [if_pos rfl] at e
            cases e
          rw [but_ne hb] at e
          refine (I1.hok b u e).stay (fun d w hd q => kept d w ?_ q) (fun d q => ?_) fun d ys q => ?_
          · rcases hd with z | z
            · rw [z]
              exact hb
            · intro e2
              rw [e2, hT] at z
              cases z
          · rw [but_ne fun e2 => by rw [e2, hT] at q; cases q]
            exact q
          · rw [but_ne fun e2 => by rw [e2, hT] at q; cases q]
            exact q
        · obtain ⟨m, hn1, hl⟩ := I1.loc
          obtain ⟨r, rv, l⟩ := hl j y w hN hσ (hv.elim (fun z => Or.inr (Or.inl z)) (fun z => Or.inr (Or.inr z)))
          rcases l with ⟨z, _⟩ | ⟨_, cc, hc, oc, he, hd⟩
          · rcases hv with z2 | z2
            · rw [z] at z2; cases z2
            · rw [z] at z2; cases z2
          · exact ⟨r, cc, rv, clo_lookup (lookup_mem' hfr) hc, oc, kept cc oc (nTb cc (I1.freeC y cc hc)) he, hd⟩
    · intro g h5 tk5 gs hgb hag hsz5 hk5 W5 hat
      simp only [GxR.passing_true, List.length_range] at W5
      refine hQ n f H1 g _ hR ⟨_, _, _, _, _, W5.in4_1, hat, fun j y sj Qj Ej hy hQj => ?_, fun s' hm => ?_⟩
      · obtain ⟨i, hij, rfl⟩ := hy
        obtain ⟨hj, ej⟩ := List.getElem?_eq_some_iff.mp hij
        rw [List.getElem_range] at ej
        subst ej
        exact wpAny_truthy_bool hQj
      · have nwr : ∀ b u, s1.heap.get? b = some u → b ∉ h3.objs.size :: [s1.heap.objs.size] := fun b u e hb => by
          have hl := Heap.lt_size e
          rcases List.mem_cons.mp hb with z | z
          · rw [z] at hl
            exact Nat.lt_irrefl _ (Nat.lt_trans hl hsz3)
          · rw [List.mem_singleton.mp z] at hl
            exact Nat.lt_irrefl _ hl
        exact inv_grown I1 hT (fun b u hb e => hm.heap b u (nwr b u e) (hk5 b u (keep3 b u hb e))) ⟨ps', hm.heap P _ (nwr P _ hPs) (hk5 P _ hP3), ht3⟩ hm.os (AllBare.movedS (I1.bare.push hgb) hm)
  refine ⟨lim2, ?_⟩
  cases hf : codeAmong gpos ps.toList with
  | some cv => exact wpAny_genexprCode_hit hcode (cd.code hP2 ht) hf (go cv (s1.heap.push o) s1.toks ps (Heap.ExtBut.refl _ _) (Nat.le_refl _) hP2 ht)
  | none =>
    refine wpAny_genexprCodeX hcode (cd.code hP2 ht) (cd.tab hP2) hf fun c' h' tk hx hge hlt hco' _ htab' _ => ?_
    obtain ⟨_, _, _, _, _, _, _, _, _, _, _, _, _, _, _, _, _, _, _, htr, _⟩ := hco'
    exact go _ h' tk _ hx (Nat.le_trans hge (Nat.le_of_lt hlt)) htab'.2 htr
/-- all(.. for x in e), any(.. for x in e) -/
def tGen (X : Cx) (P : Addr) (scope : Scope) (x : Str) (elt : Expr) (fin : Nat → (Nat → Bool) → Bool) (te : TE) : TE := fun σ H Q => te σ H fun v H1 => Tab H1 P ∧ ∃ (n : Nat) (xs : Nat → V) (f : Nat → Bool), SrcV X.K H1 v n xs ∧ (∀ i u, i < n → RelV (xs i) u → QV X σ H1 P scope x u elt (.bl (f i))) ∧ Q (.bl (fin n f)) H1
def allF (n : Nat) (f : Nat → Bool) : Bool := (List.range n).all f
def anyF (n : Nat) (f : Nat → Bool) : Bool := (List.range n).any f
theorem pe_all {c P : Addr} {elt iter : Expr} {x : Str} {px p pos gpos : Pos} {scope : Scope} {te : TE} {k : Nat} (hr : Room k X.A) (hg : Gl X "all") (hm : X.mg "all" = none) (hb : bootBuiltins "all" = some (.builtin "all")) (TB : LamX.TabB X.base X.mg c P) (hcode : X.env.code = .ref c) (S : GxR.GenS X.env scope x)
    (hi : PE X iter te) (hs : ∀ v, genFold iter X.env v = pure v)
    (he : starEach [.GeneratorExp elt [⟨.Name x px, iter, [], 0⟩] scope gpos] X.env = (false, eval (.GeneratorExp elt [⟨.Name x px, iter, [], 0⟩] scope gpos) X.env) :: starEach [] X.env := by rfl) :
    PE X (.Call (.Name "all" p) [.GeneratorExp elt [⟨.Name x px, iter, [], 0⟩] scope gpos] [] pos) (tGen X P scope x elt allF te) := by
  refine ⟨fun pins s σ H Q I h => wpAny_Call_Name_kw (ld_blt I hg hm hb (PyProof.Rows.callWith_builtin1 ?_ he (by rfl)))⟩
  rw [he]
  show wpAny _ _ (spliced ((false, eval (.GeneratorExp elt [⟨.Name x px, iter, [], 0⟩] scope gpos) X.env) :: backTo pos (starEach [] X.env))) _ _ s
  refine Calls.spliced_cons (gen_make (R := fun n f H1 => Q (.bl (allF n f)) H1) hr TB hcode S hi hs I h fun n f H1 g s5 hR ⟨fp, wr, G, F, St₁, W, hst, htr, hI⟩ => Calls.spliced_nil ?_)
  exact call_all_walkS (W.self 0 _ _ _ hst ⟨g, fp, wr, G, _, F, St₁, _, rfl, W, hst, htr, fun s' hmv => ⟨.bl _, H1, hI s' hmv, rfl, hR⟩⟩)
theorem pe_any {c P : Addr} {elt iter : Expr} {x : Str} {px p pos gpos : Pos} {scope : Scope} {te : TE} {k : Nat} (hr : Room k X.A) (hg : Gl X "any") (hm : X.mg "any" = none) (TB : LamX.TabB X.base X.mg c P) (hcode : X.env.code = .ref c) (S : GxR.GenS X.env scope x)
    (hi : PE X iter te) (hs : ∀ v, genFold iter X.env v = pure v)
    (he : starEach [.GeneratorExp elt [⟨.Name x px, iter, [], 0⟩] scope gpos] X.env = (false, eval (.GeneratorExp elt [⟨.Name x px, iter, [], 0⟩] scope gpos) X.env) :: starEach [] X.env := by rfl) :
    PE X (.Call (.Name "any" p) [.GeneratorExp elt [⟨.Name x px, iter, [], 0⟩] scope gpos] [] pos) (tGen X P scope x elt anyF te) := by
  refine ⟨fun pins s σ H Q I h => wpAny_Call_Name_kw (ld_blt I hg hm boot_any (PyProof.Rows.callWith_builtin1 ?_ he (by rfl)))⟩
  rw [he]
  show wpAny _ _ (spliced ((false, eval (.GeneratorExp elt [⟨.Name x px, iter, [], 0⟩] scope gpos) X.env) :: backTo pos (starEach [] X.env))) _ _ s
  refine Calls.spliced_cons (gen_make (R := fun n f H1 => Q (.bl (anyF n f)) H1) hr TB hcode S hi hs I h fun n f H1 g s5 hR ⟨fp, wr, G, F, St₁, W, hst, htr, hI⟩ => Calls.spliced_nil ?_)
  exact call_any_walkS (W.self 0 _ _ _ hst ⟨g, fp, wr, G, _, F, St₁, _, rfl, W, hst, htr, fun s' hmv => ⟨.bl _, H1, hI s' hmv, rfl, hR⟩⟩)
end
end LG

set_option Elab.async false
set_option linter.all false
set_option maxRecDepth 100000
set_option maxHeartbeats 4000000
namespace LS
open PySem PySem.Spec PyProof.Rows L2 Evl LT LG
/-! ### texts -/
section
variable {K : PySem.W.Frag} {σ : L2.St} {H : Hp} {ta tb tc te to : TE} {x y z v : V} {D : Ends} {tu tz : TS}
theorem rv_addS {i j : Str} (h : i.length + j.length ≤ sizeLine) : RV (fun x y H Q => ∃ i j, x = .str i ∧ y = .str j ∧ i.length + j.length ≤ sizeLine ∧ Q (.str (i ++ j)) H) (.str i) (.str j) H (.str (i ++ j)) := rv_val fun _ _ Q q => ⟨i, j, rfl, rfl, h, q⟩
theorem ev_lenS {z : Str} {ta : TE} (h : Ev ta σ H (.str z)) (hz : z.length ≤ sizeLine) : Ev (tCB (fun xs H Q => ∃ x, xs = [.str x] ∧ x.length ≤ sizeLine ∧ Q (.int x.length) H) (tCons ta tNil)) σ H (.int (z.length : Int)) := ev_cb (ea_cons h ea_nil) fun H1 _ Q q => ⟨z, rfl, hz, q H1 (Ex.refl H1)⟩
theorem ev_isi {x : V} {n : String} {t : Value} {b : Bool} (h : Ev ta σ H x) (hn : Ev tb σ H (.ty n)) (ht : ∀ H1, Ex H H1 → TyX K H1 x t) (hk : PySem.W.kitOne K t (.type n) = some b) : Ev (tCB (rIsi K) (tCons ta (tCons tb tNil))) σ H (.bl b) :=
  ev_cb (ea_cons h (ea_cons hn ea_nil)) fun H1 e Q q => ⟨x, .ty n, t, .type n, b, rfl, .ty n, ht H1 e, hk, q H1 (Ex.refl H1)⟩
/-- a < b < c over ints -/
theorem et_chain {f g : Int → Int → Bool} {i j k : Int} (ha : Ev ta σ H (.int i)) (hb : Ev tb σ H (.int j)) (hc : Ev tc σ H (.int k)) : EvT (tTest (tChain (rI0 fun i j => .bl (f i j)) (rI0 fun i j => .bl (g i j)) ta tb tc)) σ H (f i j && g j k) := fun H1 e Q q =>
  ha H1 e _ fun H2 e2 => hb H2 (e.trans e2) _ fun H3 e3 => ⟨i, j, rfl, rfl, f i j, rfl, by
    cases hf : f i j with
    | true =>
      rw [if_pos rfl]
      refine hc H3 ((e.trans e2).trans e3) _ fun H4 e4 => ⟨j, k, rfl, rfl, g j k, rfl, ?_⟩
      have := q H4 ((e2.trans e3).trans e4)
      rw [hf] at this
      exact this
    | false =>
      rw [if_neg Bool.false_ne_true]
      have := q H3 (e2.trans e3)
      rw [hf] at this
      exact ⟨false, rfl, this⟩⟩
theorem s_forS {zs : Str} {j : Nat} (h : Ev te σ H (.str zs)) (Pv : Nat → L2.St → Hp → Prop) (h0 : ∀ H1, Ex H H1 → Pv 0 σ H1)
    (hs : ∀ i c σ' H', zs.cps.toList[i]? = some c → Pv i σ' H' → tu { D with nx := Pv (i + 1), ct := Pv (i + 1), bk := D.nx } (σ'.set j (some (.str ⟨#[c]⟩))) H') (hd : ∀ σ' H', Pv zs.cps.toList.length σ' H' → D.nx σ' H') : tFor (iStr te) (gName j) tu D σ H :=
  h H (Ex.refl H) _ fun H1 e => ⟨zs, rfl, fun i m σ' H' => m + i = zs.cps.size ∧ Pv i σ' H', ⟨zs.cps.size, by omega, h0 H1 e⟩, fun i m σ' H' ⟨hm, p⟩ => by
    by_cases hi : i < zs.cps.size
    · refine .inr ⟨hi, Pv (i + 1), fun σ2 H2 p2 => ⟨m - 1, by omega, by omega, p2⟩, fun v H2 hy => ?_⟩
      obtain ⟨rfl, c, hc, rfl⟩ := hy
      exact hs i c σ' H2 (by rw [Array.getElem?_toList]; exact hc) p
    · have ei : i = zs.cps.toList.length := by
        rw [Array.length_toList]
        omega
      rw [ei] at p
      exact .inl ⟨Nat.le_of_not_lt hi, hd σ' H' p⟩⟩
theorem q_forS {zs : Str} {j : Nat} (h : Ev te σ H (.str zs)) (Pv : Nat → L2.St → Hp → Prop) (h0 : ∀ H1, Ex H H1 → Pv 0 σ H1)
    (hs : ∀ i c σ' H', zs.cps.toList[i]? = some c → Pv i σ' H' → tu { D with nx := Pv (i + 1), ct := Pv (i + 1), bk := tz D } (σ'.set j (some (.str ⟨#[c]⟩))) H') (hd : ∀ σ' H', Pv zs.cps.toList.length σ' H' → tz D σ' H') : tSeq (tFor (iStr te) (gName j) tu) tz D σ H :=
  s_forS (D := { D with nx := tz D }) h Pv h0 hs hd
theorem q_call {i : Nat} {sp : Sp} {dvs vs : List V} {E : XK} {tr : TA} (h : EvA tr σ H vs) (k : ∀ H1, Ex H H1 → sp (vs ++ dvs) H1 (fun v H2 => tz D (σ.set i (some v)) H2) E) : tSeq (tAsg (tCall sp dvs E tr) (gName i)) tz D σ H := h H (Ex.refl H) _ fun H1 e => k H1 e
/-- a call whose first argument is a new tuple -/
theorem ev_callU1 {sp : Sp} {dvs vs xs : List V} {E : XK} {tr : TA} (h : EvU ta σ H xs) (hr : EvA tr σ H vs) (hs : ∀ p H1, H1 p = some (.tup xs) → Ex H H1 → SpV sp ((.ref p :: vs) ++ dvs) H1 z) : Ev (tCall sp dvs E (tCons ta tr)) σ H z := fun H1 e Q q =>
  h H1 e _ fun p H2 hp e2 h2 => hr H2 (e.trans e2) _ fun H3 e3 => hs p H3 (e3 _ _ h2) ((e.trans e2).trans e3) H3 (Ex.refl _) Q (fun H4 e4 => q H4 ((e2.trans e3).trans e4)) E
theorem ev_index {W : WX} {a b : Str} {k : Nat} {tr : TA} (h : Ev to σ H (.str a)) (hb : EvA tr σ H [.str b]) (hk : Txt.index0 a b = some k) : Ev (tBMS K "str" (rIndexX W) to tr) σ H (.int (k : Int)) := fun H1 e Q q =>
  h H1 e _ fun H2 e2 => ⟨rfl, hb H2 (e.trans e2) _ fun H3 e3 => ⟨a, b, rfl, rfl, fun k' hk' => by
    rw [hk] at hk'
    cases hk'
    exact q H3 (e2.trans e3), fun hn => by
    rw [hk] at hn
    cases hn⟩⟩
theorem ev_find {a b : Str} (h : Ev to σ H (.str a)) (hb : Ev te σ H (.str b)) : Ev (tM1 (fun x xs H Q => ∃ a b, x = .str a ∧ xs = [.str b] ∧ Q (.int (Txt.find a b)) H) to te) σ H (.int (Txt.find a b)) := fun H1 e Q q =>
  h H1 e _ fun H2 e2 => ⟨⟨a, rfl⟩, hb H2 (e.trans e2) _ fun H3 e3 => ⟨a, b, rfl, rfl, q H3 (e2.trans e3)⟩⟩
theorem ev_slS {tl th : TO} {z : Str} {lo hi : Option Int} (h : Ev te σ H (.str z)) (h1 : EvO tl σ H lo) (h2 : EvO th σ H hi) (hz : z.length ≤ sizeLine) : Ev (tSl rSlS te tl th) σ H (.str (cutS z lo hi)) := fun H1 e Q q =>
  h H1 e _ fun H2 e2 => h1 H2 (e.trans e2) _ fun H3 e3 => h2 H3 ((e.trans e2).trans e3) _ fun H4 e4 => ⟨z, rfl, hz, q H4 ((e2.trans e3).trans e4)⟩
/-- text * int -/
def rMulS : R2 := fun x y H Q => ∃ a n, x = .str a ∧ y = .int n ∧ a.length ≤ 1000 ∧ 0 ≤ n ∧ n ≤ 1000 ∧ Q (.str (Txt.mul a n)) H
theorem rv_mulS {a : Str} {n : Int} (h1 : a.length ≤ 1000) (h2 : 0 ≤ n) (h3 : n ≤ 1000) : RV rMulS (.str a) (.int n) H (.str (Txt.mul a n)) := rv_val fun _ _ Q q => ⟨a, n, rfl, rfl, h1, h2, h3, q⟩
end
theorem mulOk {a : Str} {n : Int} (h1 : a.length ≤ 1000) (h2 : 0 ≤ n) (h3 : n ≤ 1000) : MulOk a n := by
  refine ⟨by simp; omega, fun h h' hh => ?_, fun h h' => ?_⟩
  · have p : (0 : Int) < n := by omega
    have m : (a.length : Int) * n ≤ 1000 * 1000 := Int.mul_le_mul (by omega) h3 h2 (by decide)
    have := (Int.le_ediv_iff_mul_le p).mpr (show (a.length : Int) * n ≤ 2 ^ 63 - 1 by omega)
    omega
  · have m : a.length * n.toNat ≤ 1000 * 1000 := Nat.mul_le_mul h1 (by omega)
    have z : sizeLine = 16777216 := rfl
    show decide (a.length * n.toNat > sizeLine) = false
    exact decide_eq_false (by omega)
theorem op_mul_str {X : Cx} : OpR X (binaryOp .Mult) rMulS := by
  intro pins s σ H x y v u Q I rx ry h
  obtain ⟨a, n, rfl, rfl, h1, h2, h3, q⟩ := h
  obtain ⟨t, rfl⟩ := rx
  obtain ⟨t', rfl⟩ := ry
  exact SB.mul (mulOk h1 h2 h3) fun t'' k => ⟨.str (Txt.mul a n), H, I.tok _, ⟨_, rfl⟩, q⟩
section
variable {X : Cx} {σ : L2.St} {H : Hp} {P : Addr} {scope : Scope} {x : Str} {elt : Expr} {te : TE} {fin : Nat → (Nat → Bool) → Bool}
theorem ev_gen {v : V} {n : Nat} {xs : Nat → V} {f : Nat → Bool} (h : Ev te σ H v) (hT : Tab H P) (hs : ∀ H1, Ex H H1 → SrcV X.K H1 v n xs) (he : ∀ H1, Ex H H1 → ∀ i u, i < n → RelV (xs i) u → QV X σ H1 P scope x u elt (.bl (f i))) :
    Ev (tGen X P scope x elt fin te) σ H (.bl (fin n f)) := fun H1 e Q q => h H1 e _ fun H2 e2 => ⟨hT.mono (e.trans e2), n, xs, f, hs H2 (e.trans e2), he H2 (e.trans e2), q H2 e2⟩
end
theorem allF_list {α : Type} (l : List α) (d : α) (p : α → Bool) : allF l.length (fun i => p (l.getD i d)) = l.all p := by
  unfold allF
  rw [Bool.eq_iff_iff, List.all_eq_true, List.all_eq_true]
  constructor
  · intro h y hy
    obtain ⟨i, hi, rfl⟩ := List.getElem_of_mem hy
    have q := h i (List.mem_range.mpr hi)
    rw [List.getD_eq_getElem?_getD, List.getElem?_eq_getElem hi] at q
    exact q
  · intro h i hi
    have hi' := List.mem_range.mp hi
    rw [List.getD_eq_getElem?_getD, List.getElem?_eq_getElem hi']
    exact h _ (List.getElem_mem hi')
theorem anyF_list {α : Type} (l : List α) (d : α) (p : α → Bool) : anyF l.length (fun i => p (l.getD i d)) = l.any p := by
  unfold anyF
  rw [Bool.eq_iff_iff, List.any_eq_true, List.any_eq_true]
  constructor
  · rintro ⟨i, hi, h⟩
    have hi' := List.mem_range.mp hi
    rw [List.getD_eq_getElem?_getD, List.getElem?_eq_getElem hi'] at h
    exact ⟨_, List.getElem_mem hi', h⟩
  · rintro ⟨y, hy, h⟩
    obtain ⟨i, hi, rfl⟩ := List.getElem_of_mem hy
    refine ⟨i, List.mem_range.mpr hi, ?_⟩
    rw [List.getD_eq_getElem?_getD, List.getElem?_eq_getElem hi]
    exact h
theorem src_str {K : PySem.W.Frag} {H : Hp} (z : Str) : SrcV K H (.str z) z.cps.toList.length (fun i => .str ⟨#[z.cps.toList.getD i 0]⟩) := .inr (.inl ⟨z, rfl, Array.length_toList, fun i c hc => by
  have e : z.cps.toList[i]? = some c := by rw [Array.getElem?_toList]; exact hc
  show V.str ⟨#[z.cps.toList.getD i 0]⟩ = V.str ⟨#[c]⟩
  rw [List.getD_eq_getElem?_getD, e]
  rfl⟩)
/-! ### a def whose code object is known -/
structure FunC (K : PySem.W.Frag) (x qual : Str) (st : Stmt) (f : Addr) (fd : FuncData) (c : Addr) : Prop where
  ex : ∃ (oc : Value) (od : Option Addr) (kV doc pm : Value) (an : Option Addr) (ct : Value) (osl : Array (Option Value)), fd = PySem.W.fnOf x qual (defArgs st) (defBody st) (defScope st) .none kV doc pm an (.ref c) ct ∧ K.lookup f = some ⟨oc, od, .func fd, osl⟩ ∧ PySem.W.codeIn K (.ref c) qual = true
  kp : PySem.W.keepIn K (.ref f) = true
section
variable {P : Program} {w : World} {K : PySem.W.Frag} {mg : Str → Option Value} {base : Heap}
theorem FunC.ok {x qual : Str} {st : Stmt} {f c : Addr} {fd : FuncData} {N ps : List Str} {k : Nat} {sp : Sp} (F : FunC K x qual st f fd c) (S : FnScope N ps (defScope st)) (len : ∀ vs H Q E, sp vs H Q E → vs.length = ps.length)
    (hbody : ∀ (A : Around) (outer : List Env) (s : Shared) (H : Hp) (vs : List V) (Q : VK) (E : XK), Room k (A.deeper (envOfC qual (defScope st) s.heap.objs.size f (.ref c))) → sp vs H Q E →
      ∃ t, PSs (cxOf CX0 P w K mg base N qual (defScope st) f (.ref c) A outer s H E).nox (defBody st) t ∧ t { nx := fun _ H' => Q .non H', rt := Q } (start N vs) H) : FnOk P w K mg base CX0 (k + 1) f fd ps sp := by
  obtain ⟨oc, od, kV, doc, pm, an, ct, osl, rfl, lk, hcd⟩ := F.ex
  exact fn_of lk hcd S len fun A outer s H vs Q E hr hsp => let ⟨t, h, q⟩ := hbody A outer s H vs Q E hr hsp; ⟨t, h.nox, q⟩
theorem FunC.fun {x qual : Str} {st : Stmt} {f c : Addr} {fd : FuncData} (F : FunC K x qual st f fd c) : Fun K x qual st f fd := let ⟨oc, od, kV, doc, pm, an, ct, osl, e, lk, hcd⟩ := F.ex; ⟨⟨oc, od, kV, doc, pm, an, .ref c, ct, osl, e, lk, hcd⟩, F.kp⟩
theorem tab_mk {x : Str} {f c T : Addr} {oc e : Value} {od dd : Option Addr} {osl sl : Array (Option Value)} {fd : FuncData} {vs : Array Value} (a : PySem.W.nsIn K mainGlobals x = some (some (.ref f))) (l : K.lookup f = some ⟨oc, od, .func fd, osl⟩)
    (h : K.lookup c = some ⟨e, dd, .fields vs, sl⟩) (hv : vs[11]? = some (.ref T)) (hc : fd.code = .ref c := by rfl) : PySem.W.tabIn K x = some (c, T) := by
  unfold PySem.W.tabIn
  rw [a]
  dsimp only
  rw [l]
  dsimp only
  rw [hc]
  dsimp only
  rw [h]
  dsimp only
  rw [hv]
theorem funC_mk {x qual : Str} {st : Stmt} {f c T : Addr} {oc : Value} {od an : Option Addr} {osl : Array (Option Value)} {kV doc pm cdv ct : Value} (a : PySem.W.nsIn K mainGlobals x = some (some (.ref f))) (l : K.lookup f = some ⟨oc, od, .func (PySem.W.fnOf x qual (defArgs st) (defBody st) (defScope st) .none kV doc pm an cdv ct), osl⟩)
    (cd : PySem.W.codeIn K cdv qual = true) (k : PySem.W.keepIn K (.ref f) = true) (ht : PySem.W.tabIn K x = some (c, T)) : FunC K x qual st f (PySem.W.fnOf x qual (defArgs st) (defBody st) (defScope st) .none kV doc pm an cdv ct) c := by
  have e : cdv = .ref c := by
    unfold PySem.W.tabIn at ht
    rw [a] at ht
    dsimp only at ht
    rw [l] at ht
    dsimp only [PySem.W.fnOf] at ht
    cases cdv with
    | ref c' =>
      dsimp only at ht
      split at ht
      · split at ht
        · cases ht
          rfl
        · cases ht
      · cases ht
    | _ => cases ht
  subst e
  exact ⟨⟨oc, od, kV, doc, pm, an, ct, osl, rfl, l, cd⟩, k⟩
end
end LS

set_option Elab.async false
set_option linter.all false
set_option maxRecDepth 100000
set_option maxHeartbeats 4000000
namespace LQ
open PySem PySem.Spec PyProof.Rows L2 Evl LT LG LS
/-! ### calls within the elements of a generator expression -/
section
variable {X : Cx} {σ : L2.St} {H : Hp} {P : Addr} {scope : Scope} {x : Str} {u : Value} {a b : Expr} {za zb z : V} {pos p : Pos}
theorem fc_blt {y : Str} {r : Value} {cenv : Env} {A' : Around} {E' : Value → Shared → Prop} {s : Shared} {m : Str → Option Value} {Q : Value → Shared → Prop} (F : Fc X σ H P scope x u cenv A' s m) (hk : scope.kind = .function) (hl : scope.names.lookup y = some .globalImplicit) (hm : X.mg y = none) (hv : bootBuiltins y = some r) (h : Q r s)
    (hn : y ≠ "__name__" := by decide) (hd : (y == ("__debug__" : Str)) = false := by decide) : wpAny (model X.prog X.w) A' (eval (.Name y p) cenv) Q E' s := by
  obtain ⟨mb, h1, h2⟩ := F.md.blt
  exact Calls.Name_function_global (by rw [F.sc]; exact hk) (show cenv.scope.names.lookup y = some .globalImplicit by rw [F.sc]; exact hl) (Calls.loadGlobal_builtin (by rw [F.gl]; exact F.md.glob.keeps F.base) hm (by rw [F.bi]; exact h1.keeps F.base) ((h2 y hn).trans hv) h) hd
theorem qv_blt {y : Str} {r : Value} (hk : scope.kind = .function) (hl : scope.names.lookup y = some .globalImplicit) (hm : X.mg y = none) (hv : bootBuiltins y = some r) (hz : RelV z r) (hn : y ≠ "__name__" := by decide) (hd : (y == ("__debug__" : Str)) = false := by decide) :
    QV X σ H P scope x u (.Name y p) z := fun cenv A' E' s m F => fc_blt F hk hl hm hv ⟨hz, kp_refl _⟩ hn hd
/-- a built-in function of two arguments -/
theorem qv_blt2 {y : Str} {id : String} (hk : scope.kind = .function) (hl : scope.names.lookup y = some .globalImplicit) (hm : X.mg y = none) (hv : bootBuiltins y = some (.builtin id)) (ha : QV X σ H P scope x u a za) (hb : QV X σ H P scope x u b zb) (hr : QR X σ H P scope x u (fun v w => call (.builtin id) [v, w]) za zb z)
    (he : ∀ env, starEach [a, b] env = (false, eval a env) :: starEach [b] env := by intro _; rfl) (h2 : ∀ env, starEach [b] env = [(false, eval b env)] := by intro _; rfl) (hn : y ≠ "__name__" := by decide) (hd : (y == ("__debug__" : Str)) = false := by decide) :
    QV X σ H P scope x u (.Call (.Name y p) [a, b] [] pos) z := fun cenv A' E' s m F => by
  refine wpAny_Call_Name_kw (fc_blt F hk hl hm hv ?_ hn hd)
  refine PyProof.Rows.callWith_builtin1 ?_ (he cenv) (by rw [h2 cenv]; rfl)
  rw [he cenv, h2 cenv]
  show wpAny _ _ (spliced [(false, eval a cenv), (false, eval b cenv)]) _ _ s
  refine Calls.spliced_cons (wpAny_mono (ha cenv A' E' s m F) (fun v s1 r1 => ?_) fun _ _ e => e)
  refine Calls.spliced_cons (wpAny_mono (hb cenv A' E' s1 m (F.keeps r1.2)) (fun w s2 r2 => ?_) fun _ _ e => e)
  exact Calls.spliced_nil (wpAny_mono (hr cenv A' E' s2 m v w ((F.keeps r1.2).keeps r2.2) r1.1 r2.1) (fun y s3 r3 => ⟨r3.1, kp_trans (kp_trans r1.2 r2.2) r3.2⟩) fun _ _ e => e)
/-- what isinstance asks of a value -/
theorem kit_fc {cenv : Env} {A' : Around} {s : Shared} {m : Str → Option Value} {v : Value} {t : Value} (F : Fc X σ H P scope x u cenv A' s m) (hT : Tab H P) (r : RelV z v) (ty : TyOf X.K H z t) (no : ∀ a C dx fs, H a = some (.ins C dx fs) → z ≠ .ref a) :
    ∃ Pz : Heap → Prop, PySem.W.KitX X.K v t Pz ∧ Pz s.heap ∧ v ≠ .builtin "__main__.__loader__#opaque" := by
  have rd : ∀ {a : Addr} {o : HO}, H a = some o → (∀ φ, o ≠ .ext φ) → but P H a = some o := fun {a o} e n => by
    rw [but_ne fun z => by rw [z, hT] at e; exact n _ (Option.some.inj e).symm]
    exact e
  cases ty with
  | non => cases (show v = Value.none from r); exact ⟨_, PySem.W.kitx_none, True.intro, fun z => nomatch z⟩
  | bl y => cases (show v = Value.bool y from r); exact ⟨_, PySem.W.kitx_bool, True.intro, fun z => nomatch z⟩
  | int i => obtain ⟨t, q⟩ := (show ∃ t, v = Value.int i t from r); cases q; exact ⟨_, PySem.W.kitx_int, True.intro, fun z => nomatch z⟩
  | str y => obtain ⟨t, q⟩ := (show ∃ t, v = Value.str y t from r); cases q; exact ⟨_, PySem.W.kitx_str, True.intro, fun z => nomatch z⟩
  | flt y => obtain ⟨t, q⟩ := (show ∃ t, v = Value.float y t from r); cases q; exact ⟨_, PySem.W.kitx_float, True.intro, fun z => nomatch z⟩
  | @lst a xs ea =>
    cases (show v = Value.ref a from r)
    obtain ⟨_, _, n, _, h1⟩ := (show ObjOk X.prog X.w (but P H) s.heap a (.lst xs) from F.hok a _ (rd ea (fun φ z => by cases z)))
    exact ⟨_, PySem.W.kitx_list, ⟨_, h1, rfl⟩, fun z => nomatch z⟩
  | @frz a ob xs ea =>
    cases (show v = Value.ref a from r)
    obtain ⟨_, _, _, n, _, h1⟩ := (show ObjOk X.prog X.w (but P H) s.heap a (.frz ob (.lst xs)) from F.hok a _ (rd ea (fun φ z => by cases z)))
    exact ⟨_, PySem.W.kitx_list, ⟨_, h1, rfl⟩, fun z => nomatch z⟩
  | @tup a xs ea =>
    cases (show v = Value.ref a from r)
    obtain ⟨_, _, _, o, h1, h2, _⟩ := (show ObjOk X.prog X.w (but P H) s.heap a (.tup xs) from F.hok a _ (rd ea (fun φ z => by cases z)))
    exact ⟨_, PySem.W.kitx_tuple, ⟨o, h1, h2⟩, fun z => nomatch z⟩
  | @dK a kvs ea =>
    cases (show v = Value.ref a from r)
    obtain ⟨_, _, vs, _, o, es, ep, h1, h2, _⟩ := F.hok a _ (rd ea (fun φ z => by cases z))
    exact ⟨_, PySem.W.kitx_dict, ⟨o, h1, h2.1⟩, fun z => nomatch z⟩
  | @dT a kvs ea =>
    cases (show v = Value.ref a from r)
    obtain ⟨_, _, xs, _, o, es, ep, h1, h2, _⟩ := F.hok a _ (rd ea (fun φ z => by cases z))
    exact ⟨_, PySem.W.kitx_dict, ⟨o, h1, h2.1⟩, fun z => nomatch z⟩
  | @ins a C dx fs ea cl ha hn htk hm => exact absurd rfl (no a C dx fs ea)
theorem qr_isi {T : String} {t : Value} {b : Bool} (hT : Tab H P) (ty : TyOf X.K H z t) (no : ∀ a C dx fs, H a = some (.ins C dx fs) → z ≠ .ref a) (hk : PySem.W.kitOne X.K t (.type T) = some b) : QR X σ H P scope x u (fun v w => call (.builtin "isinstance") [v, w]) z (.ty T) (.bl b) := fun cenv A' E' s m v w F r1 r2 => by
  cases (show w = Value.type T from r2)
  obtain ⟨Pz, Z, p, hx⟩ := kit_fc F hT r1 ty no
  exact PySem.W.kia_one Z F.kin p hk hx fun tk => ⟨rfl, kp_tok _ _⟩
theorem qv_is {z' : V} (h : QV X σ H P scope x u a z) (e : z = z') : QV X σ H P scope x u a z' := e ▸ h
theorem qv_not {c : Bool} (ha : QV X σ H P scope x u a (.bl c)) : QV X σ H P scope x u (.UnaryOp .Not a pos) (.bl (!c)) := fun cenv A' E' s m F => by
  refine UnaryOp_ (wpAny_mono (ha cenv A' E' s m F) (fun v s1 r1 => ?_) fun _ _ e => e)
  obtain ⟨rfl, k⟩ := r1
  exact not_of (wpAny_truthy_bool ⟨rfl, k⟩)
theorem qv_one {op : BoolOp} (ha : QV X σ H P scope x u a z) : QV X σ H P scope x u (.BoolOp op [a] pos) z := fun cenv A' E' s m F => BoolOp_one (ha cenv A' E' s m F)
theorem qv_and {rest : List Expr} {c d : Bool} (ha : QV X σ H P scope x u a (.bl c)) (hb : c = true → QV X σ H P scope x u (.BoolOp .And (b :: rest) pos) (.bl d)) : QV X σ H P scope x u (.BoolOp .And (a :: b :: rest) pos) (.bl (c && d)) := fun cenv A' E' s m F => by
  refine BoolOp_and (wpAny_mono (ha cenv A' E' s m F) (fun v s1 r1 => ?_) fun _ _ e => e)
  obtain ⟨rfl, k⟩ := r1
  refine wpAny_truthy_bool ?_
  cases c with
  | true => exact wpAny_mono (hb rfl cenv A' E' s1 m (F.keeps k)) (fun y s3 r3 => ⟨r3.1, kp_trans k r3.2⟩) fun _ _ e => e
  | false => exact ⟨rfl, k⟩
theorem qr_ge_int {i j : Int} : QR X σ H P scope x u (compareOp .GtE) (.int i) (.int j) (.bl (decide (j ≤ i))) := fun cenv A' E' s m v w F r1 r2 => by
  obtain ⟨t, rfl⟩ := r1
  obtain ⟨t', rfl⟩ := r2
  exact ge_int ⟨rfl, kp_refl _⟩
/-- an own def of one argument whose body is one return -/
theorem qv_call1 {nm pn qual : Str} {st : Stmt} {f : Addr} {fd : FuncData} {N : List Str} {e : Expr} {rp : Pos} {k : Nat} (hr : Room k X.A) (hk : scope.kind = .function) (hl : scope.names.lookup nm = some .globalImplicit) (hm : X.mg nm = some (.ref f)) (F : Fun X.K nm qual st f fd) (hbody : defBody st = [.Return (some e) rp]) (S : FnScope N [pn] (defScope st)) (hloc : (defScope st).names.lookup pn = some .local)
    (hb : Binds X.K fd [pn] []) (ha : QV X σ H P scope x u a za) (he : ∀ (A0 : Around) (v : Value), RelV za v → QV { X with A := A0 } σ H P (defScope st) pn v e z) (hs : ∀ env, starEach [a] env = (false, eval a env) :: starEach [] env := by intro _; rfl) (hd : (nm == ("__debug__" : Str)) = false := by decide) :
    QV X σ H P scope x u (.Call (.Name nm p) [a] [] pos) z := fun cenv A' E' s m Fc0 => by
  refine wpAny_Call_Name_kw (Calls.Name_function_global (by rw [Fc0.sc]; exact hk) (show cenv.scope.names.lookup nm = some .globalImplicit by rw [Fc0.sc]; exact hl) (Calls.loadGlobal_global (by rw [Fc0.gl]; exact Fc0.md.glob.keeps Fc0.base) hm ?_) hd)
  refine PySem.W.callWith_K (h₀ := X.base) Fc0.md.kin F.kp ?_ (hs cenv) (by rfl)
  rw [hs cenv]
  show wpAny _ _ (spliced ((false, eval a cenv) :: [])) _ _ s
  refine Calls.spliced_cons (wpAny_mono (ha cenv A' E' s m Fc0) (fun v s1 r1 => Calls.spliced_nil ?_) fun _ _ e => e)
  have F1 := Fc0.keeps r1.2
  refine ⟨F1.kin, ?_⟩
  obtain ⟨oc, od, kV, doc, pm, an, cdv, ct, osl, rfl, lk, hcd⟩ := F.ex
  refine wpAny_call (Att.call_fn (binds := [(pn, v)]) F1.kin (F1.md.nolimit.keeps F1.base) lk hcd (by have := hr.dp; have := Fc0.dp; omega) (hb s1 [v] F1.kin rfl) ?_ (fun s2 IC => ?_) S.co S.gen S.kind)
  · simp only [List.all_cons, List.all_nil, Bool.and_true, Bool.or_eq_true, beq_iff_eq]
    exact .inl hloc
  · obtain ⟨h2, tk2, rfl⟩ := IC.toInCall.same
    have kk : ∀ b o, s1.heap.get? b = some o → h2.get? b = some o := IC.toInCall.keep
    rw [hbody]
    have Fn : Fc { X with A := A' } σ H P (defScope st) pn v (envOfC qual (defScope st) s1.heap.objs.size f cdv) (A'.deeper (envOfC qual (defScope st) s1.heap.objs.size f cdv)) { s1 with heap := h2, toks := tk2 } _ :=
      ⟨Fc0.hd, Nat.le_refl _, by show A'.units + 3 ≤ A'.units + 8; omega, rfl, rfl, rfl, IC.toInCall.ns, by
        show bindL _ [(pn, v)] _ pn = some v
        unfold bindL
        have hkd : (envOfC qual (defScope st) s1.heap.objs.size f cdv).kindOf pn = some .local := hloc
        rw [hkd]
        simp [bindL], fun b o e => kk b o (F1.base b o e), F1.md, F1.hok.kept kk, fun i y w h1 h2 h3 h4 => absurd rfl (S.nofree (y, .free) (lookup_mem' h4))⟩
    refine wpAny_execs_cons (wpAny_Return_some (wpAny_mono (he A' v r1.1 _ _ _ _ _ Fn) (fun y s3 r3 => ⟨r3.1, kp_trans (kp_trans r1.2 ⟨h2, tk2, rfl, kk⟩) r3.2⟩) fun _ _ e => e))
end
end LQ

set_option Elab.async false
set_option linter.all false
set_option maxRecDepth 100000
set_option maxHeartbeats 4000000
namespace LX
open PySem PySem.Spec PyProof.Rows L2 Evl LT LG LS
/-! ### own exceptions without arguments -/
abbrev veTail : List Value := [.type "ValueError", .type "Exception", .type "BaseException", .type "object"]
/-- an exception class of the text: its name, what the written part says of it -/
structure Xc (K : PySem.W.Frag) (mg : Str → Option Value) (nm : Str) (C : Addr) : Prop where
  g : mg nm = some (.ref C)
  x : PySem.W.excIn K C veTail "ValueError.__new__" = true
  k : PySem.W.keepIn K (.ref C) = true
  b : PySem.W.subIn K (.ref C) (.type "BaseException") = some true
  t : PySem.W.typeIn K (.ref C) = some (.type "type")
  d : PySem.W.hasDictIn K C = true
section
variable {X : Cx} {C D : Addr} {nm : Str}
theorem pmk_own0 {p pos : Pos} (T : Xc X.K X.mg nm C) (hg : Gl X nm) (hdb : (nm == ("__debug__" : Str)) = false := by decide) : PMk X (.Call (.Name nm p) [] [] pos) (fun _ H Q => Q (.ref C) none H) := by
  intro pins s σ H Q I h
  refine wpAny_Call_Name_kw (ld_glob I hg T.g ?_ hdb)
  refine PySem.W.callWith_K0 I.kIn T.k ?_
  show wpAny _ _ (call (.ref C) []) _ _ _
  obtain ⟨_, _, _, _, _, _, _, _, _, _, _, _, _, _, _, _, _, hC, hN, hni, TT⟩ := exc_obj I.kIn T.x
  refine wpAny_call_exc_subT PySem.F.excBase_ValueError TT hC hN hni (fun h' e hm => ?_) (Nat.zero_le _)
  exact mk_of I hm (raises_own T.b T.t) h (I.hok.gone hm.new)
theorem ps_raise0 {W : WX} {p pos pos2 : Pos} (hc : X.calm = true) (T : Xc X.K X.mg nm C) (tk : Takes X W) (hg : Gl X nm) (hdb : (nm == ("__debug__" : Str)) = false := by decide) : PS X (.Raise (some (.Call (.Name nm p) [] [] pos)) none pos2) (fun _ σ H => W (.ref C) none σ H) := ps_raise hc tk (pmk_own0 T hg hdb)
/-- isinstance(e, c), e what the suite holds -/
def rIsX (K : PySem.W.Frag) (D a : Addr) (cls : Value) (d : Option Addr) : List V → Hp → VK → Prop := fun xs H Q => cls = .ref D ∧ d = none ∧ rIsE K D a xs H Q
theorem call_isX {a : Addr} {oe : Obj} {cls : Value} {d : Option Addr} {pn : List (Addr × Obj)} (C : ExcC X.K D) (hz : Zc cls d oe) (hf : ∃ vs, oe.data = .fields vs) : CallR (X.suite a ((a, oe) :: pn)) (.builtin "isinstance") (rIsX X.K D a cls d) := by
  intro pins s σ H xs us Q I r h
  obtain ⟨rfl, rfl, h⟩ := h
  exact call_isE C hz hf pins s σ H xs us Q I r h
end
section
variable {K : PySem.W.Frag} {mg : Str → Option Value} {C D : Addr} {nm : Str} {b : Bool}
theorem Xc.exm (T : Xc K mg nm C) {cls : Value} (h : PySem.W.subIn K cls (.ref C) = some b) : PySem.W.exmOne K cls (.ref C) = some b := PySem.W.exm_ref T.b T.d T.t h
theorem Xc.kit (T : Xc K mg nm C) {cls : Value} (h : PySem.W.subIn K cls (.ref C) = some b) (hn : cls = .ref C → b = true) : PySem.W.kitOne K cls (.ref C) = some b := by
  have e := T.exm h
  unfold PySem.W.exmOne at e
  rw [T.b] at e
  unfold PySem.W.kitOne
  by_cases q : cls = .ref C
  · rw [hn q, q]
    simp
  · rw [if_neg (by simpa using q)]
    simpa using e
end
/-- a try whose suite returns: what the body's calls that return do, what the suite does -/
theorem ev_isX {K : PySem.W.Frag} {D a C : Addr} {σ : L2.St} {H : Hp} {ta tb : TE} {b : Bool} (h : Ev ta σ H (.ref a)) (hn : Ev tb σ H (.ref C)) (hk : PySem.W.kitOne K (.ref D) (.ref C) = some b) : Ev (tCB (rIsX K D a (.ref D) none) (tCons ta (tCons tb tNil))) σ H (.bl b) :=
  ev_cb (ea_cons h (ea_cons hn ea_nil)) fun H1 e Q q => ⟨rfl, rfl, .ref C, .ref C, b, rfl, fun u hu => hu, hk, q H1 (Ex.refl H1)⟩
theorem pass_own {X : Cx} {E : XK} (tk : Takes X (fun cls d _ H => E cls d H)) : Passes (L2.CX X.prog X.w) X E := passes_call tk fun _ _ _ _ h => h
end LX

set_option Elab.async false
set_option linter.all false
set_option maxRecDepth 100000
set_option maxHeartbeats 4000000
namespace LH
open PySem PySem.Spec PyProof.Rows L2 Evl LT LG
/-! ### generator expressions, whatever their elements do -/
/-- the context of a generator's frame: its own stack, what stands at its start -/
abbrev gnb (X : Cx) (A' : Around) (s : Shared) (H : Hp) (cenv : Env) (fp : List Addr) : Cx :=
  { X with A := A', s_0 := s, H_0 := H, env := cenv, outer := X.stack, stack := cenv :: X.stack, ex := fp, fn := fun _ => false, calm := true, pn := [], xe := fun _ _ => False }
/-- the frame's own environment -/
abbrev gnE (X : Cx) (scope : Scope) (C : Addr) (code : Value) : Env := genEnv scope (cloFrom X.env.cells scope.names []) C code builtinsNs X.env
section
variable {X : Cx} {pins : List (Addr × Obj)} {σ : L2.St} {H : Hp} {s : Shared}
theorem clo_back {cells : List (Str × Addr)} {scope : Scope} (hfree : ∀ y ∈ scope.names, y.2 = .free → ∃ c, cells.lookup y.1 = some c) {y : Str} {c : Addr} (e : (cloFrom cells scope.names []).lookup y = some c) : (y, NameKind.free) ∈ scope.names ∧ cells.lookup y = some c := by
  rcases cloFrom_mem (PySem.mem_of_lookup e) with h | ⟨h1, h2⟩
  · cases h
  · obtain ⟨d, hd⟩ := hfree _ h1 rfl
    have hd' : cells.lookup y = some d := hd
    rw [hd'] at h2
    exact ⟨h1, by rw [hd', h2]; rfl⟩
theorem gen_begin {A' : Around} {scope : Scope} {own : List (Str × Nat)} {fp : List Addr} {code : Value} {m : Str → Option Value} {h' : Heap} {g' : Array GenState} {t' : Nat} (I : Inv X pins σ H s) (ok : BlkOk X.N X.env.scope scope own) (hcell : ∀ y ∈ scope.names, y.2 ≠ .cell) (hN : X.N.Nodup)
    (hfp : ∀ b ∈ fp, FpOk X pins H b ∧ b < s.heap.objs.size) (hA : A'.handled = none) (hfr : A'.frames = some (gnE X scope s.heap.objs.size code :: X.stack)) (hk : ∀ b o, s.heap.get? b = some o → h'.get? b = some o) (hn : h'.Ns s.heap.objs.size m) (hg : AllBare g') :
    Inv (gnb X A' s H (gnE X scope s.heap.objs.size code) fp) [] (wipe σ (own.map (·.2))) H { s with heap := h', gens := g', toks := t' } := by
  have hfree : ∀ y ∈ scope.names, y.2 = .free → ∃ c, X.env.cells.lookup y.1 = some c := fun y hy e => (ok.free y hy e).elim (fun k => I.ok.has _ (.inl k)) fun k => I.ok.has _ (.inr k)
  have back : ∀ {y : Str} {c : Addr}, (gnE X scope s.heap.objs.size code).cells.lookup y = some c → (y, NameKind.free) ∈ scope.names ∧ X.env.cells.lookup y = some c := fun {y c} e => clo_back hfree e
  have clt : ∀ {y : Str} {c : Addr}, X.env.cells.lookup y = some c → c < s.heap.objs.size := fun {y c} e => let ⟨_, z⟩ := I.cell _ _ e; z.lt
  have fwd : ∀ {y : Str}, scope.names.lookup y = some .free → ∃ c, (gnE X scope s.heap.objs.size code).cells.lookup y = some c ∧ X.env.cells.lookup y = some c := fun {y} hl =>
    let ⟨c, hc⟩ := hfree _ (PySem.mem_of_lookup hl) rfl
    ⟨c, clo_lookup (PySem.mem_of_lookup hl) hc, hc⟩
  have okG : (gnb X A' s H (gnE X scope s.heap.objs.size code) fp).Ok := by
    refine ⟨I.ok.mod, ok.kind, I.ok.glob, rfl, Nat.le_refl _, fun y z c e1 e2 => I.ok.inj y z c (back e1).2 (back e2).2, fun y hy => ?_, fun y c z => (Bool.noConfusion (show false = true from z)), fun _ => hA, hfr, .inr ⟨rfl, rfl⟩, fun b hb => ⟨Nat.ne_of_lt (hfp b hb).2, fun y c e z => (hfp b hb).1.2.2.2.2.1 y c (back e).2 z⟩, I.bs, Nat.le_trans I.ok.bsz I.sz, fun b o e hb => ?_, fun b hb z => ?_, I.stack, I.stkFree⟩
    · rcases hy with hy | hy
      · exact absurd rfl (hcell _ (PySem.mem_of_lookup (show scope.names.lookup y = some .cell from hy)))
      · obtain ⟨c, h1, _⟩ := fwd (show scope.names.lookup y = some .free from hy)
        exact ⟨c, h1⟩
    · rcases (hfp b hb).1.2.2.2.1 with z | z
      · exact I.ok.noex b o e z
      · exact Nat.lt_irrefl _ (Nat.lt_of_lt_of_le (Nat.lt_of_lt_of_le (Heap.lt_size e) I.ok.bsz) z)
    · rcases List.mem_cons.mp (I.stkSub b z) with z | z
      · exact (hfp b hb).1.2.1 z
      · exact (hfp b hb).1.2.2.1 z
  refine ⟨okG, rfl, hg, Un.kept hk, ⟨m, hn, fun i y av e1 e2 e3 => ?_⟩, fun y c e => ?_, I.hok.fresh (Nat.le_refl _), fun y c e => I.freeC y c (back e).2, fun p hp => absurd (show p ∈ ([] : List (Addr × Obj)) ++ [] from hp) (by simp), I.hok.kept hk, by rw [wipe_length]; exact I.len⟩
  · obtain ⟨e2, hne⟩ := wipe_some e2
    have hfr : scope.names.lookup y = some .free := by
      have no : ∀ k, scope.names.lookup y = some k → ¬ (k = .local ∨ k = .cell) := fun k hk hh => by
        rcases ok.own _ (PySem.mem_of_lookup hk) hh with e' | e'
        · obtain ⟨p, hp, hpy⟩ := List.mem_map.mp e'
          have e4 := ok.ix p hp
          have : p.1 = y := hpy
          rw [this] at e4
          exact hne (List.mem_map.mpr ⟨p, hp, nodup_ix hN e4 e1⟩)
        · exact e' (List.mem_of_getElem? e1)
      rcases (show Vis scope y from e3) with e3 | e3 | e3
      · exact absurd (.inl rfl) (no _ e3)
      · exact absurd (.inr rfl) (no _ e3)
      · exact e3
    obtain ⟨m0, _, hl⟩ := I.loc
    have hvis : Vis X.env.scope y := (ok.free _ (PySem.mem_of_lookup hfr) rfl).elim (fun k => .inr (.inl k)) fun k => .inr (.inr k)
    obtain ⟨w, r, q⟩ := hl i y av e1 e2 hvis
    obtain ⟨c, h1, h2⟩ := fwd hfr
    refine ⟨w, r, .inr ⟨.inr hfr, c, h1, ?_⟩⟩
    rcases q with ⟨k, _⟩ | ⟨_, c', e', z⟩
    · have k : X.env.scope.names.lookup y = some .local := k
      rcases ok.free _ (PySem.mem_of_lookup hfr) rfl with k' | k' <;> rw [show X.env.scope.names.lookup y = _ from k'] at k <;> cases k
    · rw [h2] at e'; cases e'
      exact z.keeps hk
  · obtain ⟨w, z⟩ := I.cell y c (back e).2
    exact ⟨w, z.keeps hk⟩
/-! ### turns -/
/-- what stands between two turns: i taken -/
def Btw (Y : Cx) (a : Addr) (oa : Obj) (τ : L2.St) (fp : List Addr) (tn : Nat → Heap → Prop) (W : Nat → Hp → Prop) (Sp : List Addr) (i : Nat) (s : Shared) : Prop :=
  ∃ (H' : Hp) (ps : List (Addr × Obj)), ps.map (·.1) = Sp ∧ Inv Y ((a, oa) :: ps) τ H' s ∧ tn i s.heap ∧ (∀ b ∈ fp, FpOk Y ((a, oa) :: ps) H' b) ∧ W i H'
/-- the end -/
def Gone (Y : Cx) (a : Addr) (oa : Obj) (τ : L2.St) (W : Nat → Hp → Prop) (n : Nat) (Sp : List Addr) (s : Shared) : Prop :=
  ∃ (H' : Hp) (ps : List (Addr × Obj)) (i : Nat), i ≤ n ∧ ps.map (·.1) = Sp ∧ Inv Y ((a, oa) :: ps) τ H' s ∧ W i H'
def Same (Sp : List Addr) (s s' : Shared) : Prop := ∀ b ∈ Sp, ∃ o, s.heap.get? b = some o ∧ s'.heap.get? b = some o
theorem Same.trans {Sp : List Addr} {s s1 s2 : Shared} (a : Same Sp s s1) (b : Same Sp s1 s2) : Same Sp s s2 := fun x hx => by
  obtain ⟨o, h1, h2⟩ := a x hx
  obtain ⟨o', h3, h4⟩ := b x hx
  rw [h2] at h3
  cases h3
  exact ⟨o, h1, h4⟩
theorem same_pins {Y : Cx} {p : Addr × Obj} {ps q1 q2 : List (Addr × Obj)} {τ τ' : L2.St} {H H' : Hp} {s s' : Shared} (I : Inv Y (p :: ps ++ q1) τ H s) (I' : Inv Y (p :: ps ++ q2) τ' H' s') : Same (ps.map (·.1)) s s' := fun b hb => by
  obtain ⟨x, hx, rfl⟩ := List.mem_map.mp hb
  have m : ∀ q, x ∈ Y.pn ++ (p :: ps ++ q) := fun q => List.mem_append_right _ (List.mem_append_left _ (List.mem_cons_of_mem _ hx))
  exact ⟨x.2, (I.pin x (m _)).1, (I'.pin x (m _)).1⟩
theorem same_pins0 {Y : Cx} {p : Addr × Obj} {ps : List (Addr × Obj)} {τ τ' : L2.St} {H H' : Hp} {s s' : Shared} (I : Inv Y (p :: ps) τ H s) (I' : Inv Y (p :: ps) τ' H' s') : Same (ps.map (·.1)) s s' :=
  same_pins (q1 := []) (q2 := []) (by simpa using I) (by simpa using I')
/-- what is handed out -/
def GPr (vals : Nat → V) (n : Nat) (Sp : List Addr) (J : Nat → Shared → Prop) : Protocol := fun m s₀ v s kap =>
  ∃ i, i + m + 1 = n ∧ RelV (vals i) v ∧ Same Sp s₀ s ∧ J (i + 1) s ∧ ∀ s'', J (i + 1) s'' → kap (.send .none) s''
theorem seg_turns {A₁ : Around} {elt tg iter : Expr} {scope : Scope} {pos : Pos} {it a : Addr} {oa : Obj} {cenv : Env} {Y : Cx} {fp : List Addr} {tn : Nat → Heap → Prop} {J : It} {W : Nat → Hp → Prop} {Sp : List Addr} {n : Nat} {vals : Nat → V} {g : TG} {te : TE} {vs : List Nat} {σ : L2.St}
    (hYA : Y.A = A₁.over (.compLoop (.GeneratorExp elt [⟨tg, iter, [], 0⟩] scope pos) 0 (.ref it) .none cenv) []) (hYe : Y.env = cenv) (hc : Y.calm = true) (hxe : Y.xe = fun _ _ => False) (hco : cenv.scope.isCoroutine = false) (T : Turn Y.prog Y.w Y.K tg J fp it tn) (pg : PG Y tg g) (pe : PE Y elt te)
    (turn : ∀ i H', i < n → W i H' → J.go i H' ∧ ∀ x H2, J.yld i H' x H2 → g x (wipe σ vs) H2 fun σ2 H3 => wipe σ2 vs = wipe σ vs ∧ te σ2 H3 fun y H4 => y = vals i ∧ W (i + 1) H4) (stop : ∀ H', W n H' → J.stop n H') :
    ∀ (k i : Nat) (s₀ s : Shared), n - i = k → i ≤ n → Same Sp s₀ s → Btw Y a oa (wipe σ vs) fp tn W Sp i s →
      Seg (model Y.prog Y.w) A₁ (fun m s₀ r s₁ => r = .ok .next ∧ (m = 0 ∧ (Same Sp s₀ s₁ ∧ Gone Y a oa (wipe σ vs) W n Sp s₁))) (GPr vals n Sp (Btw Y a oa (wipe σ vs) fp tn W Sp)) (n - i) s₀
        (.compLoop (.GeneratorExp elt [⟨tg, iter, [], 0⟩] scope pos) 0 (.ref it) .none cenv) ((model Y.prog Y.w).den (.compLoop (.GeneratorExp elt [⟨tg, iter, [], 0⟩] scope pos) 0 (.ref it) .none cenv)) [] s := by
  intro k
  induction k with
  | zero =>
    intro i s₀ s hk hi hS ⟨H', ps, hps, I, st, hf, w⟩
    obtain rfl : i = n := by omega
    show Seg _ A₁ _ _ _ s₀ _ ((compTurn (.GeneratorExp elt [⟨tg, iter, [], 0⟩] scope pos) 0 (.ref it) .none cenv).onRaise (leaving cenv)) [] s
    rw [compTurn_gen, Sem.onRaise_eq_wrap]
    refine seg_bind_wrap (wpAny_standAt (seg_bind_wrap ?_))
    have td := T.done Y rfl rfl rfl hc i _ s _ H' (fun _ _ => False) I hf st (stop _ w)
    rw [hYA] at td
    refine thnF td fun r s1 ⟨hr, I1⟩ => ?_
    subst hr
    exact seg_end (.ok .next) ⟨rfl, by omega, hS.trans (hps ▸ same_pins0 I I1), H', ps, i, Nat.le_refl _, hps, I1, w⟩
  | succ k ih =>
    intro i s₀ s hk hi hS ⟨H', ps, hps, I, st, hf, w⟩
    have hlt : i < n := by omega
    obtain ⟨m, hm⟩ : ∃ m, n - i = m + 1 := ⟨n - i - 1, by omega⟩
    show Seg _ A₁ _ _ _ s₀ _ ((compTurn (.GeneratorExp elt [⟨tg, iter, [], 0⟩] scope pos) 0 (.ref it) .none cenv).onRaise (leaving cenv)) [] s
    rw [compTurn_gen, Sem.onRaise_eq_wrap]
    refine seg_bind_wrap (wpAny_standAt (seg_bind_wrap ?_))
    obtain ⟨go, step⟩ := turn i H' hlt w
    have ti := T.item Y rfl rfl rfl hc i _ s _ H' (fun _ _ => False) I hf st go
    rw [hYA] at ti
    refine thnF ti fun r s6 ⟨u, hr, h6⟩ => ?_
    subst hr
    refine seg_bind_wrap (thnF h6 fun _ s7 ⟨x, H7, I7, r7, y7, st7, n7⟩ => ?_)
    have hf7 : ∀ b ∈ fp, FpOk Y ((a, oa) :: ps) H7 b := fun b hb => ⟨n7 b hb, (hf b hb).2⟩
    have I7' := I7.pinned hf7 (T.obj _ _ st7)
    have pgr := pg.run _ s7 _ H7 x u _ I7' r7 (step x H7 y7)
    rw [hYA, hYe, hxe] at pgr
    refine seg_bind_wrap (thnF pgr fun _ s8 ⟨σ8, H8, I8, hw8, q8⟩ => ?_)
    refine seg_bind_wrap (wpAny_tests_nil ?_)
    simp only [if_true]
    have hy : ∀ v, yieldOut cenv v = yieldValue v := fun v => by simp only [yieldOut, hco, Bool.false_eq_true, if_false]
    simp only [hy]
    rw [Sem.bind_eq_wrap', Sem.bind_eq_wrap', Sem.wrap_wrap, Sem.wrap_wrap, hm]
    have per := pe.run _ s8 σ8 H8 _ I8 q8
    rw [hYA, hYe, hxe] at per
    refine seg_wrap (thnF per fun v s9 ⟨y, H9, I9, r9, ey, w9⟩ => ?_)
    subst ey
    have keep : ∀ b ∈ fp, ∀ o, s7.heap.get? b = some o → s9.heap.get? b = some o ∧ H9 b = none := fun b hb o e =>
      let z := I9.pin (b, o) (List.mem_append_right _ (List.mem_append_right _ (mem_pinsAt hb e)))
      ⟨z.1, z.2.1⟩
    have hl : (wipe σ vs).length = σ8.length := by rw [← hw8, wipe_length]
    have B9 : Btw Y a oa (wipe σ vs) fp tn W Sp (i + 1) s9 := ⟨H9, ps, hps, (I9.unpinned).weak hl fun j v e => by
        rw [← hw8] at e
        exact (wipe_some e).1, T.keep _ _ _ st7 fun b hb o e => (keep b hb o e).1, fun b hb => by
        obtain ⟨o, e, _⟩ := T.obj _ _ st7 b hb
        exact ⟨(keep b hb o e).2, (hf b hb).2⟩, w9⟩
    have S9 : Same Sp s₀ s9 := hS.trans (hps ▸ same_pins (q1 := []) (by simpa using I) I9)
    refine seg_at (seg_yield rfl rfl rfl ⟨i, by omega, r9, S9, B9, fun s'' B'' => ?_⟩)
    have e1 : m = n - (i + 1) := by omega
    rw [e1]
    exact seg_again rfl (ih (i + 1) s'' s'' (by omega) hlt (fun b hb => by
      obtain ⟨H2, ps2, hps2, I2, _⟩ := B''
      rw [← hps2] at hb
      obtain ⟨z, hz, rfl⟩ := List.mem_map.mp hb
      exact ⟨z.2, (I2.pin z (List.mem_append_right _ (List.mem_cons_of_mem _ hz))).1, (I2.pin z (List.mem_append_right _ (List.mem_cons_of_mem _ hz))).1⟩) B'')
end
end LH
namespace LH
open PySem PySem.Spec PyProof.Rows L2 Evl LT LG
section
variable {prog : Program} {w : World} {A : Around} {E : Value → Shared → Prop} {s : Shared}
/-- the generator number g, j of its n items taken -/
def GSt (prog : Program) (w : World) (A : Around) (g n : Nat) (vals : Nat → V) (Sp : List Addr) (J : Nat → Shared → Prop) (Fn : Shared → Prop) (j : Nat) (s : Shared) : Prop :=
  J j s ∧ ∃ gs, s.gens[g]? = some gs ∧ ∀ s'', J j s'' → gs.Goes (model prog w) A.in1 (fun m s₀ r s₁ => r = .ok .next ∧ (m = 0 ∧ (Same Sp s₀ s₁ ∧ Fn s₁))) (GPr vals n Sp J) (n - j) (.send .none) s''
structure JOk (a : Addr) (g : Nat) (J : Nat → Shared → Prop) (Fn : Shared → Prop) : Prop where
  gen : ∀ j s, J j s → s.heap.IsGen a g
  lim : ∀ j s, J j s → s.heap.NoLimit
  set : ∀ j s x, x.bare = true → J j s → J j (s.setGen g x)
  fin : ∀ s h', Fn s → (∀ b o, s.heap.get? b = some o → h'.get? b = some o) → Fn { s.setGen g .finished with heap := h' }
/-- what a consumer may do with the iterator at a -/
structure WG (prog : Program) (w : World) (A : Around) (a : Addr) (n : Nat) (vals : Nat → V) (Sp : List Addr) (St : Nat → Shared → Prop) (Fin : Shared → Prop) : Prop where
  item : ∀ i (s : Shared) (Q : Option Value → Shared → Prop) (E : Value → Shared → Prop), i < n → St i s → (∀ v s', RelV (vals i) v → St (i + 1) s' → Same Sp s s' → Q (some v) s') → wpAny (model prog w) A (pyNext (.ref a)) Q E s
  done : ∀ (s : Shared) (Q : Option Value → Shared → Prop) (E : Value → Shared → Prop), St n s → (∀ s', Fin s' → Same Sp s s' → Q none s') → wpAny (model prog w) A (pyNext (.ref a)) Q E s
  self : ∀ i (s : Shared) (Q : Value → Shared → Prop) (E : Value → Shared → Prop), St i s → Q (.ref a) s → wpAny (model prog w) A (pyIter (.ref a)) Q E s
  fin : ∀ i s, i ≤ n → St i s → Fin s
  upd : ∀ i (s : Shared) h' tk, St i s → (∀ b o, b ∉ Sp → s.heap.get? b = some o → h'.get? b = some o) → (∀ b ∈ Sp, ∃ o, h'.get? b = some o ∧ ∀ v, o.data ≠ .cell v) → St i { s with heap := h', toks := tk }
  finU : ∀ (s : Shared) h' tk, Fin s → (∀ b o, b ∉ Sp → s.heap.get? b = some o → h'.get? b = some o) → (∀ b ∈ Sp, ∃ o, h'.get? b = some o ∧ ∀ v, o.data ≠ .cell v) → Fin { s with heap := h', toks := tk }
theorem WG.of_in1 {a : Addr} {n : Nat} {vals : Nat → V} {Sp : List Addr} {St : Nat → Shared → Prop} {Fin : Shared → Prop} (W : WG prog w A.in1 a n vals Sp St Fin) : WG prog w A a n vals Sp St Fin :=
  ⟨fun i s Q E hi st hQ => wpAny_of_in1 (W.item i s Q E hi st hQ), fun s Q E st hQ => wpAny_of_in1 (W.done s Q E st hQ), fun i s Q E st hQ => wpAny_of_in1 (W.self i s Q E st hQ), W.fin, W.upd, W.finU⟩
theorem gst_item {a : Addr} {g n j : Nat} {vals : Nat → V} {Sp : List Addr} {J : Nat → Shared → Prop} {Fn : Shared → Prop} {Q : Option Value → Shared → Prop} (hh : A.handled = none) (hroom : A.depth < recursionLimit) (K : JOk a g J Fn) (hj : j < n) (st : GSt prog w A g n vals Sp J Fn j s)
    (hQ : ∀ v s', RelV (vals j) v → GSt prog w A g n vals Sp J Fn (j + 1) s' → Same Sp s s' → Q (some v) s') : wpAny (model prog w) A (pyNext (.ref a)) Q E s := by
  obtain ⟨hJ, gs, hgs, hgo⟩ := st
  obtain ⟨m, hm⟩ : ∃ m, n - j = m + 1 := ⟨n - j - 1, by omega⟩
  rw [hm] at hgo
  refine GenW.wpAny_gsz (Nat.le_refl s.gens.size) (wpAny_pyNext_genexpQ (P := fun k s₀ s₁ => k = 0 ∧ (Same Sp s₀ s₁ ∧ Fn s₁)) hh (K.lim _ _ hJ) hroom (K.gen _ _ hJ) hgs (hgo _ (K.set _ _ _ rfl hJ)) (fun v s₁ gs' hb hv => ?_) (fun s₁ hp h' hk => absurd hp.1 (Nat.succ_ne_zero m)))
  obtain ⟨i, hi, hr, hS, hJ1, hkap⟩ := hv
  intro hsz
  obtain rfl : i = j := by omega
  have hgl : g < s₁.gens.size := by
    rw [GenW.setGen_size] at hsz
    exact Nat.lt_of_lt_of_le (Array.getElem?_eq_some_iff.mp hgs).1 hsz
  refine hQ v _ hr ⟨K.set _ _ _ hb hJ1, gs', by simp [Shared.setGen, hgl], fun s'' hs => ?_⟩ hS
  have e : n - (i + 1) = m := by omega
  rw [e]
  exact hkap s'' hs
theorem gst_done {a : Addr} {g n : Nat} {vals : Nat → V} {Sp : List Addr} {J : Nat → Shared → Prop} {Fn : Shared → Prop} {Q : Option Value → Shared → Prop} (hh : A.handled = none) (hroom : A.depth < recursionLimit) (K : JOk a g J Fn) (st : GSt prog w A g n vals Sp J Fn n s)
    (hQ : ∀ s', Fn s' → Same Sp s s' → Q none s') : wpAny (model prog w) A (pyNext (.ref a)) Q E s := by
  obtain ⟨hJ, gs, hgs, hgo⟩ := st
  rw [Nat.sub_self] at hgo
  refine wpAny_pyNext_genexpQ (P := fun k s₀ s₁ => k = 0 ∧ (Same Sp s₀ s₁ ∧ Fn s₁)) hh (K.lim _ _ hJ) hroom (K.gen _ _ hJ) hgs (hgo _ (K.set _ _ _ rfl hJ)) (fun v s₁ gs' hb hv => ?_) (fun s₁ hp h' hk => ?_)
  · obtain ⟨i, _, _, _, hJ1, hkap⟩ := hv
    exact (hkap s₁ hJ1).elim
  · exact hQ _ (K.fin _ _ hp.2.2 hk) fun b hb => let ⟨o, h1, h2⟩ := hp.2.1 b hb; ⟨o, h1, hk _ _ h2⟩
end
/-! ### consumers -/
section
variable {prog : Program} {w : World} {A : Around} {E : Value → Shared → Prop} {R : Result → Shared → Prop} {s : Shared} {a : Addr} {n : Nat} {vals : Nat → V} {St : Nat → Shared → Prop} {Fin : Shared → Prop}
theorem drop_at {n i : Nat} (h : i < n) : (List.range n).drop i = i :: (List.range n).drop (i + 1) := by
  rw [List.drop_eq_getElem_cons (by rw [List.length_range]; exact h), List.getElem_range]
theorem all_turns {f : Nat → Bool} (W : WG prog w A.in1 a n vals [] St Fin) (hv : ∀ i, vals i = .bl (f i)) : ∀ (k i : Nat) (s : Shared), n - i = k → i ≤ n → St i s → (∀ s', Fin s' → R (.ok (.ret (.bool (((List.range n).drop i).all f)))) s') → codeAny (model prog w) A (.builtin "all.loop" ⟨[.ref a], []⟩) R s := by
  intro k
  induction k with
  | zero =>
    intro i s hk hi st hR
    obtain rfl : i = n := by omega
    refine codeAny_builtin F.entry_all_loop (by
      rw [Around.under_plainId F.plain_all_loop _]
      show wpAny _ A.in1 (pyNext (.ref a) >>= _) _ _ s
      refine wpAny_bind (W.done s _ _ st fun s' hF _ => wpAny_bind (wpAny_rule (wpAny_pure ?_)))
      have q := hR s' hF
      rw [List.drop_of_length_le (by rw [List.length_range] <;> exact Nat.le_refl _)] at q
      exact q)
  | succ k ih =>
    intro i s hk hi st hR
    have hlt : i < n := by omega
    refine codeAny_builtin F.entry_all_loop (by
      rw [Around.under_plainId F.plain_all_loop _]
      show wpAny _ A.in1 (pyNext (.ref a) >>= _) _ _ s
      refine wpAny_bind (W.item i s _ _ hlt st fun v s' r st' _ => wpAny_bind (wpAny_holding ?_))
      rw [hv i] at r
      obtain rfl : v = .bool (f i) := r
      rw [drop_at hlt, List.all_cons] at hR
      refine wpAny_truthy_bool (wpAny_bind (wpAny_letGo ?_))
      cases hb : f i with
      | true =>
        rw [hb] at hR
        exact wpAny_pure ⟨plainId_quiet F.plain_all_loop _, ih (i + 1) s' (by omega) hlt st' hR⟩
      | false =>
        rw [hb] at hR
        exact wpAny_bind (wpAny_rule (wpAny_pure (hR s' (W.fin _ _ hlt st')))))
theorem any_turns {f : Nat → Bool} (W : WG prog w A.in1 a n vals [] St Fin) (hv : ∀ i, vals i = .bl (f i)) : ∀ (k i : Nat) (s : Shared), n - i = k → i ≤ n → St i s → (∀ s', Fin s' → R (.ok (.ret (.bool (((List.range n).drop i).any f)))) s') → codeAny (model prog w) A (.builtin "any.loop" ⟨[.ref a], []⟩) R s := by
  intro k
  induction k with
  | zero =>
    intro i s hk hi st hR
    obtain rfl : i = n := by omega
    refine codeAny_builtin F.entry_any_loop (by
      rw [Around.under_plainId F.plain_any_loop _]
      show wpAny _ A.in1 (pyNext (.ref a) >>= _) _ _ s
      refine wpAny_bind (W.done s _ _ st fun s' hF _ => wpAny_bind (wpAny_rule (wpAny_pure ?_)))
      have q := hR s' hF
      rw [List.drop_of_length_le (by rw [List.length_range] <;> exact Nat.le_refl _)] at q
      exact q)
  | succ k ih =>
    intro i s hk hi st hR
    have hlt : i < n := by omega
    refine codeAny_builtin F.entry_any_loop (by
      rw [Around.under_plainId F.plain_any_loop _]
      show wpAny _ A.in1 (pyNext (.ref a) >>= _) _ _ s
      refine wpAny_bind (W.item i s _ _ hlt st fun v s' r st' _ => wpAny_bind (wpAny_holding ?_))
      rw [hv i] at r
      obtain rfl : v = .bool (f i) := r
      rw [drop_at hlt, List.any_cons] at hR
      refine wpAny_truthy_bool (wpAny_bind (wpAny_letGo ?_))
      cases hb : f i with
      | false =>
        rw [hb] at hR
        exact wpAny_pure ⟨plainId_quiet F.plain_any_loop _, ih (i + 1) s' (by omega) hlt st' hR⟩
      | true =>
        rw [hb] at hR
        exact wpAny_bind (wpAny_rule (wpAny_pure (hR s' (W.fin _ _ hlt st')))))
theorem call_allG {f : Nat → Bool} {Q : Value → Shared → Prop} (W : WG prog w A.in1 a n vals [] St Fin) (hv : ∀ i, vals i = .bl (f i)) (st : St 0 s) (hQ : ∀ s', Fin s' → Q (.bool (allF n f)) s') : wpAny (model prog w) A (call (.builtin "all") [.ref a]) Q E s := by
  refine call_function_tree F.kind_all F.plain_all F.entry_all (F.args_all1 _) (by
    unfold Builtin.«all»
    refine wpAny_bind (m := oneArg "all" _) (wpAny_pure (wpAny_bind (W.self 0 s _ _ st ?_)))
    exact wpAny_pure ⟨plainId_quiet F.plain_all_loop _, all_turns W hv n 0 s rfl (Nat.zero_le _) st fun s' hF => by simpa [allF] using hQ s' hF⟩)
theorem call_anyG {f : Nat → Bool} {Q : Value → Shared → Prop} (W : WG prog w A.in1 a n vals [] St Fin) (hv : ∀ i, vals i = .bl (f i)) (st : St 0 s) (hQ : ∀ s', Fin s' → Q (.bool (anyF n f)) s') : wpAny (model prog w) A (call (.builtin "any") [.ref a]) Q E s := by
  refine call_function_tree F.kind_any F.plain_any F.entry_any (F.args_any1 _) (by
    unfold Builtin.«any»
    refine wpAny_bind (m := oneArg "any" _) (wpAny_pure (wpAny_bind (W.self 0 s _ _ st ?_)))
    exact wpAny_pure ⟨plainId_quiet F.plain_any_loop _, any_turns W hv n 0 s rfl (Nat.zero_le _) st fun s' hF => by simpa [anyF] using hQ s' hF⟩)
end
end LH
namespace LH
open PySem PySem.Spec PyProof.Rows L2 Evl LT LG
section
variable {X : Cx} {pins : List (Addr × Obj)} {σ : L2.St} {H : Hp} {s : Shared}
theorem inv_setGen {g : Nat} {x : GenState} (I : Inv X pins σ H s) (hx : x.bare = true) : Inv X pins σ H (s.setGen g x) :=
  ⟨I.ok, I.os, L2.allBare_setGen I.bare hx, I.base, I.loc, I.cell, I.free, I.freeC, I.pin, I.hok, I.len⟩
theorem pins_map {Sp : List Addr} {h : Heap} (hn : ∀ b ∈ Sp, ∃ o, h.get? b = some o ∧ ∀ v, o.data ≠ .cell v) : (pinsAt Sp h).map (·.1) = Sp := by
  induction Sp with
  | nil => rfl
  | cons b r ih =>
    obtain ⟨o, ho, _⟩ := hn b List.mem_cons_self
    have := ih fun c hc => hn c (List.mem_cons_of_mem _ hc)
    unfold pinsAt at this ⊢
    rw [List.filterMap_cons, ho]
    show b :: _ = _
    rw [this]
theorem inv_spec {Y : Cx} {p : Addr × Obj} {ps : List (Addr × Obj)} {Sp : List Addr} {τ : L2.St} {h' : Heap} {tk : Nat} (hpn : Y.pn = []) (hps : ps.map (·.1) = Sp) (hSp : ∀ b ∈ Sp, Y.s_0.heap.objs.size ≤ b ∧ b ≠ p.1) (I : Inv Y (p :: ps) τ H s)
    (k : ∀ b o, b ∉ Sp → s.heap.get? b = some o → h'.get? b = some o) (hn : ∀ b ∈ Sp, ∃ o, h'.get? b = some o ∧ ∀ v, o.data ≠ .cell v) : Inv Y (p :: pinsAt Sp h') τ H { s with heap := h', toks := tk } := by
  have pin : ∀ b ∈ Sp, H b = none ∧ b ≠ Y.env.locals ∧ b ∉ Y.fs ∧ ∃ o, s.heap.get? b = some o ∧ ∀ v, o.data ≠ .cell v := fun b hb => by
    rw [← hps] at hb
    obtain ⟨z, hz, rfl⟩ := List.mem_map.mp hb
    have y := I.pin z (List.mem_append_right _ (List.mem_cons_of_mem _ hz))
    exact ⟨y.2.1, y.2.2.1, y.2.2.2.1, z.2, y.1, y.2.2.2.2⟩
  have I1 : Inv Y [p] τ H s := I.pins_of fun q hq => I.pin q (List.mem_append_right _ (by rw [List.mem_singleton.mp hq]; exact List.mem_cons_self))
  have I2 := I1.turnedL (t' := tk) (ch := Sp) (h' := h') k fun b hb => ⟨(pin b hb).1, (pin b hb).2.1, (pin b hb).2.2.1, .inr (hSp b hb).1, fun x c e z => by
      obtain ⟨v, o', h1, h2⟩ := I.cell x c e
      obtain ⟨o, h3, h4⟩ := (pin b hb).2.2.2
      rw [z, h3] at h1
      cases h1
      exact h4 _ h2, fun q hq => by
      rw [hpn, List.nil_append] at hq
      rw [List.mem_singleton.mp hq]
      exact (hSp b hb).2.symm⟩
  refine I2.pins_of fun q hq => ?_
  rcases List.mem_cons.mp hq with rfl | hq
  · exact I2.pin _ (List.mem_append_right _ List.mem_cons_self)
  · obtain ⟨hb, e⟩ := of_pinsAt hq
    obtain ⟨o, h1, h2⟩ := hn _ hb
    rw [e] at h1
    cases h1
    exact ⟨e, (pin _ hb).1, (pin _ hb).2.1, (pin _ hb).2.2.1, h2⟩
section
variable {Y : Cx} {a : Addr} {oa : Obj} {τ : L2.St} {fp : List Addr} {tn : Nat → Heap → Prop} {W : Nat → Hp → Prop} {Sp : List Addr} {i n g : Nat} {J : It} {tg : Expr} {it : Addr}
theorem btw_upd {h' : Heap} {tk : Nat} (T : Turn Y.prog Y.w Y.K tg J fp it tn) (hpn : Y.pn = []) (hSp : ∀ b ∈ Sp, Y.s_0.heap.objs.size ≤ b ∧ b ≠ a) (B : Btw Y a oa τ fp tn W Sp i s) (k : ∀ b o, b ∉ Sp → s.heap.get? b = some o → h'.get? b = some o) (hn : ∀ b ∈ Sp, ∃ o, h'.get? b = some o ∧ ∀ v, o.data ≠ .cell v) :
    Btw Y a oa τ fp tn W Sp i { s with heap := h', toks := tk } := by
  obtain ⟨H', ps, hps, I, st, hf, w⟩ := B
  have nf : ∀ b ∈ fp, b ∉ Sp := fun b hb z => by
    rw [← hps] at z
    obtain ⟨q, hq, e⟩ := List.mem_map.mp z
    exact (hf b hb).2.2.2.2.2 q (List.mem_append_right _ (List.mem_cons_of_mem _ hq)) e
  refine ⟨H', _, pins_map hn, inv_spec hpn hps hSp I k hn, T.keep _ _ _ st fun b hb o e => k b o (nf b hb) e, fun b hb => ⟨(hf b hb).1, (hf b hb).2.1, (hf b hb).2.2.1, (hf b hb).2.2.2.1, (hf b hb).2.2.2.2.1, fun q hq e => ?_⟩, w⟩
  rw [hpn, List.nil_append] at hq
  rcases List.mem_cons.mp hq with rfl | hq
  · exact (hf b hb).2.2.2.2.2 (a, oa) (List.mem_append_right _ List.mem_cons_self) e
  · exact nf b hb (e ▸ (of_pinsAt hq).1)
theorem gone_upd {h' : Heap} {tk : Nat} (hpn : Y.pn = []) (hSp : ∀ b ∈ Sp, Y.s_0.heap.objs.size ≤ b ∧ b ≠ a) (B : Gone Y a oa τ W n Sp s) (k : ∀ b o, b ∉ Sp → s.heap.get? b = some o → h'.get? b = some o) (hn : ∀ b ∈ Sp, ∃ o, h'.get? b = some o ∧ ∀ v, o.data ≠ .cell v) :
    Gone Y a oa τ W n Sp { s with heap := h', toks := tk } := by
  obtain ⟨H', ps, i, hi, hps, I, w⟩ := B
  exact ⟨H', _, i, hi, pins_map hn, inv_spec hpn hps hSp I k hn, w⟩
theorem jok (hG : ∀ h : Heap, h.get? a = some oa → h.IsGen a g) : JOk a g (Btw Y a oa τ fp tn W Sp) (Gone Y a oa τ W n Sp) :=
  ⟨fun j s ⟨_, _, _, I, _⟩ => hG _ (I.pin (a, oa) (List.mem_append_right _ List.mem_cons_self)).1, fun j s ⟨_, _, _, I, _⟩ => I.nolimit, fun j s x hx ⟨H', ps, hps, I, r⟩ => ⟨H', ps, hps, inv_setGen I hx, r⟩,
    fun s h' ⟨H', ps, i, hi, hps, I, w⟩ k => by
      have J := (inv_setGen (g := g) (x := .finished) I rfl).kept (t' := s.toks) (h' := h') k
      refine ⟨H', ps, i, hi, hps, ?_, w⟩
      exact J.pins_of fun q hq => by
        have z := I.pin q (List.mem_append_right _ hq)
        exact ⟨k _ _ z.1, z.2⟩⟩
end
/-- the generator at a: for any consumer -/
def RdyX (X : Cx) (pins : List (Addr × Obj)) (σ : L2.St) (n : Nat) (vals : Nat → V) (QF : Hp → Prop) (a : Addr) (s5 : Shared) : Prop :=
  ∃ (St : List Addr → Nat → Shared → Prop) (Fin : List Addr → Shared → Prop), (∀ Sp, (∀ b ∈ Sp, s5.heap.objs.size ≤ b) → WG X.prog X.w X.A.in1 a n vals Sp (St Sp) (Fin Sp)) ∧
    (∀ Sp h' tk, (∀ b ∈ Sp, s5.heap.objs.size ≤ b) → (∀ b o, s5.heap.get? b = some o → h'.get? b = some o) → (∀ b ∈ Sp, ∃ o, h'.get? b = some o ∧ ∀ v, o.data ≠ .cell v) → St Sp 0 { s5 with heap := h', toks := tk }) ∧ ∀ Sp s', Fin Sp s' → ∃ H', Inv X pins σ H' s' ∧ QF H'
/-- (.. for t in e), handed to a consumer that makes r of what comes -/
def tGX (P : Addr) (ok : Nat → (Nat → V) → V → Prop) (wi : TI) (g : TG) (te : TE) (vs : List Nat) : TE := fun σ H Q => wi σ H fun J H1 => Tab H1 P ∧ ∃ (n : Nat) (vals : Nat → V) (r : V) (W : Nat → Hp → Prop), ok n vals r ∧ W 0 H1 ∧
  (∀ i H', i < n → W i H' → J.go i H' ∧ ∀ x H2, J.yld i H' x H2 → g x (wipe σ vs) H2 fun σ2 H3 => wipe σ2 vs = wipe σ vs ∧ te σ2 H3 fun y H4 => y = vals i ∧ W (i + 1) H4) ∧ (∀ H', W n H' → J.stop n H') ∧ ∀ i H', i ≤ n → W i H' → Q r H'
structure GenX (env : Env) (scope : Scope) : Prop where
  co : scope.isCoroutine = false
  cell : ∀ y ∈ scope.names, y.2 ≠ .cell
  dot : scope.names.lookup (".0" : Str) = some NameKind.local
theorem gen_makeX {c P : Addr} {elt tg iter : Expr} {scope : Scope} {own : List (Str × Nat)} {gpos : Pos} {wi : TI} {g : TG} {te : TE} {k : Nat} {Q : VK} {Q' : Value → Shared → Prop} {okc : Nat → (Nat → V) → V → Prop} (hr : Room (k + 1) X.A) (hN : X.N.Nodup) (TB : LamX.TabB X.base X.mg c P) (hcode : X.env.code = .ref c) (S : GenX X.env scope) (ok : BlkOk X.N X.env.scope scope own)
    (hi : PI X tg iter wi) (hs : ∀ v, genFold iter X.env v = pure v) (hg : ∀ (A' : Around) (s : Shared) (H : Hp) (C : Addr) (code : Value) (fp : List Addr), Room k A' → PG (gnb X A' s H (gnE X scope C code) fp) tg g) (he : ∀ (A' : Around) (s : Shared) (H : Hp) (C : Addr) (code : Value) (fp : List Addr), Room k A' → PE (gnb X A' s H (gnE X scope C code) fp) elt te)
    (I : Inv X pins σ H s) (h : tGX P okc wi g te (own.map (·.2)) σ H Q)
    (hQ : ∀ n vals r (W : Nat → Hp → Prop) a s5, okc n vals r → (∀ i H', i ≤ n → W i H' → Q r H') → RdyX X pins σ n vals (fun H' => ∃ i, i ≤ n ∧ W i H') a s5 → Q' (.ref a) s5) :
    wpAny (model X.prog X.w) X.A (eval (.GeneratorExp elt [⟨tg, iter, [], 0⟩] scope gpos) X.env) Q' X.xe s := by
  have hfree : ∀ y ∈ scope.names, y.2 = .free → ∃ c, X.env.cells.lookup y.1 = some c := fun y hy e => (ok.free y hy e).elim (fun k => I.ok.has _ (.inl k)) fun k => I.ok.has _ (.inr k)
  refine wpAny_GeneratorExp_make S.co (closure_ok hfree) S.cell S.dot ok.kind (by have := hr.dp; omega) (thn (hi.run pins s σ H _ I h) fun xv s1 h1 => thn h1 fun itv s2 h2 => ?_) hs
  obtain ⟨it, fp, tn, J, H2, rfl, I2, T, st2, f2, hT, n, vals, r, W, hok, w0, turn, stop, fin⟩ := h2
  refine ⟨I2.nolimit, ?_⟩
  obtain ⟨ps, hPs, ht⟩ := hT.of_ok I2.hok
  have cd : PySem.W.CodeHd s2.heap c P := TB.code.keeps fun b u e => I2.bk b u e
  have fpP : ∀ b ∈ fp, b ≠ P := fun b hb z => by
    have q := (f2 b hb).1
    rw [z, hT] at q
    cases q
  have go : ∀ (code : Value) (h3 : Heap) (tk : Nat) (ps' : Array Value), (∀ b o, b ≠ P → s2.heap.get? b = some o → h3.get? b = some o) → s2.heap.objs.size ≤ h3.objs.size → h3.get? P = some { cls := .none, data := .fields ps' } → TriplesOk ps'.toList →
      wpAny (model X.prog X.w) X.A (builtinsFor X.env.globals X.env.builtins) (fun bi s₄ => ∀ h', h'.Ns s₄.heap.objs.size (fun y => if y = ".0" then some (.ref it) else none) → Heap.SameBut s₄.heap.objs.size (s₄.heap.push { cls := .type "frame", data := .dict #[] }) h' →
          Q' (.ref h'.objs.size) { s₄ with
            gens := s₄.gens.push (.fresh (.compStart (.GeneratorExp elt [⟨tg, iter, [], 0⟩] scope gpos) 0 (.ref it) .none (genEnv scope (cloFrom X.env.cells scope.names []) s₄.heap.objs.size code bi X.env))),
            toks := s₄.toks + 1 + 1 + 1,
            heap := h'.push { cls := .type "generator", data := .fields #[.int s₄.gens.size 0, .str "<genexpr>" (s₄.toks + 1), .str (X.env.qual ++ "<genexpr>") (s₄.toks + 1 + 1)] } }) X.xe { s2 with heap := h3, toks := tk } := by
    intro code h3 tk ps' hx hsz hP3 ht3
    have I3 : Inv X pins σ H2 { s2 with heap := h3, toks := tk } := inv_grown I2 hT hx ⟨ps', hP3, ht3⟩ rfl I2.bare
    obtain ⟨bm, ob, e1, e2, e3, e4, e5, e6, e7, e8⟩ := TB.bm
    refine wpAny_builtinsFor (m := X.mg) (by rw [I3.ok.glob]; exact I3.mod.glob.keeps I3.bk) e1 e2 (hx _ _ e4 (I2.bk _ _ e5)) e6 e7 e8 ?_
    generalize hs3 : ({ s2 with heap := h3, toks := tk } : Shared) = s3 at I3 ⊢
    have hh3 : s3.heap = h3 := by rw [← hs3]
    intro h' hn' hs'
    have hsz' : h'.objs.size = s3.heap.objs.size + 1 := by rw [hs'.1, Heap.size_push]
    have keep' : ∀ b o, s3.heap.get? b = some o → h'.get? b = some o := fun b o e => hs'.extBut b o (Nat.ne_of_lt (Heap.lt_size e)) (Heap.get?_push_of_some _ e)
    generalize hoa : ({ cls := .type "generator", data := .fields #[.int s3.gens.size 0, .str "<genexpr>" (s3.toks + 1), .str (X.env.qual ++ "<genexpr>") (s3.toks + 1 + 1)] } : Obj) = oa
    have keep5 : ∀ b o, s3.heap.get? b = some o → (h'.push oa).get? b = some o := fun b o e => Heap.get?_push_of_some _ (keep' b o e)
    have hG : ∀ h : Heap, h.get? h'.objs.size = some oa → h.IsGen h'.objs.size s3.gens.size := fun h e => ⟨oa, _, _, e, by rw [← hoa], by rw [← hoa], by rw [← hoa]⟩
    have goa : (h'.push oa).get? h'.objs.size = some oa := Heap.get?_push_size _ (by rw [← hoa]; rfl)
    have noC : ∀ v, oa.data ≠ .cell v := fun v => by rw [← hoa]; intro z; cases z
    have nstk : ∀ b, s3.heap.objs.size ≤ b → b ∉ frs X.stack := fun b hb z => by
      rcases List.mem_cons.mp (I3.stkSub b z) with z | z
      · have := I3.lt
        rw [← z] at this
        exact Nat.lt_irrefl _ (Nat.lt_of_lt_of_le this hb)
      · exact I3.nofs hb z
    have f3 : ∀ b ∈ fp, FpOk X pins H2 b ∧ b < s3.heap.objs.size := fun b hb => by
      obtain ⟨o, e, _⟩ := T.obj _ _ st2 b hb
      exact ⟨f2 b hb, by rw [hh3]; exact Heap.lt_size (hx b o (fpP b hb) e)⟩
    have hA1 : (X.A.in4.in1.over (.compLoop (.GeneratorExp elt [⟨tg, iter, [], 0⟩] scope gpos) 0 (.ref it) .none (gnE X scope s3.heap.objs.size code)) []).handled = none := hr.hd
    have hfr1 : (X.A.in4.in1.over (.compLoop (.GeneratorExp elt [⟨tg, iter, [], 0⟩] scope gpos) 0 (.ref it) .none (gnE X scope s3.heap.objs.size code)) []).frames = some (gnE X scope s3.heap.objs.size code :: X.stack) := by
      show pushEnvs [_] (pushEnvs [] X.A.frames) = _
      rw [I3.ok.frames]
      rfl
    have hrm : Room k (X.A.in4.in1.over (.compLoop (.GeneratorExp elt [⟨tg, iter, [], 0⟩] scope gpos) 0 (.ref it) .none (gnE X scope s3.heap.objs.size code)) []) :=
      ⟨hr.hd, by have := hr.dp; show X.A.depth + 0 + 1 + 3 * k + 5 < _; omega, by have := hr.un; show X.A.units + 1 + 1 + 1 + 1 + 1 + 0 + 3 + 16 * k + 200 < _; omega⟩
    generalize hA' : X.A.in4.in1.over (.compLoop (.GeneratorExp elt [⟨tg, iter, [], 0⟩] scope gpos) 0 (.ref it) .none (gnE X scope s3.heap.objs.size code)) [] = A' at hA1 hfr1 hrm
    have pg := hg A' s3 H2 s3.heap.objs.size code fp hrm
    have pe := he A' s3 H2 s3.heap.objs.size code fp hrm
    have turns := fun (Sp : List Addr) => seg_turns (A₁ := X.A.in4.in1) (Y := gnb X A' s3 H2 (gnE X scope s3.heap.objs.size code) fp) (pos := gpos) (iter := iter) (scope := scope) (it := it) (a := h'.objs.size) (oa := oa) (Sp := Sp) (σ := σ) (vs := own.map (·.2)) hA'.symm rfl rfl rfl S.co T pg pe turn stop
    have begin_ : ∀ {h'' : Heap} {g' : Array GenState} {t' : Nat}, (∀ b o, (h'.push oa).get? b = some o → h''.get? b = some o) → AllBare g' → Inv (gnb X A' s3 H2 (gnE X scope s3.heap.objs.size code) fp) [] (wipe σ (own.map (·.2))) H2 { s3 with heap := h'', gens := g', toks := t' } := fun {h'' g' t'} k1 k2 =>
      gen_begin I3 ok S.cell hN f3 hA1 hfr1 (fun b o e => k1 b o (keep5 b o e)) (hn'.keeps fun b o e => k1 b o (Heap.get?_push_of_some _ e)) k2
    refine hQ n vals r W _ _ hok fin ⟨fun Sp => GSt X.prog X.w X.A.in4 s3.gens.size n vals Sp (Btw (gnb X A' s3 H2 (gnE X scope s3.heap.objs.size code) fp) h'.objs.size oa (wipe σ (own.map (·.2))) fp tn W Sp) (Gone (gnb X A' s3 H2 (gnE X scope s3.heap.objs.size code) fp) h'.objs.size oa (wipe σ (own.map (·.2))) W n Sp),
      fun Sp => Gone (gnb X A' s3 H2 (gnE X scope s3.heap.objs.size code) fp) h'.objs.size oa (wipe σ (own.map (·.2))) W n Sp, fun Sp hSp => ?_, fun Sp h'' tk' hSp hk hn => ?_, fun Sp s' hF => ?_⟩
    · have hSp' : ∀ b ∈ Sp, s3.heap.objs.size ≤ b ∧ b ≠ h'.objs.size := fun b hb => by
        have := hSp b hb
        rw [Heap.size_push] at this
        have h1 : s3.heap.objs.size ≤ h'.objs.size := by rw [hsz']; exact Nat.le_succ _
        exact ⟨Nat.le_trans h1 (Nat.le_of_succ_le this), fun e => by rw [e] at this; exact Nat.lt_irrefl _ this⟩
      have W4 : WG X.prog X.w X.A.in4 h'.objs.size n vals Sp (GSt X.prog X.w X.A.in4 s3.gens.size n vals Sp (Btw (gnb X A' s3 H2 (gnE X scope s3.heap.objs.size code) fp) h'.objs.size oa (wipe σ (own.map (·.2))) fp tn W Sp) (Gone (gnb X A' s3 H2 (gnE X scope s3.heap.objs.size code) fp) h'.objs.size oa (wipe σ (own.map (·.2))) W n Sp)) (Gone (gnb X A' s3 H2 (gnE X scope s3.heap.objs.size code) fp) h'.objs.size oa (wipe σ (own.map (·.2))) W n Sp) :=
        ⟨fun i s Q E hi st hQ => gst_item hr.hd (by have := hr.dp; show X.A.depth < _; omega) (jok hG) hi st hQ, fun s Q E st hQ => gst_done hr.hd (by have := hr.dp; show X.A.depth < _; omega) (jok hG) st hQ, fun i s Q E st hQ => wpAny_pyIter_gen ((jok (n := n) hG).gen _ _ st.1) hQ,
          fun i s hi st => let ⟨⟨H', ps, hps, I, _, _, w⟩, _⟩ := st; ⟨H', ps, i, hi, hps, I, w⟩, fun i s h'' tk' st k1 k2 => ⟨btw_upd T rfl hSp' st.1 k1 k2, st.2⟩, fun s h'' tk' st k1 k2 => gone_upd rfl hSp' st k1 k2⟩
      exact (W4.of_in1).of_in1.of_in1
    · have hlt : ∀ b ∈ Sp, s3.heap.objs.size ≤ b ∧ b ≠ h'.objs.size := fun b hb => by
        have := hSp b hb
        rw [Heap.size_push] at this
        have h1 : s3.heap.objs.size ≤ h'.objs.size := by rw [hsz']; exact Nat.le_succ _
        exact ⟨Nat.le_trans h1 (Nat.le_of_succ_le this), fun e => by rw [e] at this; exact Nat.lt_irrefl _ this⟩
      have ale : s3.heap.objs.size ≤ h'.objs.size := by rw [hsz']; exact Nat.le_succ _
      have I5 := begin_ (t' := tk') hk (I3.bare.push (g := .fresh (.compStart (.GeneratorExp elt [⟨tg, iter, [], 0⟩] scope gpos) 0 (.ref it) .none (gnE X scope s3.heap.objs.size code))) rfl)
      have J0 : Btw (gnb X A' s3 H2 (gnE X scope s3.heap.objs.size code) fp) h'.objs.size oa (wipe σ (own.map (·.2))) fp tn W Sp 0 { s3 with heap := h'', gens := s3.gens.push (.fresh (.compStart (.GeneratorExp elt [⟨tg, iter, [], 0⟩] scope gpos) 0 (.ref it) .none (gnE X scope s3.heap.objs.size code))), toks := tk' } := by
        refine ⟨H2, _, pins_map hn, I5.pins_of fun q hq => ?_, T.keep _ _ _ st2 fun b hb o e => hk _ _ (keep5 _ _ (by rw [hh3]; exact hx b o (fpP b hb) e)), fun b hb => ⟨(f2 b hb).1, Nat.ne_of_lt (f3 b hb).2, fun z => ?_, .inl hb, fun y c' e => (f2 b hb).2.2.2.2.1 y c' (clo_back hfree e).2, fun q hq e => ?_⟩, w0⟩
        · rcases List.mem_cons.mp hq with rfl | hq
          · exact ⟨hk _ _ goa, I3.hok.fresh ale, fun z => by
              have : h'.objs.size = s3.heap.objs.size := z
              rw [hsz'] at this
              exact Nat.succ_ne_self _ this, nstk _ ale, noC⟩
          · obtain ⟨hb, e⟩ := of_pinsAt hq
            obtain ⟨o, h1, h2⟩ := hn _ hb
            rw [e] at h1
            cases h1
            refine ⟨e, I3.hok.fresh (hlt _ hb).1, fun z => ?_, nstk _ (hlt _ hb).1, h2⟩
            have z : q.1 = s3.heap.objs.size := z
            have := hSp _ hb
            rw [Heap.size_push, hsz', z] at this
            exact Nat.lt_irrefl _ (Nat.lt_of_succ_lt this)
        · rcases List.mem_cons.mp (I3.stkSub b z) with z | z
          · exact (f2 b hb).2.1 z
          · exact (f2 b hb).2.2.1 z
        · have lt := (f3 b hb).2
          rcases List.mem_cons.mp (show q ∈ _ :: pinsAt Sp h'' from hq) with rfl | hq
          · have e : h'.objs.size = b := e
            rw [← e] at lt
            exact Nat.lt_irrefl _ (Nat.lt_of_lt_of_le lt ale)
          · have := (hlt _ (of_pinsAt hq).1).1
            rw [e] at this
            exact Nat.lt_irrefl _ (Nat.lt_of_lt_of_le lt this)
      refine ⟨J0, _, Array.getElem?_push_size .., fun s'' hJ => ⟨rfl, ?_⟩⟩
      have loop := turns Sp n 0 s'' s'' (Nat.sub_zero _) (Nat.zero_le _) (fun b hb => by
        obtain ⟨H3, qs, hqs, I6, _⟩ := hJ
        rw [← hqs] at hb
        obtain ⟨z, hz, rfl⟩ := List.mem_map.mp hb
        have y := (I6.pin z (List.mem_append_right _ (List.mem_cons_of_mem _ hz))).1
        exact ⟨z.2, y, y⟩) hJ
      show Seg _ _ _ _ _ s'' _ ((compStart (.GeneratorExp elt [⟨tg, iter, [], 0⟩] scope gpos) 0 (.ref it) .none (gnE X scope s3.heap.objs.size code)).onRaise (leaving (gnE X scope s3.heap.objs.size code))) [] s''
      unfold compStart; rw [Sem.onRaise_eq_wrap]
      refine seg_bind_wrap (m := ask) (wpAny_askSetting ?_)
      obtain ⟨_, _, _, I6, st6, _⟩ := id hJ
      split
      · exact seg_again rfl loop
      · exact seg_bind_wrap (wpAny_rule (seg_bind_wrap (wpAny_standAt (seg_bind_wrap (T.self _ 0 s'' _ _ st6 (seg_again rfl loop))))))
    · obtain ⟨H', qs, i, hi, hqs, I6, w⟩ := hF
      exact ⟨H', I3.call' (ch := fp) I6.os I6.base I6.hok I6.bare fun b hb => ⟨(f2 b hb).2.2.2.1, (f2 b hb).2.1, (f2 b hb).2.2.2.2.1, (f2 b hb).2.2.2.2.2⟩, i, hi, w⟩
  cases hf : codeAmong gpos ps.toList with
  | some cv => exact wpAny_genexprCode_hit hcode (cd.code hPs ht) hf (go cv s2.heap s2.toks ps (fun _ _ _ e => e) (Nat.le_refl _) hPs ht)
  | none =>
    refine wpAny_genexprCodeX hcode (cd.code hPs ht) (cd.tab hPs) hf fun c' h3 tk hx hge hlt hco' _ htab' _ => ?_
    obtain ⟨_, _, _, _, _, _, _, _, _, _, _, _, _, _, _, _, _, _, _, htr, _⟩ := hco'
    exact go _ h3 tk _ hx (Nat.le_trans hge (Nat.le_of_lt hlt)) htab'.2 htr
end
end LH

set_option Elab.async false
set_option linter.all false
set_option maxRecDepth 100000
set_option maxHeartbeats 4000000
namespace LH
open PySem PySem.Spec PyProof.Rows L2 Evl LT LG
section
variable {prog : Program} {w : World} {A : Around} {E : Value → Shared → Prop} {R : Result → Shared → Prop} {s : Shared} {a S : Addr} {n : Nat} {vals : Nat → V} {St : Nat → Shared → Prop} {Fin : Shared → Prop} {val : Nat → Int}
abbrev accO (us : Array Value) (c : Nat) : Obj := { cls := .type "list", dict := none, data := .seq us c, slots := #[] }
theorem same_at {s s' : Shared} {o : Obj} (h : Same [S] s s') (e : s.heap.get? S = some o) : s'.heap.get? S = some o := by
  obtain ⟨o', h1, h2⟩ := h S (List.mem_singleton.mpr rfl)
  rw [e] at h1
  cases h1
  exact h2
theorem upd_keeps {h : Heap} {f : Obj → Obj} : ∀ b o, b ∉ [S] → h.get? b = some o → (h.update S f).get? b = some o := fun b o hb e =>
  (Heap.get?_update_other _ _ fun z : S = b => hb (List.mem_singleton.mpr z.symm)).trans e
theorem sum_turns (W : WG prog w A.in1 a n vals [S] St Fin) (hv : ∀ i, vals i = .int (val i)) (hfit : ∀ j, j < n → InLong (val j) ∧ InLong (preSum val (j + 1))) : ∀ (k i : Nat) (s : Shared) (tA : Tok) (c : Nat), n - i = k → i ≤ n → St i s → s.heap.get? S = some (accO #[.int (preSum val i) tA] c) →
    (∀ s' t', Fin s' → R (.ok (.ret (.int (preSum val n) t'))) s') → codeAny (model prog w) A (.builtin "sum.loop" ⟨[.ref a, .ref S, rawInt 0, rawInt 0], []⟩) R s := by
  intro k
  induction k with
  | zero =>
    intro i s tA c hk hi st hS hR
    obtain rfl : i = n := by omega
    refine codeAny_builtin F.entry_sum_loop (by
      rw [Around.under_plainId F.plain_sum_loop _]
      show wpAny _ A.in1 (seqItems? (.ref S) >>= _) _ _ s
      refine wpAny_bind (wpAny_seqItems hS rfl (show wpAny _ A.in1 (tryCatch (pyNext (.ref a)) _ >>= _) _ _ s from ?_))
      exact wpAny_bind (wpAny_tryCatch (W.done s _ _ st fun s' hF _ => wpAny_pure (hR s' tA hF))))
  | succ k ih =>
    intro i s tA c hk hi st hS hR
    have hlt : i < n := by omega
    refine codeAny_builtin F.entry_sum_loop (by
      rw [Around.under_plainId F.plain_sum_loop _]
      show wpAny _ A.in1 (seqItems? (.ref S) >>= _) _ _ s
      refine wpAny_bind (wpAny_seqItems hS rfl (show wpAny _ A.in1 (tryCatch (pyNext (.ref a)) _ >>= _) _ _ s from ?_))
      refine wpAny_bind (wpAny_tryCatch (W.item i s _ _ hlt st fun v s' r st' sm => ?_))
      rw [hv i] at r
      obtain ⟨t, rfl⟩ := r
      have hS' := same_at sm hS
      obtain ⟨⟨f1, f2⟩, f3, f4⟩ := hfit i hlt
      have hc : ((decide (-(2 ^ 63) ≤ val i) && decide (val i < 2 ^ 63)) && (decide (-(2 ^ 63) ≤ preSum val i + val i) && decide (preSum val i + val i < 2 ^ 63))) = true := by
        simp only [preSum] at f3 f4
        simp only [Bool.and_eq_true, decide_eq_true_eq]
        exact ⟨⟨f1, f2⟩, f3, f4⟩
      show wpAny _ A.in1 (if (_ : Bool) = true then (mkInt (preSum val i + val i) >>= _) else _) _ _ _
      split
      · refine wpAny_bind (wpAny_mkInt (show wpAny _ A.in1 (updateSeq S (fun _ => #[.int (preSum val i + val i) s'.toks]) >>= _) _ _ _ from wpAny_bind ?_))
        refine wpAny_updateSeq hS' rfl (wpAny_pure ⟨plainId_quiet F.plain_sum_loop _, ih (i + 1) _ s'.toks _ (by omega) hlt (W.upd _ s' _ _ st' upd_keeps fun b hb => ?_) (Heap.get?_update_self _ hS' rfl) hR⟩)
        rw [List.mem_singleton.mp hb]
        exact ⟨_, Heap.get?_update_self _ hS' rfl, fun v z => nomatch z⟩
      · rename_i hneg
        exact absurd hc hneg)
/-- the greatest so far -/
def topI (val : Nat → Int) : Nat → Int
  | 0 => val 0
  | k + 1 => if val (k + 1) > topI val k then val (k + 1) else topI val k
theorem max_turns (W : WG prog w A.in1 a n vals [S] St Fin) (hv : ∀ i, vals i = .int (val i)) : ∀ (k j : Nat) (s : Shared) (t : Tok) (c : Nat), n - (j + 1) = k → j + 1 ≤ n → St (j + 1) s → s.heap.get? S = some (accO #[.int (topI val j) t, .int (topI val j) t] c) →
    (∀ s' t', Fin s' → R (.ok (.ret (.int (topI val (n - 1)) t'))) s') → codeAny (model prog w) A (.builtin "max.loop" ⟨[.ref a, .none, .ref S], []⟩) R s := by
  have hname : (toString "max" ++ toString ".loop" : String) = "max.loop" := by decide
  intro k
  induction k with
  | zero =>
    intro j s t c hk hj st hS hR
    have hin : j + 1 = n := by omega
    refine codeAny_builtin F.entry_max_loop (by
      rw [Around.under_plainId F.plain_max_loop _]
      show wpAny _ A.in1 (seqItems? (.ref S) >>= _) _ _ s
      refine wpAny_bind (wpAny_seqItems hS rfl (show wpAny _ A.in1 (tryCatch (pyNext (.ref a)) _ >>= _) _ _ s from ?_))
      refine wpAny_bind (wpAny_tryCatch (W.done s _ _ (hin ▸ st) fun s' hF sm => ?_))
      have hS' := same_at sm hS
      show wpAny _ A.in1 (updateSeq S (fun _ => #[]) >>= _) _ _ _
      refine wpAny_bind (wpAny_updateSeq hS' rfl (wpAny_bind (wpAny_letGo (wpAny_pure ?_))))
      have q := hR { s' with heap := s'.heap.update S (Obj.mapSeq fun _ => #[]) } t (W.finU s' _ s'.toks hF upd_keeps fun b hb => by
        rw [List.mem_singleton.mp hb]
        exact ⟨_, Heap.get?_update_self _ hS' rfl, fun v z => nomatch z⟩)
      rw [← hin] at q
      exact q)
  | succ k ih =>
    intro j s t c hk hj st hS hR
    have hlt : j + 1 < n := by omega
    refine codeAny_builtin F.entry_max_loop (by
      rw [Around.under_plainId F.plain_max_loop _]
      show wpAny _ A.in1 (seqItems? (.ref S) >>= _) _ _ s
      refine wpAny_bind (wpAny_seqItems hS rfl (show wpAny _ A.in1 (tryCatch (pyNext (.ref a)) _ >>= _) _ _ s from ?_))
      refine wpAny_bind (wpAny_tryCatch (W.item (j + 1) s _ _ hlt st fun v s' r st' sm => ?_))
      rw [hv (j + 1)] at r
      obtain ⟨t1, rfl⟩ := r
      have hS' := same_at sm hS
      show wpAny _ A.in1 (tryCatch (holding [Value.int (val (j + 1)) t1, Value.int (val (j + 1)) t1] (richCompare .Gt (Value.int (val (j + 1)) t1) (Value.int (topI val j) t) >>= _)) _ >>= _) _ _ _
      refine wpAny_bind (wpAny_tryCatch (wpAny_holding (wpAny_bind (gt_int (wpAny_bind (wpAny_holding (wpAny_truthy_bool (wpAny_bind (wpAny_letGo (wpAny_pure ?_))))))))))
      by_cases hb : val (j + 1) > topI val j
      · rw [decide_eq_true hb]
        simp only [if_true]
        refine wpAny_bind (wpAny_updateSeq hS' rfl (wpAny_bind (wpAny_letGo ?_)))
        rw [hname]
        refine wpAny_pure ⟨plainId_quiet F.plain_max_loop _, ih (j + 1) _ t1 _ (by omega) hlt (W.upd _ s' _ s'.toks st' upd_keeps fun b hb => ?_) (by
          have e : topI val (j + 1) = val (j + 1) := if_pos hb
          rw [e]
          exact Heap.get?_update_self _ hS' rfl) hR⟩
        rw [List.mem_singleton.mp hb]
        exact ⟨_, Heap.get?_update_self _ hS' rfl, fun v z => nomatch z⟩
      · rw [decide_eq_false hb]
        simp only [Bool.false_eq_true, if_false]
        refine wpAny_bind (wpAny_letGo ?_)
        rw [hname]
        refine wpAny_pure ⟨plainId_quiet F.plain_max_loop _, ih (j + 1) _ t c (by omega) hlt st' (by
          have e : topI val (j + 1) = topI val j := if_neg hb
          rw [e]
          exact hS') hR⟩)
end
end LH
namespace LH
open PySem PySem.Spec PyProof.Rows L2 Evl LT LG
section
variable {prog : Program} {w : World} {A : Around} {E : Value → Shared → Prop} {s : Shared} {a : Addr} {n : Nat} {vals : Nat → V} {val : Nat → Int} {Q : Value → Shared → Prop}
theorem call_sumG (hW : ∀ S, s.heap.objs.size ≤ S → ∃ (St : Nat → Shared → Prop) (Fin : Shared → Prop), WG prog w A.in1 a n vals [S] St Fin ∧ (∀ h' tk, (∀ b o, s.heap.get? b = some o → h'.get? b = some o) → (∃ o, h'.get? S = some o ∧ ∀ v, o.data ≠ .cell v) → St 0 { s with heap := h', toks := tk }) ∧ ∀ s' t', Fin s' → Q (.int (preSum val n) t') s')
    (hself : wpAny (model prog w) A.in1 (pyIter (.ref a)) (fun u s' => u = .ref a ∧ s' = s) E s) (hv : ∀ i, vals i = .int (val i)) (hfit : ∀ j, j < n → InLong (val j) ∧ InLong (preSum val (j + 1))) : wpAny (model prog w) A (call (.builtin "sum") [.ref a]) Q E s := by
  refine call_function_tree F.kind_sum F.plain_sum F.entry_sum (F.args_sum1 _) (by
    unfold Builtin.«sum»
    simp only [List.length_cons, List.length_nil]; rw [if_neg (by decide)]
    refine wpAny_bind (wpAny_of_eq (show Builtin.Builtins.bindParams "sum" ["start"] 0 { } = pure [none] from rfl) (wpAny_bind (wpAny_mono hself (fun u s' h => ?_) fun _ _ e => e)))
    obtain ⟨rfl, rfl⟩ := h
    refine wpAny_bind (wpAny_mkInt (wpAny_bind (wpAny_pure ?_)))
    simp only [List.forIn_cons, List.forIn_nil]
    refine wpAny_bind (wpAny_bind (wpAny_bind (wpAny_isInstance (T := "int") (b := false) (typeIs_int _ _ _) PySem.sub_int_str (by
      simp only [Bool.false_eq_true, if_false]
      refine wpAny_pure (wpAny_bind (wpAny_bind (wpAny_isInstance (T := "int") (b := false) (typeIs_int _ _ _) PySem.sub_int_bytes (by
        simp only [Bool.false_eq_true, if_false]
        refine wpAny_pure (wpAny_bind (wpAny_bind (wpAny_isInstance (T := "int") (b := false) (typeIs_int _ _ _) PySem.sub_int_bytearray (by
          simp only [Bool.false_eq_true, if_false]
          refine wpAny_pure (wpAny_pure (wpAny_bind (wpAny_newObj_type ?_)))
          obtain ⟨St, Fin, W, h0, hQ⟩ := hW s'.heap.objs.size (Nat.le_refl _)
          exact wpAny_pure ⟨plainId_quiet F.plain_sum_loop _, sum_turns W hv hfit n 0 _ s'.toks 0 rfl (Nat.zero_le _) (h0 _ _ (fun b o e => Heap.get?_push_of_some _ e) ⟨_, Heap.get?_push_size _ rfl, fun v z => nomatch z⟩) (Heap.get?_push_size _ rfl) hQ⟩)))))))))))))
theorem call_maxG (hW : ∀ S, s.heap.objs.size ≤ S → ∃ (St : Nat → Shared → Prop) (Fin : Shared → Prop), WG prog w A.in1 a n vals [S] St Fin ∧ (∀ h' tk, (∀ b o, s.heap.get? b = some o → h'.get? b = some o) → (∃ o, h'.get? S = some o ∧ ∀ v, o.data ≠ .cell v) → St 0 { s with heap := h', toks := tk }) ∧ ∀ s' t', Fin s' → Q (.int (topI val (n - 1)) t') s')
    (hself : wpAny (model prog w) A.in1 (pyIter (.ref a)) (fun u s' => u = .ref a ∧ s' = s) E s) (hv : ∀ i, vals i = .int (val i)) (hn : 0 < n) : wpAny (model prog w) A (call (.builtin "max") [.ref a]) Q E s := by
  have hname : (toString "max" ++ toString ".loop" : String) = "max.loop" := by decide
  refine call_function_tree F.kind_max F.plain_max F.entry_max (F.args_max1 _) (by
    show wpAny _ A.in1 (Builtin.Builtins.bindParams "max" ["key", "default"] 0 ⟨[], []⟩ >>= _) _ _ s
    refine wpAny_bind (wpAny_of_eq (show Builtin.Builtins.bindParams "max" ["key", "default"] 0 ⟨[], []⟩ = pure [none, none] from rfl) (wpAny_bind (wpAny_pure (wpAny_bind (wpAny_mono hself (fun u s' h => ?_) fun _ _ e => e)))))
    obtain ⟨rfl, rfl⟩ := h
    refine wpAny_bind (wpAny_newObj_type ?_)
    obtain ⟨St, Fin, W, h0, hQ⟩ := hW s'.heap.objs.size (Nat.le_refl _)
    rw [hname]
    generalize hS : s'.heap.objs.size = S at W h0 ⊢
    have hS0 : (s'.heap.push { cls := .type "list", dict := none, data := .seq #[] 0 }).get? S = some (accO #[] 0) := by rw [← hS]; exact Heap.get?_push_size _ rfl
    have st0 := h0 (s'.heap.push { cls := .type "list", dict := none, data := .seq #[] 0 }) s'.toks (fun b o e => Heap.get?_push_of_some _ e) ⟨_, hS0, fun v z => nomatch z⟩
    refine wpAny_pure ⟨plainId_quiet F.plain_max_loop _, codeAny_builtin F.entry_max_loop (by
      rw [Around.under_plainId F.plain_max_loop _]
      show wpAny _ A.in1 (seqItems? (.ref S) >>= _) _ _ _
      refine wpAny_bind (wpAny_seqItems hS0 rfl (show wpAny _ A.in1 (tryCatch (pyNext (.ref a)) _ >>= _) _ _ _ from ?_))
      refine wpAny_bind (wpAny_tryCatch (W.item 0 _ _ _ hn st0 fun v s2 r st' sm => ?_))
      rw [hv 0] at r
      obtain ⟨t1, rfl⟩ := r
      have hS' := same_at sm hS0
      show wpAny _ A.in1 (updateSeq S (fun _ => #[Value.int (val 0) t1, Value.int (val 0) t1]) >>= _) _ _ _
      refine wpAny_bind (wpAny_updateSeq hS' rfl ?_)
      rw [hname]
      refine wpAny_pure ⟨plainId_quiet F.plain_max_loop _, max_turns W hv _ 0 _ t1 _ rfl hn (W.upd _ s2 _ s2.toks st' upd_keeps fun b hb => ?_) (Heap.get?_update_self _ hS' rfl) hQ⟩
      rw [List.mem_singleton.mp hb]
      exact ⟨_, Heap.get?_update_self _ hS' rfl, fun v z => nomatch z⟩)⟩)
end
/-! ### the rules -/
def okAll (n : Nat) (vals : Nat → V) (r : V) : Prop := ∃ f : Nat → Bool, vals = (fun i => .bl (f i)) ∧ r = .bl (allF n f)
def okAny (n : Nat) (vals : Nat → V) (r : V) : Prop := ∃ f : Nat → Bool, vals = (fun i => .bl (f i)) ∧ r = .bl (anyF n f)
def okSum (n : Nat) (vals : Nat → V) (r : V) : Prop := ∃ f : Nat → Int, vals = (fun i => .int (f i)) ∧ r = .int (preSum f n) ∧ ∀ j, j < n → InLong (f j) ∧ InLong (preSum f (j + 1))
def okMax (n : Nat) (vals : Nat → V) (r : V) : Prop := ∃ f : Nat → Int, vals = (fun i => .int (f i)) ∧ r = .int (topI f (n - 1)) ∧ 0 < n
section
variable {X : Cx} {c P : Addr} {elt tg iter : Expr} {scope : Scope} {own : List (Str × Nat)} {p pos gpos : Pos} {wi : TI} {g : TG} {te : TE} {k : Nat}
theorem pe_gen {bn : Str} {b : String} {okc : Nat → (Nat → V) → V → Prop} (hbb : bootBuiltins bn = some (.builtin b)) (hcall : ∀ (pins : List (Addr × Obj)) (σ : L2.St) (n : Nat) (vals : Nat → V) (r : V) (QF : Hp → Prop) (a : Addr) (s5 : Shared), okc n vals r → RdyX X pins σ n vals QF a s5 → wpAny (model X.prog X.w) X.A (call (.builtin b) [.ref a]) (fun u s' => RelV r u ∧ ∃ H', Inv X pins σ H' s' ∧ QF H') X.xe s5)
    (hr : Room (k + 1) X.A) (hN : X.N.Nodup) (hgl : Gl X bn) (hm : X.mg bn = none) (TB : LamX.TabB X.base X.mg c P) (hcode : X.env.code = .ref c) (S : GenX X.env scope) (ok : BlkOk X.N X.env.scope scope own)
    (hi : PI X tg iter wi) (hs : ∀ v, genFold iter X.env v = pure v) (hg : ∀ (A' : Around) (s : Shared) (H : Hp) (C : Addr) (code : Value) (fp : List Addr), Room k A' → PG (gnb X A' s H (gnE X scope C code) fp) tg g) (he : ∀ (A' : Around) (s : Shared) (H : Hp) (C : Addr) (code : Value) (fp : List Addr), Room k A' → PE (gnb X A' s H (gnE X scope C code) fp) elt te)
    (hst : starEach [.GeneratorExp elt [⟨tg, iter, [], 0⟩] scope gpos] X.env = (false, eval (.GeneratorExp elt [⟨tg, iter, [], 0⟩] scope gpos) X.env) :: starEach [] X.env := by rfl) (hnm : bn ≠ "__name__" := by decide) (hdb : (bn == ("__debug__" : Str)) = false := by decide) :
    PE X (.Call (.Name bn p) [.GeneratorExp elt [⟨tg, iter, [], 0⟩] scope gpos] [] pos) (tGX P okc wi g te (own.map (·.2))) := by
  refine ⟨fun pins s σ H Q I h => wpAny_Call_Name_kw (ld_blt I hgl hm hbb (PyProof.Rows.callWith_builtin1 ?_ hst (by rfl)) hnm hdb)⟩
  rw [hst]
  show wpAny _ _ (spliced ((false, eval (.GeneratorExp elt [⟨tg, iter, [], 0⟩] scope gpos) X.env) :: backTo pos (starEach [] X.env))) _ _ s
  refine Calls.spliced_cons (gen_makeX hr hN TB hcode S ok hi hs hg he I h fun n vals r W a s5 hok fin rdy => Calls.spliced_nil (wpAny_mono (hcall pins σ n vals r _ a s5 hok rdy) (fun u s' ⟨r1, H', I', i, hi, w⟩ => ⟨r, H', I', r1, fin i H' hi w⟩) fun _ _ e => e))
theorem rdy0 {pins : List (Addr × Obj)} {σ : L2.St} {n : Nat} {vals : Nat → V} {QF : Hp → Prop} {a : Addr} {s5 : Shared} (R : RdyX X pins σ n vals QF a s5) : ∃ St Fin, WG X.prog X.w X.A.in1 a n vals [] St Fin ∧ St 0 s5 ∧ ∀ s', Fin s' → ∃ H', Inv X pins σ H' s' ∧ QF H' := by
  obtain ⟨St, Fin, h1, h2, h3⟩ := R
  exact ⟨St [], Fin [], h1 [] (fun b hb => nomatch hb), h2 [] s5.heap s5.toks (fun b hb => nomatch hb) (fun _ _ e => e) (fun b hb => nomatch hb), h3 []⟩
theorem call_all_rdy {pins : List (Addr × Obj)} {σ : L2.St} {n : Nat} {vals : Nat → V} {r : V} {QF : Hp → Prop} {a : Addr} {s5 : Shared} (ok : okAll n vals r) (R : RdyX X pins σ n vals QF a s5) : wpAny (model X.prog X.w) X.A (call (.builtin "all") [.ref a]) (fun u s' => RelV r u ∧ ∃ H', Inv X pins σ H' s' ∧ QF H') X.xe s5 := by
  obtain ⟨f, rfl, rfl⟩ := ok
  obtain ⟨St, Fin, W, st, hF⟩ := rdy0 R
  exact call_allG W (fun _ => rfl) st fun s' h => ⟨rfl, hF s' h⟩
theorem call_any_rdy {pins : List (Addr × Obj)} {σ : L2.St} {n : Nat} {vals : Nat → V} {r : V} {QF : Hp → Prop} {a : Addr} {s5 : Shared} (ok : okAny n vals r) (R : RdyX X pins σ n vals QF a s5) : wpAny (model X.prog X.w) X.A (call (.builtin "any") [.ref a]) (fun u s' => RelV r u ∧ ∃ H', Inv X pins σ H' s' ∧ QF H') X.xe s5 := by
  obtain ⟨f, rfl, rfl⟩ := ok
  obtain ⟨St, Fin, W, st, hF⟩ := rdy0 R
  exact call_anyG W (fun _ => rfl) st fun s' h => ⟨rfl, hF s' h⟩
theorem rdy1 {pins : List (Addr × Obj)} {σ : L2.St} {n : Nat} {vals : Nat → V} {QF : Hp → Prop} {a : Addr} {s5 : Shared} (R : RdyX X pins σ n vals QF a s5) (S : Addr) (hS : s5.heap.objs.size ≤ S) : ∃ (St : Nat → Shared → Prop) (Fin : Shared → Prop), WG X.prog X.w X.A.in1 a n vals [S] St Fin ∧ (∀ h' tk, (∀ b o, s5.heap.get? b = some o → h'.get? b = some o) → (∃ o, h'.get? S = some o ∧ ∀ v, o.data ≠ .cell v) → St 0 { s5 with heap := h', toks := tk }) ∧
    ∀ s', Fin s' → ∃ H', Inv X pins σ H' s' ∧ QF H' := by
  obtain ⟨St, Fin, h1, h2, h3⟩ := R
  have hSp : ∀ b ∈ [S], s5.heap.objs.size ≤ b := fun b hb => by rw [List.mem_singleton.mp hb]; exact hS
  exact ⟨St [S], Fin [S], h1 [S] hSp, fun h' tk k e => h2 [S] h' tk hSp k fun b hb => by rw [List.mem_singleton.mp hb]; exact e, h3 [S]⟩
theorem self_rdy {E : Value → Shared → Prop} {pins : List (Addr × Obj)} {σ : L2.St} {n : Nat} {vals : Nat → V} {QF : Hp → Prop} {a : Addr} {s5 : Shared} (R : RdyX X pins σ n vals QF a s5) : wpAny (model X.prog X.w) X.A.in1 (pyIter (.ref a)) (fun u s' => u = .ref a ∧ s' = s5) E s5 := by
  obtain ⟨St, Fin, W, st, hF⟩ := rdy0 R
  exact W.self 0 _ _ _ st ⟨rfl, rfl⟩
theorem call_sum_rdy {pins : List (Addr × Obj)} {σ : L2.St} {n : Nat} {vals : Nat → V} {r : V} {QF : Hp → Prop} {a : Addr} {s5 : Shared} (ok : okSum n vals r) (R : RdyX X pins σ n vals QF a s5) : wpAny (model X.prog X.w) X.A (call (.builtin "sum") [.ref a]) (fun u s' => RelV r u ∧ ∃ H', Inv X pins σ H' s' ∧ QF H') X.xe s5 := by
  obtain ⟨f, rfl, rfl, hfit⟩ := ok
  exact call_sumG (fun S hS => let ⟨S1, F1, W, h0, hF⟩ := rdy1 R S hS; ⟨S1, F1, W, h0, fun s' t' h => ⟨⟨t', rfl⟩, hF s' h⟩⟩) (self_rdy R) (fun _ => rfl) hfit
theorem call_max_rdy {pins : List (Addr × Obj)} {σ : L2.St} {n : Nat} {vals : Nat → V} {r : V} {QF : Hp → Prop} {a : Addr} {s5 : Shared} (ok : okMax n vals r) (R : RdyX X pins σ n vals QF a s5) : wpAny (model X.prog X.w) X.A (call (.builtin "max") [.ref a]) (fun u s' => RelV r u ∧ ∃ H', Inv X pins σ H' s' ∧ QF H') X.xe s5 := by
  obtain ⟨f, rfl, rfl, hn⟩ := ok
  exact call_maxG (fun S hS => let ⟨S1, F1, W, h0, hF⟩ := rdy1 R S hS; ⟨S1, F1, W, h0, fun s' t' h => ⟨⟨t', rfl⟩, hF s' h⟩⟩) (self_rdy R) (fun _ => rfl) hn
end
end LH

set_option Elab.async false
set_option linter.all false
set_option maxRecDepth 100000
set_option maxHeartbeats 4000000
namespace LO
open PySem PySem.Spec PyProof.Rows L2 L2H Evl LT LG LS LX
/-! ### own objects: fields, methods, items changed -/
theorem get_list {X : Cx} : PGet X (rIxL X.K) := by
  intro pins s σ H x y v u Q I rx ry h
  obtain ⟨p, xs, i, z, rfl, rfl, hq, he, q⟩ := h
  cases rx
  obtain ⟨t, rfl⟩ := ry
  obtain ⟨its, r, pl, hz⟩ := I.list hq
  obtain ⟨j, h1, h2, h3, h4, h5⟩ := atI_get he
  obtain ⟨w, ew, rw'⟩ := r.get h2
  have hl := r.length
  have hn := line63
  have fin : EP X pins σ Q w s := ⟨z, H, I, rw', q⟩
  by_cases h0 : 0 ≤ i
  · have hj : i.toNat = j := by
      rw [seqIndex_of h0 h5] at h1
      exact Option.some.inj h1
    exact wpAny_getItem_list (Q := fun r s' => EP X pins σ Q r s') pl.isList h0 (by omega) (by rw [hj]; simpa using ew) fin
  · have hj : (i + (its.toArray.size : Int)).toNat = j := by
      rw [seqIndex_neg (by omega) h4] at h1
      rw [List.size_toArray, ← hl]
      exact Option.some.inj h1
    exact wpAny_getItem_list_neg (Q := fun r s' => EP X pins σ Q r s') pl.isList (by omega) (by rw [List.size_toArray] <;> omega) (by omega) (by rw [hj]; simpa using ew) fin
/-- o.m(e, ..), what is raised wished for at the slots -/
def tMethA (C : Addr) (m : Str) (sp : Sp) (E : L2.St → XK) (ta : TE) (t : TA) : TE := fun σ H Q => ta σ H fun x H1 => ∃ a dx fs, x = .ref a ∧ H1 a = some (.ins C dx fs) ∧ fs.lookup m = none ∧ t σ H1 fun vs H2 => sp (x :: vs) H2 Q (E σ)
section
variable {X : Cx} {CX : CXT} {k : Nat} {f C : Addr} {fd : FuncData} {ps : List Str} {sp : Sp} {E : L2.St → XK} {m : Str} {pos apos : Pos} {e o : Expr} {es : List Expr} {ta : TE} {t : TA}
theorem pe_methA {pl : Sem Bool} (he : PE X o ta) (c : Cls X.K C) (hm : Meth X.K C m f) (F : FnOk X.prog X.w X.K X.mg X.base CX k f fd ps sp) (hr : Room k X.A) (hb : Binds X.K fd ps []) (hx : ∀ σ, PassesAt CX X σ (E σ)) (ha : PA X (e :: es) t)
    (hst : starEach (e :: es) X.env = (false, eval e X.env) :: starEach es X.env := by rfl) (hpl : (backTo pos (starEach es X.env)).any (·.1) = false := by rfl)
    (ht : eval (.Call (.Attribute o m apos) (e :: es) [] pos) X.env = (do
      let ov ← eval o X.env
      standAt apos.atName
      let (f, first) ← holding [ov] (getMethod ov m pl)
      callWith pos f first (backTo pos (starEach (e :: es) X.env)) (backToKw pos (keywordEach [] X.env))) := by rfl) :
    PE X (.Call (.Attribute o m apos) (e :: es) [] pos) (tMethA C m sp E ta t) := by
  refine ⟨fun pins s σ H Q I h => ?_⟩
  refine PySem.W.methodCall_KW (pl := pl) (thn (he.run pins s σ H _ I h) fun u s1 ⟨x, H1, I1, rx, a, dx, fs, ex, ea, l, q⟩ => ?_) ht
  subst ex
  obtain rfl : u = Value.ref a := rx
  refine getmeth_ok I1 ea c hm l ?_
  refine PySem.W.callWith_K (first := [.ref a]) (h₀ := X.base) I.ok.mod.kin hm.kp (thn (ha.run pos pins s1 σ H1 _ I1 q) fun us s2 ⟨vs, H2, I2, r, q2⟩ => ⟨I2.kIn, ?_⟩) hst hpl
  exact run_fnS (us := .ref a :: us) (vs := .ref a :: vs) F hr hb (hx σ) I2 (.cons rfl r) q2
theorem pe_methA0 {pl : Sem Bool} (he : PE X o ta) (c : Cls X.K C) (hm : Meth X.K C m f) (F : FnOk X.prog X.w X.K X.mg X.base CX k f fd ps sp) (hr : Room k X.A) (hb : Binds X.K fd ps []) (hx : ∀ σ, PassesAt CX X σ (E σ))
    (ht : eval (.Call (.Attribute o m apos) [] [] pos) X.env = (do
      let ov ← eval o X.env
      standAt apos.atName
      let (f, first) ← holding [ov] (getMethod ov m pl)
      callWith pos f first (backTo pos (starEach [] X.env)) (backToKw pos (keywordEach [] X.env))) := by rfl) :
    PE X (.Call (.Attribute o m apos) [] [] pos) (tMethA C m sp E ta tNil) := by
  refine ⟨fun pins s σ H Q I h => ?_⟩
  refine PySem.W.methodCall_KW (pl := pl) (thn (he.run pins s σ H _ I h) fun u s1 ⟨x, H1, I1, rx, a, dx, fs, ex, ea, l, q⟩ => ?_) ht
  subst ex
  obtain rfl : u = Value.ref a := rx
  refine getmeth_ok I1 ea c hm l ?_
  exact PySem.W.callWith_K0 (first := [.ref a]) I1.kIn hm.kp (run_fnS (us := [.ref a]) (vs := [.ref a]) F hr hb (hx σ) I1 (.cons rfl .nil) q)
end
/-! ### a def that is handed the caught exception, within the suite -/
structure FnE (P : Program) (w : World) (K : PySem.W.Frag) (mg : Str → Option Value) (base : Heap) (CX : CXT) (k : Nat) (f : Addr) (fd : FuncData) (ps : List Str) (sp : Addr → Addr → Sp) : Prop where
  len : ∀ D a vs H Q E, sp D a vs H Q E → vs.length = ps.length
  run : ∀ (A : Around) (outer : List Env) (s : Shared) (H : Hp) (args : Args) (us : List Value) (vs : List V) (Q : VK) (E : XK) (p : Addr × Obj) (D : Addr), RoomH k A → Zc (.ref D) none p.2 → (∃ vs, p.2.data = .fields vs) → PinOk outer H s p → Env0 P w K mg base A outer s H → BindsTo s fd args (ps.zip us) → Vals vs us → sp D p.1 vs H Q E →
    codeAny (model P w) A (.call (.ref f) args) (CR CX outer P w H s Q E) s
theorem fn_ofE {CX : CXT} {P : Program} {w : World} {K : PySem.W.Frag} {mg : Str → Option Value} {base : Heap} {k : Nat} {f : Addr} {name qual : Str} {params : Arguments} {body : List Stmt} {scope : Scope} {dV kV doc pm cdv ct oc : Value} {an od : Option Addr}
    {osl : Array (Option Value)} {N ps : List Str} {sp : Addr → Addr → Sp} (lk : K.lookup f = some ⟨oc, od, .func (PySem.W.fnOf name qual params body scope dV kV doc pm an cdv ct), osl⟩) (hcd : PySem.W.codeIn K cdv qual = true) (S : FnScope N ps scope)
    (len : ∀ D a vs H Q E, sp D a vs H Q E → vs.length = ps.length)
    (hbody : ∀ (A : Around) (outer : List Env) (s : Shared) (H : Hp) (vs : List V) (Q : VK) (E : XK) (p : Addr × Obj) (D : Addr), RoomH k (A.deeper (envOfC qual scope s.heap.objs.size f cdv)) → Zc (.ref D) none p.2 → (∃ vs, p.2.data = .fields vs) → sp D p.1 vs H Q E →
      ∃ t, PSs (cxH CX P w K mg base N qual scope f cdv A outer s H E p) body t ∧ t { nx := fun _ H' => Q .non H', rt := Q } (L2.start N vs) H) :
    FnE P w K mg base CX (k + 1) f (PySem.W.fnOf name qual params body scope dV kV doc pm an cdv ct) ps sp := by
  refine ⟨len, fun A outer s H args us vs Q E p D hr hz hf hpin e0 hb r hsp => ?_⟩
  have hl := len _ _ _ _ _ _ hsp
  have KX : K.In s.heap := e0.mod.kin.keeps fun b o e => (e0.bs b o e).1
  have lim : s.heap.NoLimit := e0.mod.nolimit.keeps fun b o e => (e0.bs b o e).1
  have hkind : ∀ y ∈ ps.zip us, scope.names.lookup y.1 = some .local ∨ (scope.names.lookup y.1 = some .cell ∧ ((cellsFrom (s.heap.objs.size + 1) scope.names []).lookup y.1).isSome = true) := fun ⟨n, v⟩ hy => by
    rcases S.par n (List.of_mem_zip hy).1 with q | q
    · exact .inl q
    · exact .inr ⟨q, PySem.W.cellsFrom_some _ _ _ (.inl q)⟩
  refine codeAny_call_function hr.depth (KX _ _ lk) rfl S.co S.gen rfl (PySem.W.codeRec_of KX hcd) (hb _ _ _ _ ?_)
  refine wpAny_newFunctionEnv_cells S.kind hkind fun env he s1 x => ?_
  subst he
  refine ⟨lim.keeps x.toInCall.keep, codeAny_func ?_⟩
  obtain ⟨t, ht, hq⟩ := hbody A outer s H vs Q E p D (hr.deeper _) hz hf hsp
  have I : Inv (cxH CX P w K mg base N qual scope f cdv A outer s H E p) [] (L2.start N vs) H s1 := inv_startH S hpin e0 hl r x
  refine wpAny_mono (ht.run [] s1 (L2.start N vs) H _ I hq) (fun fl s' hs => ?_) fun e s' hs => hs
  have fin : ∀ {σ' : L2.St} {H' : Hp} {v : V} {u : Value}, Inv (cxH CX P w K mg base N qual scope f cdv A outer s H E p) [] σ' H' s' → RelV v u → Q v H' → CE outer P w H s Q u s' :=
    fun {σ' H' v u} J rv q => ⟨v, H', J.os, J.bare, J.base, J.hok, rv, q⟩
  cases fl with
  | ret u =>
    obtain ⟨v, σ', H', J, rv, q⟩ := hs
    exact fin J rv q
  | next =>
    obtain ⟨σ', H', J, q⟩ := hs
    exact fin (v := V.non) (u := Value.none) J rfl q
  | brk =>
    obtain ⟨_, _, _, q⟩ := hs
    exact False.elim q
  | cont =>
    obtain ⟨_, _, _, q⟩ := hs
    exact False.elim q
section
variable {P : Program} {w : World} {K : PySem.W.Frag} {mg : Str → Option Value} {base : Heap}
theorem okE {x qual : Str} {st : Stmt} {f : Addr} {fd : FuncData} {N ps : List Str} {k : Nat} {sp : Addr → Addr → Sp} (F : Fun K x qual st f fd) (S : FnScope N ps (defScope st)) (len : ∀ D a vs H Q E, sp D a vs H Q E → vs.length = ps.length)
    (hbody : ∀ (cdv : Value) (A : Around) (outer : List Env) (s : Shared) (H : Hp) (vs : List V) (Q : VK) (E : XK) (p : Addr × Obj) (D : Addr), RoomH k (A.deeper (envOfC qual (defScope st) s.heap.objs.size f cdv)) → Zc (.ref D) none p.2 → (∃ vs, p.2.data = .fields vs) → sp D p.1 vs H Q E →
      ∃ t, PSs (cxH CX0 P w K mg base N qual (defScope st) f cdv A outer s H E p) (defBody st) t ∧ t { nx := fun _ H' => Q .non H', rt := Q } (L2.start N vs) H) : FnE P w K mg base CX0 (k + 1) f fd ps sp := by
  obtain ⟨oc, od, kV, doc, pm, an, cdv, ct, osl, rfl, lk, hcd⟩ := F.ex
  exact fn_ofE lk hcd S len fun A outer s H vs Q E p D hr hz hf hsp => hbody cdv A outer s H vs Q E p D hr hz hf hsp
end
def tCallE (sp : Addr → Addr → Sp) (cls : Value) (d : Option Addr) (a : Addr) (E : L2.St → XK) (t : TA) : TE := fun σ H Q => t σ H fun vs H1 => ∃ D, cls = .ref D ∧ d = none ∧ sp D a vs H1 Q (E σ)
section
variable {X : Cx} {CX : CXT} {k : Nat} {f : Addr} {fd : FuncData} {ps : List Str} {sp : Addr → Addr → Sp} {E : L2.St → XK} {x : Str} {q pos : Pos} {e : Expr} {es : List Expr} {t : TA} {a : Addr} {oe : Obj} {cls : Value} {d : Option Addr} {pn : List (Addr × Obj)}
theorem pass0E {X : Cx} {σ : L2.St} {E : XK} : PassesAt CX0 X σ E := fun _ _ _ _ _ _ h => h.elim
theorem pe_callE (hz : Zc cls d oe) (hf : ∃ vs, oe.data = .fields vs) (F : FnE X.prog X.w X.K X.mg X.base CX k f fd ps sp) (hr : Room k X.A) (hg : Gl (X.suite a ((a, oe) :: pn)) x) (hm : X.mg x = some (.ref f)) (hk : PySem.W.keepIn X.K (.ref f) = true) (hb : Binds X.K fd ps []) (hx : ∀ σ, PassesAt CX (X.suite a ((a, oe) :: pn)) σ (E σ))
    (ha : PA (X.suite a ((a, oe) :: pn)) (e :: es) t) (hdb : (x == ("__debug__" : Str)) = false := by decide) (he : starEach (e :: es) X.env = (false, eval e X.env) :: starEach es X.env := by rfl) (hpl : (backTo pos (starEach es X.env)).any (·.1) = false := by rfl) :
    PE (X.suite a ((a, oe) :: pn)) (.Call (.Name x q) (e :: es) [] pos) (tCallE sp cls d a E t) := by
  refine ⟨fun pins s σ H Q I h => ?_⟩
  refine wpAny_Call_Name_kw (ld_glob I hg hm ?_ hdb)
  refine PySem.W.callWith_K (h₀ := X.base) I.ok.mod.kin hk (thn (ha.run pos pins s σ H _ I h) fun us s1 ⟨vs, H1, I1, r, q⟩ => ⟨I1.kIn, ?_⟩) he hpl
  obtain ⟨D, rfl, rfl, q⟩ := q
  have hl : us.length = ps.length := by rw [← r.length]; exact F.len _ _ _ _ _ _ q
  have b := hb s1 us I1.kIn (by rw [List.append_nil]; exact hl)
  rw [List.append_nil] at b
  have P1 := I1.pin (a, oe) (List.mem_append_left _ List.mem_cons_self)
  have hpin : PinOk X.stack H1 s1 (a, oe) := ⟨P1.1, P1.2.1, fun hm => (List.mem_cons.mp (I1.stkSub a hm)).elim P1.2.2.1 P1.2.2.2.1, P1.2.2.2.2⟩
  refine wpAny_call (codeAny_mono (F.run _ X.stack s1 H1 ⟨us, []⟩ us vs Q (E σ) (a, oe) D ⟨hr.dp, hr.un⟩ hz hf hpin I1.env0 b r q) fun r s' hq => ?_)
  cases r with
  | error e => exact hx σ pins H1 s1 e s' I1 hq
  | ok fl =>
    cases fl with
    | ret u => exact I1.after hq
    | next => exact False.elim hq
    | brk => exact False.elim hq
    | cont => exact False.elim hq
end
/-- isinstance(e, c), e the exception that is handed in -/
def rIsP (K : PySem.W.Frag) (D a : Addr) : List V → Hp → VK → Prop := fun xs H Q => ExcC K D ∧ rIsE K D a xs H Q
theorem call_isP {X : Cx} {D : Addr} {p : Addr × Obj} (hp : p ∈ X.pn) (hz : Zc (.ref D) none p.2) (hf : ∃ vs, p.2.data = .fields vs) : CallR X (.builtin "isinstance") (rIsP X.K D p.1) := by
  intro pins s σ H xs us Q I r h
  obtain ⟨C, c, cv, b, rfl, hcv, e, q⟩ := h
  cases r with
  | cons rx rr =>
    cases rr with
    | cons rt rr =>
      cases rr
      cases rx
      have ec := hcv _ rt
      subst ec
      obtain ⟨hget, _⟩ := I.pin p (List.mem_append.mpr (.inl hp))
      obtain ⟨vs, hv⟩ := hf
      have J : PySem.W.InstAt s.heap p.1 p.2 D none := by
        obtain ⟨a, oc, od, oda, osl⟩ := p
        obtain ⟨h1, h2⟩ := hz
        dsimp only at h1 h2 hv hget ⊢
        subst h1 h2 hv
        exact ⟨hget, rfl, rfl, trivial⟩
      exact PySem.W.kia_one (PySem.W.handS_kitx_exc C.hg C.hk C.hs C.hd C.ha C.hn C.ht C.hm) I.kIn J e (fun z => nomatch z) fun tk => ⟨.bl b, H, I.kept (t' := tk) fun _ _ z => z, rfl, q⟩
theorem ev_isP {K : PySem.W.Frag} {D a C : Addr} {σ : L2.St} {H : Hp} {ta tb : TE} {b : Bool} (hC : ExcC K D) (h : Ev ta σ H (.ref a)) (hn : Ev tb σ H (.ref C)) (hk : PySem.W.kitOne K (.ref D) (.ref C) = some b) : Ev (tCB (rIsP K D a) (tCons ta (tCons tb tNil))) σ H (.bl b) :=
  ev_cb (ea_cons h (ea_cons hn ea_nil)) fun H1 e Q q => ⟨hC, .ref C, .ref C, b, rfl, fun u hu => hu, hk, q H1 (Ex.refl H1)⟩
/-- isinstance in the suite, the class open -/
def rIsQ (K : PySem.W.Frag) (a : Addr) (cls : Value) (d : Option Addr) : List V → Hp → VK → Prop := fun xs H Q => ∃ D, cls = .ref D ∧ d = none ∧ ExcC K D ∧ rIsE K D a xs H Q
theorem call_isQ {X : Cx} {a : Addr} {oe : Obj} {cls : Value} {d : Option Addr} {pn : List (Addr × Obj)} (hz : Zc cls d oe) (hf : ∃ vs, oe.data = .fields vs) : CallR (X.suite a ((a, oe) :: pn)) (.builtin "isinstance") (rIsQ X.K a cls d) := by
  intro pins s σ H xs us Q I r h
  obtain ⟨D, rfl, rfl, C, h⟩ := h
  exact call_isE C hz hf pins s σ H xs us Q I r h
theorem ev_isQ {K : PySem.W.Frag} {D a C : Addr} {σ : L2.St} {H : Hp} {ta tb : TE} {b : Bool} (hC : ExcC K D) (h : Ev ta σ H (.ref a)) (hn : Ev tb σ H (.ref C)) (hk : PySem.W.kitOne K (.ref D) (.ref C) = some b) : Ev (tCB (rIsQ K a (.ref D) none) (tCons ta (tCons tb tNil))) σ H (.bl b) :=
  ev_cb (ea_cons h (ea_cons hn ea_nil)) fun H1 e Q q => ⟨D, rfl, rfl, hC, .ref C, .ref C, b, rfl, fun u hu => hu, hk, q H1 (Ex.refl H1)⟩
theorem el_is {te : TE} {σ : L2.St} {H : Hp} {xs ys : List V} (h : EvL te σ H xs) (e : xs = ys) : EvL te σ H ys := by
  rw [← e]
  exact h
theorem rv_isN {H : Hp} {x : V} : RV (fun x y H Q => y = .non ∧ Q (.bl (decide (x = .non))) H) x .non H (.bl (decide (x = .non))) := rv_val fun _ _ Q q => ⟨rfl, q⟩
theorem rv_notN {H : Hp} {x : V} : RV (fun x y H Q => y = .non ∧ Q (.bl (!decide (x = .non))) H) x .non H (.bl (!decide (x = .non))) := rv_val fun _ _ Q q => ⟨rfl, q⟩
/-- a call, then a new instance by its __init__ -/
theorem q_make {C : Addr} {sp : Sp} {σ : L2.St} {H : Hp} {t : TA} {vs : List V} {E : XK} {i : Nat} {tz : TS} {D : Ends} (ht : EvA t σ H vs) (k : ∀ p dx H1 H2, H p = none → H1 p = none → Ex H H1 → H2 p = some (.ins C dx []) → Ex H1 H2 → sp (.ref p :: vs) H2 (fun v H3 => v = .non ∧ tz D (σ.set i (some (.ref p))) H3) E) : tSeq (tAsg (tMake C sp [] E t) (gName i)) tz D σ H :=
  ht H (Ex.refl _) _ fun H1 e1 p dx hp hd hne => by
    have h := k p dx H1 (upd (upd H1 dx (.own p)) p (.ins C dx [])) (fresh_back e1 hp) hp e1 upd_same ((Ex.new hd).mut hp)
    rw [show V.ref p :: (vs ++ []) = V.ref p :: vs by rw [List.append_nil]]
    exact h
/-- runs of a call -/
theorem q_run {sp : Sp} {σ : L2.St} {H : Hp} {tr : TA} {vs : List V} {E : XK} {tz : TS} {D : Ends} {i : Nat} (h : EvA tr σ H vs) (k : ∀ H1, Ex H H1 → sp vs H1 (fun v H2 => tz D (σ.set i (some v)) H2) E) : tSeq (tAsg (tCall sp [] E tr) (gName i)) tz D σ H := h H (Ex.refl H) _ fun H1 e => by
    rw [List.append_nil]
    exact k H1 e
/-! ### what fields and methods evaluate to -/
section
variable {K : PySem.W.Frag} {σ : L2.St} {H : Hp} {ta tb te : TE} {t : TA} {v z : V} {C p dx : Addr} {fs : List (Str × V)} {m : Str} {sp : Sp} {vs : List V} {tz : TS} {D : Ends}
theorem ev_fld (ha : Ev ta σ H (.ref p)) (hi : H p = some (.ins C dx fs)) (c : Cls K C) (n : NoAttr K C m) (hl : fs.lookup m = some v) : Ev (tFld K ta m) σ H v := fun H1 e Q q =>
  ha H1 e _ fun H2 e2 => ⟨p, C, dx, fs, v, rfl, e2 _ _ (e _ _ hi), c, n, hl, q H2 e2⟩
theorem ev_meth {E : XK} (ha : Ev ta σ H (.ref p)) (hi : H p = some (.ins C dx fs)) (hl : fs.lookup m = none) (ht : EvA t σ H vs) (hs : SpV sp (.ref p :: vs) H z) : Ev (tMeth C m sp [] E ta t) σ H z := fun H1 e Q q =>
  ha H1 e _ fun H2 e2 => ⟨p, dx, fs, rfl, e2 _ _ (e _ _ hi), hl, ht H2 (e.trans e2) _ fun H3 e3 => by
    rw [List.append_nil]
    exact hs H3 ((e.trans e2).trans e3) Q (fun H4 e4 => q H4 ((e2.trans e3).trans e4)) E⟩
theorem ev_meth0 {E : XK} (ha : Ev ta σ H (.ref p)) (hi : H p = some (.ins C dx fs)) (hl : fs.lookup m = none) (hs : SpV sp [.ref p] H z) : Ev (tMeth C m sp [] E ta tNil) σ H z := ev_meth ha hi hl ea_nil hs
/-- a method that changes something: its own promise, then the rest -/
theorem m_run {E : XK} {Q : VK} (ha : Ev ta σ H (.ref p)) (hi : H p = some (.ins C dx fs)) (hl : fs.lookup m = none) (ht : EvA t σ H vs) (k : ∀ H1, Ex H H1 → sp (.ref p :: vs) H1 Q E) : tMeth C m sp [] E ta t σ H Q :=
  ha H (Ex.refl _) _ fun H2 e2 => ⟨p, dx, fs, rfl, e2 _ _ hi, hl, ht H2 e2 _ fun H3 e3 => by
    rw [List.append_nil]
    exact k H3 (e2.trans e3)⟩
theorem mA_run {E : L2.St → XK} {Q : VK} (ha : Ev ta σ H (.ref p)) (hi : H p = some (.ins C dx fs)) (hl : fs.lookup m = none) (ht : EvA t σ H vs) (k : ∀ H1, Ex H H1 → sp (.ref p :: vs) H1 Q (E σ)) : tMethA C m sp E ta t σ H Q :=
  ha H (Ex.refl _) _ fun H2 e2 => ⟨p, dx, fs, rfl, e2 _ _ hi, hl, ht H2 e2 _ fun H3 e3 => k H3 (e2.trans e3)⟩
theorem q_m {E : XK} (ha : Ev ta σ H (.ref p)) (hi : H p = some (.ins C dx fs)) (hl : fs.lookup m = none) (ht : EvA t σ H vs) (k : ∀ H1, Ex H H1 → sp (.ref p :: vs) H1 (fun _ H2 => tz D σ H2) E) : tSeq (tDrop (tMeth C m sp [] E ta t)) tz D σ H := m_run (Q := fun _ H2 => tz D σ H2) ha hi hl ht k
theorem s_m {E : XK} (ha : Ev ta σ H (.ref p)) (hi : H p = some (.ins C dx fs)) (hl : fs.lookup m = none) (ht : EvA t σ H vs) (k : ∀ H1, Ex H H1 → sp (.ref p :: vs) H1 (fun _ H2 => D.nx σ H2) E) : tDrop (tMeth C m sp [] E ta t) D σ H := m_run (Q := fun _ H2 => D.nx σ H2) ha hi hl ht k
theorem r_m {E : XK} (ha : Ev ta σ H (.ref p)) (hi : H p = some (.ins C dx fs)) (hl : fs.lookup m = none) (ht : EvA t σ H vs) (k : ∀ H1, Ex H H1 → sp (.ref p :: vs) H1 D.rt E) : tRet (tMeth C m sp [] E ta t) D σ H := m_run (Q := D.rt) ha hi hl ht k
theorem q_mA {i : Nat} {E : XK} (ha : Ev ta σ H (.ref p)) (hi : H p = some (.ins C dx fs)) (hl : fs.lookup m = none) (ht : EvA t σ H vs) (k : ∀ H1, Ex H H1 → sp (.ref p :: vs) H1 (fun v H2 => tz D (σ.set i (some v)) H2) E) : tSeq (tAsg (tMeth C m sp [] E ta t) (gName i)) tz D σ H := m_run (Q := fun v H2 => tz D (σ.set i (some v)) H2) ha hi hl ht k
/-- the same in a try's body -/
theorem r_mA {E : L2.St → XK} (ha : Ev ta σ H (.ref p)) (hi : H p = some (.ins C dx fs)) (hl : fs.lookup m = none) (ht : EvA t σ H vs) (k : ∀ H1, Ex H H1 → sp (.ref p :: vs) H1 D.rt (E σ)) : tRet (tMethA C m sp E ta t) D σ H := mA_run (Q := D.rt) ha hi hl ht k
theorem q_mAD {E : L2.St → XK} (ha : Ev ta σ H (.ref p)) (hi : H p = some (.ins C dx fs)) (hl : fs.lookup m = none) (ht : EvA t σ H vs) (k : ∀ H1, Ex H H1 → sp (.ref p :: vs) H1 (fun _ H2 => tz D σ H2) (E σ)) : tSeq (tDrop (tMethA C m sp E ta t)) tz D σ H := mA_run (Q := fun _ H2 => tz D σ H2) ha hi hl ht k
theorem q_mAA {i : Nat} {E : L2.St → XK} (ha : Ev ta σ H (.ref p)) (hi : H p = some (.ins C dx fs)) (hl : fs.lookup m = none) (ht : EvA t σ H vs) (k : ∀ H1, Ex H H1 → sp (.ref p :: vs) H1 (fun v H2 => tz D (σ.set i (some v)) H2) (E σ)) : tSeq (tAsg (tMethA C m sp E ta t) (gName i)) tz D σ H := mA_run (Q := fun v H2 => tz D (σ.set i (some v)) H2) ha hi hl ht k
/-- o.f = e -/
theorem s_fld (hv : Ev te σ H v) (ha : Ev ta σ H (.ref p)) (hi : H p = some (.ins C dx fs)) (c : Cls K C) (n : NoAttr K C m) (hz : fs.length < 1000) (k : ∀ H1, Ex H H1 → D.nx σ (upd H1 p (.ins C dx (putF m v fs)))) : sFld K ta te m D σ H :=
  hv H (Ex.refl _) _ fun H1 e1 => ha H1 e1 _ fun H2 e2 => ⟨p, C, dx, fs, rfl, e2 _ _ (e1 _ _ hi), c, n, hz, k H2 (e1.trans e2)⟩
theorem s_fldL {xs : List V} (hv : EvL te σ H xs) (ha : Ev ta σ H (.ref p)) (hi : H p = some (.ins C dx fs)) (c : Cls K C) (n : NoAttr K C m) (hz : fs.length < 1000) (k : ∀ l H1, H l = none → Ex H H1 → H1 l = some (.lst xs) → D.nx σ (upd H1 p (.ins C dx (putF m (.ref l) fs)))) : sFld K ta te m D σ H :=
  hv H (Ex.refl _) _ fun l H1 hl e1 h1 => ha H1 e1 _ fun H2 e2 => ⟨p, C, dx, fs, rfl, e2 _ _ (e1 _ _ hi), c, n, hz, k l H2 hl (e1.trans e2) (e2 _ _ h1)⟩
theorem q_fld (hv : Ev te σ H v) (ha : Ev ta σ H (.ref p)) (hi : H p = some (.ins C dx fs)) (c : Cls K C) (n : NoAttr K C m) (hz : fs.length < 1000) (k : ∀ H1, Ex H H1 → tz D σ (upd H1 p (.ins C dx (putF m v fs)))) : tSeq (sFld K ta te m) tz D σ H := s_fld (D := { D with nx := tz D }) hv ha hi c n hz k
theorem q_fldL {xs : List V} (hv : EvL te σ H xs) (ha : Ev ta σ H (.ref p)) (hi : H p = some (.ins C dx fs)) (c : Cls K C) (n : NoAttr K C m) (hz : fs.length < 1000) (k : ∀ l H1, H l = none → Ex H H1 → H1 l = some (.lst xs) → tz D σ (upd H1 p (.ins C dx (putF m (.ref l) fs)))) : tSeq (sFld K ta te m) tz D σ H := s_fldL (D := { D with nx := tz D }) hv ha hi c n hz k
/-- xs[j] += e -/
theorem s_augL {f : Int → Int → Int} {l : Addr} {xs : List V} {j : Nat} {a b : Int} (ho : Ev ta σ H (.ref l)) (hi : Ev tb σ H (.int (j : Int))) (hl : H l = some (.lst xs)) (hj : xs[j]? = some (.int a)) (he : Ev te σ H (.int b)) (k : ∀ H1, Ex H H1 → D.nx σ (upd H1 l (.lst (xs.set j (.int (f a b)))))) :
    tAugS ta tb te (rIxL K) (ipI f) rSetL D σ H := ho H (Ex.refl _) _ fun H1 e1 => hi H1 e1 _ fun H2 e2 => ⟨l, xs, (j : Int), .int a, rfl, rfl, sq_of (e2 _ _ (e1 _ _ hl)), atI_nat hj, he H2 (e1.trans e2) _ fun H3 e3 => ⟨a, b, rfl, rfl, l, xs, (j : Int), j, rfl, rfl, e3 _ _ (e2 _ _ (e1 _ _ hl)), ixN_nat (List.getElem?_eq_some_iff.mp hj).1, k H3 ((e1.trans e2).trans e3)⟩⟩
theorem q_augL {f : Int → Int → Int} {l : Addr} {xs : List V} {j : Nat} {a b : Int} (ho : Ev ta σ H (.ref l)) (hi : Ev tb σ H (.int (j : Int))) (hl : H l = some (.lst xs)) (hj : xs[j]? = some (.int a)) (he : Ev te σ H (.int b)) (k : ∀ H1, Ex H H1 → tz D σ (upd H1 l (.lst (xs.set j (.int (f a b)))))) :
    tSeq (tAugS ta tb te (rIxL K) (ipI f) rSetL) tz D σ H := s_augL (D := { D with nx := tz D }) ho hi hl hj he k
end
/-! ### heaps in which the objects of S may change -/
def Fr (S : Addr → Prop) (H H' : Hp) : Prop := ∀ a o, H a = some o → ¬ S a → H' a = some o
theorem Fr.of {S : Addr → Prop} {H H' : Hp} (e : Ex H H') : Fr S H H' := fun a o h _ => e a o h
theorem Fr.trans {S : Addr → Prop} {H H1 H2 : Hp} (e : Fr S H H1) (f : Fr S H1 H2) : Fr S H H2 := fun a o h n => f a o (e a o h n) n
theorem Fr.mut {S : Addr → Prop} {H H' : Hp} {p : Addr} {o : HO} (e : Fr S H H') (h : S p) : Fr S H (upd H' p o) := fun a u ha n => by
  rw [upd_ne fun z => n (by rw [z]; exact h)]
  exact e a u ha n
theorem Fr.fresh {S : Addr → Prop} {H H' : Hp} {p : Addr} (e : Fr S H H') (h : H' p = none) (n : ¬ S p) : H p = none := by
  cases h1 : H p with
  | none => rfl
  | some o =>
    rw [e p o h1 n] at h
    cases h
/-- what H0 has stays, when what changes is none of it -/
theorem Fr.ex {S : Addr → Prop} {H0 H H' : Hp} (e : Ex H0 H) (f : Fr S H H') (n : ∀ a, S a → H0 a = none) : Ex H0 H' := fun a o h => f a o (e a o h) fun s => by
  rw [n a s] at h
  cases h
/-- what is read stands when an instance changes -/
theorem mut_l {K : PySem.W.Frag} {H H1 : Hp} {p C dx a : Addr} {fs fs' : List (Str × V)} {xs : List V} (e : Ex H H1) (hp : H p = some (.ins C dx fs)) (h : SqL K H a xs) : SqL K (upd H1 p (.ins C dx fs')) a xs := by
  rcases h with (h | ⟨o, h⟩) | h
  · exact .inl (.inl (by rw [upd_ne (ne_of h hp (by intro z; cases z))]; exact e _ _ h))
  · exact .inl (.inr ⟨o, by rw [upd_ne (ne_of h hp (by intro z; cases z))]; exact e _ _ h⟩)
  · exact .inr h
theorem mut_t {K : PySem.W.Frag} {H H1 : Hp} {p C dx a : Addr} {fs fs' : List (Str × V)} {xs : List V} (e : Ex H H1) (hp : H p = some (.ins C dx fs)) (h : SqT K H a xs) : SqT K (upd H1 p (.ins C dx fs')) a xs := by
  rcases h with (h | ⟨o, h⟩) | h
  · exact .inl (.inl (by rw [upd_ne (ne_of h hp (by intro z; cases z))]; exact e _ _ h))
  · exact .inl (.inr ⟨o, by rw [upd_ne (ne_of h hp (by intro z; cases z))]; exact e _ _ h⟩)
  · exact .inr h
/-- list(a tuple) -/
theorem el_listT {K : PySem.W.Frag} {σ : L2.St} {H : Hp} {ta : TE} {p : Addr} {xs : List V} (ha : Ev ta σ H (.ref p)) (h : SqT K H p xs) : EvL (tCB (rListS K) (tCons ta tNil)) σ H xs := fun H1 e Q q =>
  ha H1 e _ fun H2 e2 => ⟨p, xs, rfl, Or.inr (ex_t (e.trans e2) h), fun l hl => q l _ (fresh_back e2 hl) (e2.trans (Ex.new hl)) upd_same⟩
/-! ### comprehensions over two lists at once -/
theorem el_lcZ {K : PySem.W.Frag} {σ : L2.St} {H : Hp} {a b : Addr} {xs ys : List V} {t : TA} {tt : TT} {te : TE} {i j : Nat} {vs : List Nat} (f : Nat → Bool) (v : Nat → V) (h : EvA t σ H [.ref a, .ref b]) (hx : SqL K H a xs) (hy : SqL K H b ys) (hlen : xs.length = ys.length) (hz : xs.length ≤ 40000)
    (hw : ∀ x y, wipe (((wipe σ vs).set i (some x)).set j (some y)) vs = wipe σ vs)
    (ht : ∀ (n : Nat) (x y : V) H1, Ex H H1 → xs[n]? = some x → ys[n]? = some y → EvT tt (((wipe σ vs).set i (some x)).set j (some y)) H1 (f n)) (he : ∀ (n : Nat) (x y : V) H1, Ex H H1 → xs[n]? = some x → ys[n]? = some y → f n = true → Ev te (((wipe σ vs).set i (some x)).set j (some y)) H1 (v n)) :
    EvL (tLc (iZip K t) (gTup K 2 (gCons (gName i) (gCons (gName j) gNil))) tt te vs) σ H (given xs.length f v) := fun H0 e Q q => h H0 e _ fun H1 e1 => ⟨a, b, xs, ys, rfl, ex_l (e.trans e1) hx, ex_l (e.trans e1) hy, fun Dl hD =>
  lc_it (walk_zip (K := K) (a := a) (b := b) (xs := xs) (ys := ys) (n := xs.length) (by omega)) (Cw H1 f v Dl) ⟨hD, Ex.new hD, upd_same⟩ (fun i H' _ p => ⟨ex_l ((e.trans e1).trans p.2.1) hx, ex_l ((e.trans e1).trans p.2.1) hy⟩)
    (fun n z H2 H2' hn p y => by
      obtain ⟨T, x1, y1, rfl, hT, rfl, h1, h2⟩ := y
      have p' : Cw H1 f v Dl n (upd H2 T (.tup [x1, y1])) := ⟨p.1, p.2.1.trans (Ex.new hT), (Ex.new hT) _ _ p.2.2⟩
      have e2 := ((e.trans e1).trans p'.2.1)
      refine ⟨T, _, rfl, st_of upd_same, rfl, _, _, rfl, _, _, rfl, rfl, hw x1 y1, cw_turn (H := H1) p' (by omega) ?_ ?_⟩
      · exact ht n x1 y1 H1 (e.trans e1) h1 h2
      · exact fun hf => he n x1 y1 H1 (e.trans e1) h1 h2 hf)
    (fun H' p => q Dl H' (fresh_back e1 p.1) (e1.trans p.2.1) p.2.2)⟩
end LO

set_option Elab.async false
set_option linter.all false
set_option maxRecDepth 100000
set_option maxHeartbeats 4000000
namespace LN
open PySem PySem.Spec PyProof.Rows L2 Evl LT LG LS LQ
section
variable {X : Cx} {σ : L2.St} {H : Hp} {P : Addr} {scope : Scope} {x : Str} {u : Value} {a b c : Expr} {za zb zc z : V} {pos p : Pos}
theorem qv_ixL {l : Addr} {xs : List V} {i : Int} (hT : Tab H P) (hq : SqL X.K H l xs) (he : atI xs i = some z) (h0 : 0 ≤ i) (ha : QV X σ H P scope x u a (.ref l)) (hb : QV X σ H P scope x u b (.int i)) (hs : PlainIx b := by intro _ _; rfl) : QV X σ H P scope x u (.Subscript a b pos) z := fun cenv A' E' s m F =>
  Subscript_ (qv_two (f := fun v w => subscriptTail a b v w) ha hb (fun cenv A' E' s2 m2 v w F2 r1 r2 => by
    cases r1
    obtain ⟨t, rfl⟩ := r2
    obtain ⟨its, r, pl, hz⟩ := F2.list hT hq
    obtain ⟨j, h1, h2, h3, h4, h5⟩ := atI_get he
    obtain ⟨w', ew, rw'⟩ := r.get h2
    have hl := r.length
    have hn := line63
    have hj : i.toNat = j := by
      rw [seqIndex_of h0 h5] at h1
      exact Option.some.inj h1
    exact item_listR pl.isList h0 (by omega) (by rw [hj]; simpa using ew) ⟨rw', kp_refl _⟩ (hs _ _)) cenv A' E' s m F)
theorem qv_ixT {l : Addr} {xs : List V} {i : Int} (hT : Tab H P) (hq : SqT X.K H l xs) (he : atI xs i = some z) (ha : QV X σ H P scope x u a (.ref l)) (hb : QV X σ H P scope x u b (.int i)) (hs : PlainIx b := by intro _ _; rfl) : QV X σ H P scope x u (.Subscript a b pos) z := fun cenv A' E' s m F =>
  Subscript_ (qv_two (f := fun v w => subscriptTail a b v w) ha hb (fun cenv A' E' s2 m2 v w F2 r1 r2 => by
    cases r1
    obtain ⟨t, rfl⟩ := r2
    obtain ⟨its, r, pl, hz⟩ := F2.tuple hT hq
    obtain ⟨j, h1, h2, h3, h4, h5⟩ := atI_get he
    obtain ⟨w', ew, rw'⟩ := r.get h2
    have hl := r.length
    have hn := line63
    exact subscriptTail_builtinR (x := w') pl.typeIs slot_tuple_getitem.lookup
      (getItem_tuple (j := j) (Q := fun r s' => r = w' ∧ (RelV z r ∧ Keeps s2 s')) pl (by omega) (by omega) (by rw [List.size_toArray, ← hl]; exact h1) (by simpa using ew) ⟨rfl, rw', kp_refl _⟩) (hs _ _)) cenv A' E' s m F)
theorem qr_ltT {l r : Addr} {ns ms : List Int} (hT : Tab H P) (hu : X.A.units + 8 < cLine) (ha : SqT X.K H l (ns.map V.int)) (hb : SqT X.K H r (ms.map V.int)) : QR X σ H P scope x u (compareOp .Lt) (.ref l) (.ref r) (.bl (HT.lexLt ns ms)) := fun cenv A' E' s m v w F r1 r2 => by
  cases r1
  cases r2
  obtain ⟨its, r1, p1, _⟩ := F.tuple hT ha
  obtain ⟨its2, r2, p2, _⟩ := F.tuple hT hb
  have i1 : IntsAre its.toArray.toList ns := intsAre_of r1
  have i2 : IntsAre its2.toArray.toList ms := intsAre_of r2
  exact HT.lt_tupInts p1 p2 i1 i2 (Nat.lt_of_le_of_lt F.un hu) ⟨rfl, kp_refl _⟩
theorem qr_lt_int {i j : Int} : QR X σ H P scope x u (compareOp .Lt) (.int i) (.int j) (.bl (decide (i < j))) := fun cenv A' E' s m v w F r1 r2 => by
  obtain ⟨t, rfl⟩ := r1
  obtain ⟨t', rfl⟩ := r2
  exact lt_int ⟨rfl, kp_refl _⟩
theorem qv_chain {op op' : CmpOp} {f g : Bool} (hr : QR X σ H P scope x u (compareOp op) za zb (.bl f)) (hr' : QR X σ H P scope x u (compareOp op') zb zc (.bl g)) (ha : QV X σ H P scope x u a za) (hb : QV X σ H P scope x u b zb) (hc : QV X σ H P scope x u c zc)
    (hm : lastMarks [op, op'] [b, c] = false := by with_unfolding_all rfl) : QV X σ H P scope x u (.Compare a [op, op'] [b, c] pos) (.bl (f && g)) := fun cenv A' E' s m F => by
  refine Compare_chain (wpAny_mono (ha cenv A' E' s m F) (fun v s1 r1 => chain_link (wpAny_mono (hb cenv A' E' s1 m (F.keeps r1.2)) (fun w s2 r2 => wpAny_mono (hr cenv A' E' s2 m v w ((F.keeps r1.2).keeps r2.2) r1.1 r2.1) (fun d s3 r3 => ?_) fun _ _ e => e) fun _ _ e => e)) fun _ _ e => e) hm
  obtain ⟨rfl, k3⟩ := r3
  have k := kp_trans (kp_trans r1.2 r2.2) k3
  refine wpAny_truthy_bool ?_
  cases f with
  | false => exact ite_ff ⟨rfl, k⟩
  | true => exact ite_tt (chain_last (wpAny_mono (hc cenv A' E' s3 m (F.keeps k)) (fun y s4 r4 => wpAny_mono (hr' cenv A' E' s4 m w y ((F.keeps k).keeps r4.2) r2.1 r4.1) (fun e s5 r5 => ⟨r5.1, kp_trans (kp_trans k r4.2) r5.2⟩) fun _ _ e => e) fun _ _ e => e))
/-- an own def of one argument, a pair that it unpacks; it returns one test of each part -/
theorem qv_call2 {nm pn qual ya yb : Str} {st : Stmt} {f : Addr} {fd : FuncData} {N : List Str} {e1 e2 : Expr} {py1 py2 tp np ap bp rp : Pos} {kt k : Nat} {t : Addr} {v1 v2 : V} {c1 c2 : Bool} (hr : Room k X.A) (hT : Tab H P) (hk : scope.kind = .function) (hl : scope.names.lookup nm = some .globalImplicit) (hm : X.mg nm = some (.ref f)) (F : Fun X.K nm qual st f fd)
    (hbody : defBody st = [.Assign [.Tuple [.Name ya py1, .Name yb py2] kt tp] (.Name pn np) ap, .Return (some (.BoolOp .And [e1, e2] bp)) rp]) (S : FnScope N [pn] (defScope st)) (hloc : (defScope st).names.lookup pn = some .local) (hla : (defScope st).names.lookup ya = some .local) (hlb : (defScope st).names.lookup yb = some .local) (hab : ya ≠ yb)
    (hb : Binds X.K fd [pn] []) (ha : QV X σ H P scope x u a (.ref t)) (ht : SqT X.K H t [v1, v2])
    (h1 : ∀ (A0 : Around) (v : Value), RelV v1 v → QV { X with A := A0 } σ H P (defScope st) ya v e1 (.bl c1)) (h2 : ∀ (A0 : Around) (v : Value), RelV v2 v → QV { X with A := A0 } σ H P (defScope st) yb v e2 (.bl c2))
    (hs : ∀ env, starEach [a] env = (false, eval a env) :: starEach [] env := by intro _; rfl) (hd : (nm == ("__debug__" : Str)) = false := by decide) (hdp : (pn == ("__debug__" : Str)) = false := by decide) :
    QV X σ H P scope x u (.Call (.Name nm p) [a] [] pos) (.bl (c1 && c2)) := fun cenv A' E' s m Fc0 => by
  refine wpAny_Call_Name_kw (Calls.Name_function_global (by rw [Fc0.sc]; exact hk) (show cenv.scope.names.lookup nm = some .globalImplicit by rw [Fc0.sc]; exact hl) (Calls.loadGlobal_global (by rw [Fc0.gl]; exact Fc0.md.glob.keeps Fc0.base) hm ?_) hd)
  refine PySem.W.callWith_K (h₀ := X.base) Fc0.md.kin F.kp ?_ (hs cenv) (by rfl)
  rw [hs cenv]
  show wpAny _ _ (spliced ((false, eval a cenv) :: [])) _ _ s
  refine Calls.spliced_cons (wpAny_mono (ha cenv A' E' s m Fc0) (fun v s1 r1 => Calls.spliced_nil ?_) fun _ _ e => e)
  have F1 := Fc0.keeps r1.2
  refine ⟨F1.kin, ?_⟩
  obtain ⟨oc, od, kV, doc, pm, an, cdv, ct, osl, rfl, lk, hcd⟩ := F.ex
  have rv := r1.1
  refine wpAny_call (Att.call_fn (binds := [(pn, v)]) F1.kin (F1.md.nolimit.keeps F1.base) lk hcd (by have := hr.dp; have := Fc0.dp; omega) (hb s1 [v] F1.kin rfl) ?_ (fun s2 IC => ?_) S.co S.gen S.kind)
  · simp only [List.all_cons, List.all_nil, Bool.and_true, Bool.or_eq_true, beq_iff_eq]
    exact .inl hloc
  · obtain ⟨h2', tk2, rfl⟩ := IC.toInCall.same
    have kk : ∀ b o, s1.heap.get? b = some o → h2'.get? b = some o := IC.toInCall.keep
    rw [hbody]
    have Fn : Fc { X with A := A' } σ H P (defScope st) pn v (envOfC qual (defScope st) s1.heap.objs.size f cdv) (A'.deeper (envOfC qual (defScope st) s1.heap.objs.size f cdv)) { s1 with heap := h2', toks := tk2 } _ :=
      ⟨Fc0.hd, Nat.le_refl _, by show A'.units + 3 ≤ A'.units + 8; omega, rfl, rfl, rfl, IC.toInCall.ns, by
        show bindL _ [(pn, v)] _ pn = some v
        unfold bindL
        have hkd : (envOfC qual (defScope st) s1.heap.objs.size f cdv).kindOf pn = some .local := hloc
        rw [hkd]
        simp [bindL], fun b o e => kk b o (F1.base b o e), F1.md, F1.hok.kept kk, fun i y w h1 h2 h3 h4 => absurd rfl (S.nofree (y, .free) (lookup_mem' h4))⟩
    cases rv
    obtain ⟨its, ri, tup, _⟩ := Fn.tuple hT ht
    cases ri with
    | cons ra rr =>
      rename_i w1 wr
      cases rr with
      | cons rb rn =>
        rename_i w2 wn
        cases rn
        refine wpAny_execs_cons (Assign_Tuple (wpAny_mono (qv_x (X := { X with A := A' }) S.kind hloc (show RelV (.ref t) (.ref t) from rfl) hdp _ _ _ _ _ Fn) (fun y s3 r3 => ?_) fun _ _ e => e))
        obtain ⟨ry, h3, tk3, rfl, k3⟩ := r3
        cases ry
        refine assign_Tuple_tuple Fn.hd (tup.keeps k3) (by rfl) (by rfl) fun h4 hx4 => ?_
        have kL : ∀ b o, s1.heap.get? b = some o → b ≠ s1.heap.objs.size := fun b o e => Nat.ne_of_lt (Heap.lt_size e)
        have kx : ∀ b o, h3.get? b = some o → h4.get? b = some o := fun b o e => hx4 b o (Nat.ne_of_lt (Heap.lt_size e)) e
        have n4 := ((Fn.keeps ⟨h3, tk3, rfl, k3⟩).keeps (s₃ := { s1 with heap := h4, toks := tk3 }) ⟨h4, tk3, rfl, kx⟩).ns
        refine assignInOrder_cons (assign_Name (wpAny_storeName_local hla n4 (fun h5 n5 b5 => ?_) (by simp [envOfC, S.kind])))
        refine assignInOrder_cons (assign_Name (wpAny_storeName_local hlb n5 (fun h6 n6 b6 => ?_) (by simp [envOfC, S.kind])))
        refine assignInOrder_nil ?_
        have k6 : ∀ b o, s1.heap.get? b = some o → h6.get? b = some o := fun b o e => b6.extBut b o (kL b o e) (b5.extBut b o (kL b o e) (kx b o (k3 b o (kk b o e))))
        have FF : ∀ (y : Str) (w : Value), (if y = yb then some w2 else if y = ya then some w1 else none) = some w → Fc { X with A := A' } σ H P (defScope st) y w (envOfC qual (defScope st) s1.heap.objs.size f cdv) (A'.deeper (envOfC qual (defScope st) s1.heap.objs.size f cdv)) { s1 with heap := h6, toks := tk3 + 1 + 1 } _ := fun y w e => by
          refine ⟨Fc0.hd, Nat.le_refl _, (by show A'.units + 3 ≤ A'.units + 8; omega), rfl, rfl, rfl, n6, ?_, fun b o e => k6 b o (F1.base b o e), F1.md, F1.hok.kept k6, fun i y w h1 h2 h3 h4 => absurd rfl (S.nofree (y, .free) (lookup_mem' h4))⟩
          show (if y = yb then some w2 else if y = ya then some w1 else _) = some w
          by_cases q1 : y = yb
          · rw [if_pos q1] at e ⊢
            exact e
          · rw [if_neg q1] at e ⊢
            by_cases q2 : y = ya
            · rw [if_pos q2] at e ⊢
              exact e
            · rw [if_neg q2] at e
              cases e
        refine wpAny_execs_cons (wpAny_Return_some (BoolOp_and (wpAny_mono (h1 A' w1 ra _ _ _ _ _ (FF ya w1 (by rw [if_neg hab, if_pos rfl]))) (fun y s7 r7 => ?_) fun _ _ e => e)))
        obtain ⟨rfl, k7⟩ := r7
        refine wpAny_truthy_bool ?_
        have kA := kp_trans r1.2 (kp_trans (s1 := { s1 with heap := h6, toks := tk3 + 1 + 1 }) ⟨h6, _, rfl, k6⟩ k7)
        cases c1 with
        | true => exact BoolOp_one (wpAny_mono (h2 A' w2 rb _ _ _ _ _ ((FF yb w2 (if_pos rfl)).keeps k7)) (fun y s8 r8 => ⟨r8.1, kp_trans kA r8.2⟩) fun _ _ e => e)
        | false => exact ⟨rfl, kA⟩
end
/-! ### a list of pairs is walked -/
def SrcT (K : PySem.W.Frag) (H : Hp) (v : V) (n : Nat) (xs : Nat → V) : Prop := ∃ (a : Addr) (l : List V), v = .ref a ∧ SqL K H a l ∧ n = l.length ∧ ∀ i, i < n → ∃ (T : Addr) (y : V), l[i]? = some (.ref T) ∧ SqT K H T [y, xs i]
section
variable {X : Cx} {pins : List (Addr × Obj)} {σ : L2.St} {H : Hp} {s : Shared}
theorem src_iterT {v : V} {xv : Value} {n : Nat} {xs : Nat → V} {P : Addr} {Q : Value → Shared → Prop} {E : Value → Shared → Prop} (S : SrcT X.K H v n xs) (I : Inv X pins σ H s) (r : RelV v xv) (hT : Tab H P)
    (h : ∀ (o : Obj) (fp : List Addr) (Pf : Nat → Array Value → Prop) (St : Nat → Heap → Prop) (Mid : Nat → Addr → Heap → Prop), (∀ i va vb, Pf i #[va, vb] → i < n ∧ RelV (xs i) vb) → (∀ A' : Around, A'.handled = none → WalksU X.prog X.w A' s.heap.objs.size fp [s.heap.objs.size] n Pf St Mid) → (∀ i vals, Pf i vals → ∃ va vb, vals = #[va, vb]) →
      St 0 (s.heap.push o) → (∀ b ∈ fp, b ≤ s.heap.objs.size ∧ b ≠ P) → Q (.ref s.heap.objs.size) { s with heap := s.heap.push o }) : wpAny (model X.prog X.w) X.A (pyIter xv) Q E s := by
  have Plt : P < s.heap.objs.size := Heap.lt_size (hT.of_ok I.hok).choose_spec.1
  have szP : s.heap.objs.size ≠ P := fun z => Nat.lt_irrefl _ (z ▸ Plt : s.heap.objs.size < s.heap.objs.size)
  obtain ⟨a, l, rfl, hl, rfl, hx⟩ := S
  cases r
  obtain ⟨its, rv, pl, _⟩ := I.list hl
  have hal : a < s.heap.objs.size := let ⟨_, e, _⟩ := pl.isList; Heap.lt_size e
  have naP : a ≠ P := fun e => by
    obtain ⟨ps, e1, _⟩ := hT.of_ok I.hok
    obtain ⟨o, n, e2, e3, _, e4⟩ := pl
    rw [e, e1] at e2
    cases e2
    cases e3
  have hne : a ≠ s.heap.objs.size := Nat.ne_of_lt hal
  have en : its.toArray.size = l.length := by rw [List.size_toArray]; exact rv.length.symm
  have ev : ∀ i : Nat, ∃ (T : Addr) (va vb : Value), i < l.length → its.toArray[i]? = some (.ref T) ∧ IsTup s.heap T #[va, vb] ∧ RelV (xs i) vb := fun i => by
    by_cases hi : i < l.length
    · obtain ⟨T, y, e1, e2⟩ := hx i hi
      obtain ⟨w, ew, rw'⟩ := rv.get e1
      cases rw'
      obtain ⟨js, rj, tj, _⟩ := I.tuple e2
      cases rj with
      | cons ra rr =>
        rename_i w1 wr
        cases rr with
        | cons rb rn =>
          rename_i w2 wn
          cases rn
          exact ⟨T, w1, w2, fun _ => ⟨by simpa using ew, tj, rb⟩⟩
    · exact ⟨0, .none, .none, fun h => absurd h hi⟩
  refine wpAny_pyIter_list pl.isList ?_
  let Ts : Nat → Addr := fun i => (ev i).choose
  let va : Nat → Value := fun i => (ev i).choose_spec.choose
  let vb : Nat → Value := fun i => (ev i).choose_spec.choose_spec.choose
  have sp : ∀ i, i < l.length → its.toArray[i]? = some (.ref (Ts i)) ∧ IsTup s.heap (Ts i) #[va i, vb i] ∧ RelV (xs i) (vb i) := fun i => (ev i).choose_spec.choose_spec.choose_spec
  have tlt : ∀ i, i < l.length → Ts i < s.heap.objs.size := fun i hi => (sp i hi).2.1.lt
  have tnP : ∀ i, i < l.length → Ts i ≠ P := fun i hi e => by
    obtain ⟨ps, e1, _⟩ := hT.of_ok I.hok
    obtain ⟨o, e2, e3, _⟩ := (sp i hi).2.1
    rw [e, e1] at e2
    cases e2
    cases e3
  refine h _ (s.heap.objs.size :: a :: (List.range its.toArray.size).map Ts) (fun j v => j < l.length ∧ v = #[va j, vb j]) (fun j h => h.IsListIter s.heap.objs.size a j ∧ h.IsList a its.toArray ∧ ∀ k, k < its.toArray.size → h.IsTuple (Ts k) #[va k, vb k]) (fun j T h => (j < its.toArray.size ∧ T = Ts j) ∧ h.IsListIter s.heap.objs.size a (j + 1) ∧ h.IsList a its.toArray ∧ ∀ k, k < its.toArray.size → h.IsTuple (Ts k) #[va k, vb k]) (fun i wa wb hp => ?_) (fun A' hA => ?_) (fun i vals hp => ⟨_, _, hp.2⟩) ⟨⟨_, Heap.get?_push_size _ rfl, rfl, rfl⟩, pl.isList.at fun o e => Heap.get?_push_of_some _ e, fun k hk => ?_⟩ fun b hb => ?_
  · obtain ⟨hi, e⟩ := hp
    have e2 : wb = vb i := (by simpa using congrArg Array.toList e : wa = va i ∧ wb = vb i).2
    rw [e2]
    exact ⟨hi, (sp i hi).2.2⟩
  · have W := WalksU.listOfTuples (prog := X.prog) (w := X.w) hA s.heap.objs.size a hne its.toArray Ts (fun i => #[va i, vb i]) (fun j hj => (sp j (by rw [← en]; exact hj)).1) (fun j hj => Nat.ne_of_lt (tlt j (by rw [← en]; exact hj)))
    rw [← en]
    exact ⟨W.sub, W.frame, fun i s Q E hi st hQ => W.item i s Q E hi st fun T vals h' tk hv => hQ T vals h' tk ⟨hi, hv⟩, W.go, W.apart, W.done, W.self⟩
  · exact Heap.IsTuple.at ((sp k (by rw [← en]; exact hk)).2.1) fun o e => Heap.get?_push_of_some _ e
  · rcases List.mem_cons.mp hb with e | hb
    · rw [e]
      exact ⟨Nat.le_refl _, szP⟩
    · rcases List.mem_cons.mp hb with e | hb
      · rw [e]
        exact ⟨Nat.le_of_lt hal, naP⟩
      · obtain ⟨i, hi, rfl⟩ := List.mem_map.mp hb
        have hi' : i < l.length := by rw [← en]; exact List.mem_range.mp hi
        exact ⟨Nat.le_of_lt (tlt i hi'), tnP i hi'⟩
theorem gen_makeT {c P : Addr} {elt iter : Expr} {xa x : Str} {pa px pt gpos : Pos} {kt : Nat} {scope : Scope} {te : TE} {k : Nat} {Q' : Value → Shared → Prop} {R : Nat → (Nat → Bool) → Hp → Prop}
    (hr : Room k X.A) (TB : LamX.TabB X.base X.mg c P) (hcode : X.env.code = .ref c) (S : GxR.GenS X.env scope x) (hxa : scope.names.lookup xa = some .local) (hab : xa ≠ x) (hi : PE X iter te) (hs : ∀ v, genFold iter X.env v = pure v) (I : Inv X pins σ H s)
    (h : te σ H fun v H1 => Tab H1 P ∧ ∃ (n : Nat) (xs : Nat → V) (f : Nat → Bool), SrcT X.K H1 v n xs ∧ (∀ i u, i < n → RelV (xs i) u → QV X σ H1 P scope x u elt (.bl (f i))) ∧ R n f H1)
    (hQ : ∀ n f H1 g s5, R n f H1 → RdyG X pins σ H1 n f g s5 → Q' (.ref g) s5) :
    wpAny (model X.prog X.w) X.A (eval (.GeneratorExp elt [⟨.Tuple [.Name xa pa, .Name x px] kt pt, iter, [], 0⟩] scope gpos) X.env) Q' X.xe s := by
  refine wpAny_GeneratorExp_walksQTD hr.hd S.co (closure_ok S.free) S.cell S.dot hxa S.loc hab S.kind hr.depth ?_ hs
  refine thn (hi.run pins s σ H _ I h) fun xv s1 ⟨v, H1, I1, r1, hT, n, xs, f, hsrc, hel, hR⟩ => ?_
  refine src_iterT hsrc I1 r1 hT fun o fp Pf St Mid hPf hW hsz2 hst hfp => ?_
  obtain ⟨ps, hPs, ht⟩ := hT.of_ok I1.hok
  have hPlt : P < s1.heap.objs.size := Heap.lt_size hPs
  have hP2 : (s1.heap.push o).get? P = some { cls := .none, data := .fields ps } := Heap.get?_push_of_some _ hPs
  have cd : PySem.W.CodeHd (s1.heap.push o) c P := TB.code.keeps fun b u e => Heap.get?_push_of_some _ (I1.bk b u e)
  have lim2 : (s1.heap.push o).NoLimit := I1.nolimit.push o
  have hcP : cStatics ≠ P := fun e => by
    obtain ⟨_, ⟨o', es, ep, ho, hd, _⟩, _⟩ := I1.nolimit
    rw [e, hPs] at ho
    cases ho
    cases hd
  have hcl : cStatics < s1.heap.objs.size := let ⟨_, hns, _⟩ := I1.nolimit; hns.lt
  have sz2 : (s1.heap.push o).objs.size = s1.heap.objs.size + 1 := Heap.size_push ..
  have nTb : ∀ b, H1 b = none → b ≠ P := fun b e z => by
    rw [z, hT] at e
    cases e
  -- what is left once the code object is known
  have go : ∀ (code : Value) (h3 : Heap) (tk : Nat) (ps' : Array Value), Heap.ExtBut P (s1.heap.push o) h3 → (s1.heap.push o).objs.size ≤ h3.objs.size → h3.get? P = some { cls := .none, data := .fields ps' } → TriplesOk ps'.toList →
      wpAny (model X.prog X.w) X.A (builtinsFor X.env.globals X.env.builtins) (fun bi s₄ => ∃ I fp wr n₀ Pg St₀ Mid pz F, Value.ref s1.heap.objs.size = .ref I ∧ (∀ A' : Around, A'.handled = none → WalksU X.prog X.w A' I fp wr n₀ Pg St₀ Mid) ∧ (∀ i vals, Pg i vals → ∃ va vb, vals = #[va, vb]) ∧ St₀ 0 s₄.heap ∧ (∀ b ∈ fp, b < s₄.heap.objs.size) ∧ s₄.heap.NoLimit ∧ cStatics ∉ wr ∧
          (∀ href : Heap, (∀ b o, s₄.heap.get? b = some o → href.get? b = some o) → QuietGenTD X.prog X.w (genEnv scope (cloFrom X.env.cells scope.names []) s₄.heap.objs.size code bi X.env) xa x [] elt (List.range s₄.heap.objs.size) wr Pg pz F href (X.A.depth + 1) (X.A.units + 8)) ∧
          (∀ a h₅ tk gs, gs.bare = true → s₄.heap.objs.size < a → h₅.objs.size = a + 1 → (∀ b o, s₄.heap.get? b = some o → h₅.get? b = some o) →
            WalksS X.prog X.w X.A.in4 a (a :: s₄.heap.objs.size :: List.range s₄.heap.objs.size) (s₄.heap.objs.size :: wr) (GenOnlyQ s₄.gens.size) (passing pz n₀ 0).length (fun j y => ∃ i, (passing pz n₀ 0)[j]? = some i ∧ F i y) (GenAt X.prog X.w X.A.in4 a s₄.gens.size s₄.heap.objs.size (List.range s₄.heap.objs.size) wr pz n₀ F) →
            GenAt X.prog X.w X.A.in4 a s₄.gens.size s₄.heap.objs.size (List.range s₄.heap.objs.size) wr pz n₀ F 0 { s₄ with gens := s₄.gens.push gs, toks := tk, heap := h₅ } →
            Q' (.ref a) { s₄ with gens := s₄.gens.push gs, toks := tk, heap := h₅ })) X.xe { s1 with heap := h3, toks := tk } := by
    intro code h3 tk ps' hx hsz hP3 ht3
    obtain ⟨bm, ob, e1, e2, e3, e4, e5, e6, e7, e8⟩ := TB.bm
    have keep3 : ∀ b u, b ≠ P → s1.heap.get? b = some u → h3.get? b = some u := fun b u hb e => hx b u hb (Heap.get?_push_of_some _ e)
    refine wpAny_builtinsFor (m := X.mg) (by rw [I1.ok.glob]; exact ((I1.mod.glob.keeps I1.bk).push o).extBut hx TB.gP) e1 e2 (keep3 _ _ e4 (I1.bk _ _ e5)) e6 e7 e8 ?_
    have hsz3 : s1.heap.objs.size < h3.objs.size := by omega
    refine ⟨s1.heap.objs.size, fp, [s1.heap.objs.size], n, Pf, St, Mid, fun _ => true, fun i y => y = .bool (f i), rfl, hW, hsz2, ?_, fun b hb => Nat.lt_of_le_of_lt (hfp b hb).1 hsz3, lim2.extBut hx hcP, ?_, ?_, ?_⟩
    · exact (hW X.A hr.hd).frame _ _ _ hst fun b hb u e => hx b u (hfp b hb).2 e
    · intro z
      rw [List.mem_singleton.mp z] at hcl
      exact Nat.lt_irrefl _ hcl
    · intro href hhref
      refine ⟨fun A' E' i va v s₂ m₂ hA hD hU hPv hn hma hm hk => ?_, fun A' E' i va v s₂ m₂ hA hD hU hPv hp hn hma hm hk => ?_⟩
      · simp only [List.forIn_nil]
        exact wpAny_pure ⟨rfl, kp_refl _⟩
      · have kept : ∀ b u, b ≠ P → s1.heap.get? b = some u → s₂.heap.get? b = some u := fun b u hb e => by
          have hlt := Heap.lt_size e
          refine hk b (List.mem_range.mpr ?_) (fun z => ?_) u (hhref b u (keep3 b u hb e))
          · show b < h3.objs.size
            exact Nat.lt_trans hlt hsz3
          · rw [List.mem_singleton.mp z] at hlt
            exact Nat.lt_irrefl _ hlt
        refine wpAny_mono (hel i v (hPf i va v hPv).1 (hPf i va v hPv).2 _ A' E' s₂ m₂ ⟨hA, hD, hU, rfl, I1.ok.glob, rfl, hn, hm, fun b u e => kept b u (nTb b (I1.bs b u e).2) (I1.bk b u e), I1.mod, fun b u e => ?_, fun j y w hN hσ hv hfr => ?_⟩) (fun y s3 r => ⟨r.1, r.2⟩) fun _ _ e => e
        · have hb : b ≠ P := fun z => by
            rw [z] at e
            unfold but at e
            rw [if_pos rfl] at e
            cases e
          rw [but_ne hb] at e
          refine (I1.hok b u e).stay (fun d w hd q => kept d w ?_ q) (fun d q => ?_) fun d ys q => ?_
          · rcases hd with z | z
            · rw [z]
              exact hb
            · intro e2
              rw [e2, hT] at z
              cases z
          · rw [but_ne fun e2 => by rw [e2, hT] at q; cases q]
            exact q
          · rw [but_ne fun e2 => by rw [e2, hT] at q; cases q]
            exact q
        · obtain ⟨m, hn1, hl⟩ := I1.loc
          obtain ⟨r, rv, l⟩ := hl j y w hN hσ (hv.elim (fun z => Or.inr (Or.inl z)) (fun z => Or.inr (Or.inr z)))
          rcases l with ⟨z, _⟩ | ⟨_, cc, hc, oc, he, hd⟩
          · rcases hv with z2 | z2
            · rw [z] at z2; cases z2
            · rw [z] at z2; cases z2
          · exact ⟨r, cc, rv, clo_lookup (lookup_mem' hfr) hc, oc, kept cc oc (nTb cc (I1.freeC y cc hc)) he, hd⟩
    · intro g h5 tk5 gs hgb hag hsz5 hk5 W5 hat
      simp only [GxR.passing_true, List.length_range] at W5
      refine hQ n f H1 g _ hR ⟨_, _, _, _, _, W5.in4_1, hat, fun j y sj Qj Ej hy hQj => ?_, fun s' hm => ?_⟩
      · obtain ⟨i, hij, rfl⟩ := hy
        obtain ⟨hj, ej⟩ := List.getElem?_eq_some_iff.mp hij
        rw [List.getElem_range] at ej
        subst ej
        exact wpAny_truthy_bool hQj
      · have nwr : ∀ b u, s1.heap.get? b = some u → b ∉ h3.objs.size :: [s1.heap.objs.size] := fun b u e hb => by
          have hl := Heap.lt_size e
          rcases List.mem_cons.mp hb with z | z
          · rw [z] at hl
            exact Nat.lt_irrefl _ (Nat.lt_trans hl hsz3)
          · rw [List.mem_singleton.mp z] at hl
            exact Nat.lt_irrefl _ hl
        exact inv_grown I1 hT (fun b u hb e => hm.heap b u (nwr b u e) (hk5 b u (keep3 b u hb e))) ⟨ps', hm.heap P _ (nwr P _ hPs) (hk5 P _ hP3), ht3⟩ hm.os (AllBare.movedS (I1.bare.push hgb) hm)
  refine ⟨lim2, ?_⟩
  cases hf : codeAmong gpos ps.toList with
  | some cv => exact wpAny_genexprCode_hit hcode (cd.code hP2 ht) hf (go cv (s1.heap.push o) s1.toks ps (Heap.ExtBut.refl _ _) (Nat.le_refl _) hP2 ht)
  | none =>
    refine wpAny_genexprCodeX hcode (cd.code hP2 ht) (cd.tab hP2) hf fun c' h' tk hx hge hlt hco' _ htab' _ => ?_
    obtain ⟨_, _, _, _, _, _, _, _, _, _, _, _, _, _, _, _, _, _, _, htr, _⟩ := hco'
    exact go _ h' tk _ hx (Nat.le_trans hge (Nat.le_of_lt hlt)) htab'.2 htr
def tGenT (X : Cx) (P : Addr) (scope : Scope) (x : Str) (elt : Expr) (fin : Nat → (Nat → Bool) → Bool) (te : TE) : TE := fun σ H Q => te σ H fun v H1 => Tab H1 P ∧ ∃ (n : Nat) (xs : Nat → V) (f : Nat → Bool), SrcT X.K H1 v n xs ∧ (∀ i u, i < n → RelV (xs i) u → QV X σ H1 P scope x u elt (.bl (f i))) ∧ Q (.bl (fin n f)) H1
theorem pe_allT {c P : Addr} {elt iter : Expr} {xa x : Str} {pa px pt p pos gpos : Pos} {kt : Nat} {scope : Scope} {te : TE} {k : Nat} (hr : Room k X.A) (hg : Gl X "all") (hm : X.mg "all" = none) (hb : bootBuiltins "all" = some (.builtin "all")) (TB : LamX.TabB X.base X.mg c P) (hcode : X.env.code = .ref c) (S : GxR.GenS X.env scope x) (hxa : scope.names.lookup xa = some .local) (hab : xa ≠ x)
    (hi : PE X iter te) (hs : ∀ v, genFold iter X.env v = pure v)
    (he : starEach [.GeneratorExp elt [⟨.Tuple [.Name xa pa, .Name x px] kt pt, iter, [], 0⟩] scope gpos] X.env = (false, eval (.GeneratorExp elt [⟨.Tuple [.Name xa pa, .Name x px] kt pt, iter, [], 0⟩] scope gpos) X.env) :: starEach [] X.env := by rfl) :
    PE X (.Call (.Name "all" p) [.GeneratorExp elt [⟨.Tuple [.Name xa pa, .Name x px] kt pt, iter, [], 0⟩] scope gpos] [] pos) (tGenT X P scope x elt allF te) := by
  refine ⟨fun pins s σ H Q I h => wpAny_Call_Name_kw (ld_blt I hg hm hb (PyProof.Rows.callWith_builtin1 ?_ he (by rfl)))⟩
  rw [he]
  show wpAny _ _ (spliced ((false, eval (.GeneratorExp elt [⟨.Tuple [.Name xa pa, .Name x px] kt pt, iter, [], 0⟩] scope gpos) X.env) :: backTo pos (starEach [] X.env))) _ _ s
  refine Calls.spliced_cons (gen_makeT (R := fun n f H1 => Q (.bl (allF n f)) H1) hr TB hcode S hxa hab hi hs I h fun n f H1 g s5 hR ⟨fp, wr, G, F, St₁, W, hst, htr, hI⟩ => Calls.spliced_nil ?_)
  exact call_all_walkS (W.self 0 _ _ _ hst ⟨g, fp, wr, G, _, F, St₁, _, rfl, W, hst, htr, fun s' hmv => ⟨.bl _, H1, hI s' hmv, rfl, hR⟩⟩)
end
section
variable {X : Cx}
theorem cr_range1 : CallR X (.type "range") (fun vs H Q => ∃ i, vs = [V.int i] ∧ ∀ p, H p = none → Q (.ref p) (upd H p (.rng 0 i))) := by
  intro pins s σ H vs us Q I r h
  obtain ⟨i, rfl, q⟩ := h
  cases r with
  | cons ri rn =>
    cases rn
    obtain ⟨t, rfl⟩ := ri
    refine call_range_1 ⟨.ref s.heap.objs.size, upd H s.heap.objs.size (.rng 0 i), I.laid (t' := _) (fun b o e => Heap.get?_push_of_some _ e) (Nat.le_refl _) ?_, rfl, q _ (I.hok.fresh (Nat.le_refl _))⟩
    exact ⟨_, _, _, Heap.get?_push_size _ rfl⟩
end
section
variable {K : PySem.W.Frag} {σ : L2.St} {H : Hp} {ta tb tc te : TE}
theorem ev_chain {f g : Int → Int → Bool} {i j k : Int} (ha : Ev ta σ H (.int i)) (hb : Ev tb σ H (.int j)) (hc : Ev tc σ H (.int k)) : Ev (tChain (rI0 fun i j => .bl (f i j)) (rI0 fun i j => .bl (g i j)) ta tb tc) σ H (.bl (f i j && g j k)) := fun H1 e Q q =>
  ha H1 e _ fun H2 e2 => hb H2 (e.trans e2) _ fun H3 e3 => ⟨i, j, rfl, rfl, f i j, rfl, by
    cases hf : f i j with
    | true =>
      rw [if_pos rfl]
      refine hc H3 ((e.trans e2).trans e3) _ fun H4 e4 => ⟨j, k, rfl, rfl, ?_⟩
      have := q H4 ((e2.trans e3).trans e4)
      rw [hf] at this
      exact this
    | false =>
      rw [if_neg Bool.false_ne_true]
      have := q H3 (e2.trans e3)
      rw [hf] at this
      exact this⟩
variable {X : Cx} {P : Addr} {scope : Scope} {x : Str} {elt : Expr} {fin : Nat → (Nat → Bool) → Bool}
/-- a generator expression over range(n) -/
theorem ev_genR {n : Int} {f : Nat → Bool} (h : Ev te σ H (.int n)) (hb : -(2 ^ 62) ≤ n ∧ n < 2 ^ 62) (hT : Tab H P) (he : ∀ H1, Ex H H1 → ∀ (i : Nat) u, (i : Int) < n → RelV (.int (i : Int)) u → QV X σ H1 P scope x u elt (.bl (f i))) :
    Ev (tGen X P scope x elt fin (tCB (fun vs H Q => ∃ i, vs = [V.int i] ∧ ∀ p, H p = none → Q (.ref p) (upd H p (.rng 0 i))) (tCons te tNil))) σ H (.bl (fin n.toNat f)) := fun H1 e Q q =>
  h H1 e _ fun H2 e2 => ⟨n, rfl, fun p hp => by
    have e3 := Ex.new (o := HO.rng 0 n) hp
    refine ⟨((hT.mono e).mono e2).mono e3, n.toNat, fun i => .int (0 + (i : Int)), f, .inr (.inr ⟨p, 0, n, rfl, upd_same, by rw [Int.sub_zero], by decide, by decide, hb.1, hb.2, fun i => rfl⟩), fun i u hi hu => he _ ((e.trans e2).trans e3) i u (by omega) (by have hu2 : RelV (.int (0 + (i : Int))) u := hu; rw [Int.zero_add] at hu2; exact hu2), q _ (e2.trans e3)⟩⟩
/-- a generator expression over a new list -/
theorem ev_genL {xs : List V} {f : Nat → Bool} (h : EvL te σ H xs) (hT : Tab H P) (he : ∀ H1, Ex H H1 → ∀ i u, i < xs.length → RelV (xs.getD i .non) u → QV X σ H1 P scope x u elt (.bl (f i))) :
    Ev (tGen X P scope x elt fin te) σ H (.bl (fin xs.length f)) := fun H1 e Q q =>
  h H1 e _ fun p H2 hp e2 h2 => ⟨hT.mono (e.trans e2), xs.length, fun i => xs.getD i .non, f, .inl ⟨p, xs, rfl, sq_of h2, rfl, fun i => rfl⟩, fun i u hi hu => he H2 (e.trans e2) i u hi hu, q H2 e2⟩
/-- over a list of pairs -/
theorem ev_genT {v : V} {n : Nat} {xs : Nat → V} {f : Nat → Bool} (h : Ev te σ H v) (hT : Tab H P) (hs : ∀ H1, Ex H H1 → SrcT X.K H1 v n xs) (he : ∀ H1, Ex H H1 → ∀ i u, i < n → RelV (xs i) u → QV X σ H1 P scope x u elt (.bl (f i))) :
    Ev (tGenT X P scope x elt fin te) σ H (.bl (fin n f)) := fun H1 e Q q => h H1 e _ fun H2 e2 => ⟨hT.mono (e.trans e2), n, xs, f, hs H2 (e.trans e2), he H2 (e.trans e2), q H2 e2⟩
/-- tuple(new list) -/
theorem eu_tupL {xs : List V} (h : EvL te σ H xs) : EvU (tCB (fun zs H Q => ∃ p ys, zs = [.ref p] ∧ ((SqL K H p ys ∧ ∀ l, H l = none → Q (.ref l) (upd H l (.tup ys))) ∨ (SqT K H p ys ∧ Q (.ref p) H))) (tCons te tNil)) σ H xs := fun H1 e Q q =>
  h H1 e _ fun p H2 hp e2 h2 => ⟨p, xs, rfl, .inl ⟨sq_of h2, fun l hl => q l _ (fresh_back e2 hl) (e2.trans (Ex.new hl)) upd_same⟩⟩
end
end LN

set_option Elab.async false
set_option linter.all false
set_option maxRecDepth 100000
set_option maxHeartbeats 4000000
namespace LP
open PySem PySem.Spec PyProof.Rows L2 Evl LT LG LS LX LO
/-! ### comprehensions whose elements are new objects: R i (those before) y heap -/
abbrev Rel := Nat → List V → V → Hp → Prop
def Mon (R : Rel) : Prop := ∀ i xs y H H', Ex H H' → R i xs y H → R i xs y H'
def EvR (te : TE) (σ : L2.St) (H : Hp) (n : Nat) (R : Rel) : Prop := ∀ H1, Ex H H1 → ∀ Q : VK, (∀ L xs H2, H1 L = none → Ex H1 H2 → H2 L = some (.lst xs) → xs.length = n → (∀ i y, xs[i]? = some y → R i (xs.take i) y H2) → Q (.ref L) H2) → te σ H1 Q
theorem but_ex {D : Addr} {H : Hp} : Ex (but D H) H := fun a o h => by
  unfold but at h
  split at h
  · cases h
  · exact h
theorem ex_but {D : Addr} {H H' : Hp} (e : Ex H H') : Ex (but D H) (but D H') := fun a o h => by
  unfold but at h ⊢
  split at h
  · cases h
  · rename_i n
    rw [if_neg n]
    exact e a o h
theorem but_upd {D : Addr} {H : Hp} {o : HO} : but D (upd H D o) = but D H := funext fun a => by
  unfold but
  split
  · rfl
  · rename_i n
    exact upd_ne n
/-- what is new later than D -/
theorem but_new {D l : Addr} {H2 H3 : Hp} {o : HO} (hD : H2 D ≠ none) (hl : H2 l = none) (h : H3 l = some o) : but D H3 l = some o := by
  rw [but_ne (fun e => hD (by rw [← e]; exact hl))]
  exact h
/-- what stood before D -/
theorem but_old {D l : Addr} {H H3 : Hp} {o : HO} (hD : H D = none) (h : H l = some o) (e : Ex H H3) : but D H3 l = some o := by
  rw [but_ne (fun z => by rw [z, hD] at h; cases h)]
  exact e _ _ h
def Cr (H : Hp) (R : Rel) (D : Addr) (i : Nat) (H' : Hp) : Prop := H D = none ∧ Ex H H' ∧ ∃ xs, H' D = some (.lst xs) ∧ xs.length = i ∧ ∀ j y, xs[j]? = some y → R j (xs.take j) y (but D H')
theorem cr_turn {H H' : Hp} {R : Rel} {D : Addr} {i : Nat} {te : TE} {σ2 : L2.St} (mon : Mon R) (p : Cr H R D i H') (hi : i < 50000)
    (he : H' D ≠ none → ∀ xs : List V, xs.length = i → (∀ j y, xs[j]? = some y → R j (xs.take j) y (but D H')) → ∀ Q : VK, (∀ y H3, Ex H' H3 → R i xs y (but D H3) → Q y H3) → te σ2 H' Q) :
    tYes σ2 H' fun b H3 => if b = true then te σ2 H3 fun y H4 => ∃ acc, H4 D = some (.lst acc) ∧ acc.length < sizeLine ∧ Cr H R D (i + 1) (upd H4 D (.lst (acc ++ [y]))) else Cr H R D (i + 1) H3 := by
  obtain ⟨p1, p2, xs, p3, p4, p5⟩ := p
  show te σ2 H' fun y H4 => ∃ acc, H4 D = some (.lst acc) ∧ acc.length < sizeLine ∧ Cr H R D (i + 1) (upd H4 D (.lst (acc ++ [y])))
  refine he (by rw [p3]; exact fun e => by cases e) xs p4 p5 _ fun y H4 e4 r => ⟨xs, e4 _ _ p3, sz_lt (by omega), p1, (p2.trans e4).mut p1, xs ++ [y], upd_same, by simp [p4], fun j z hz => ?_⟩
  rw [but_upd]
  by_cases hj : j < xs.length
  · rw [List.getElem?_append_left hj] at hz
    rw [List.take_append_of_le_length (Nat.le_of_lt hj)]
    exact mon _ _ _ _ _ (ex_but e4) (p5 j z hz)
  · have hj2 : j = xs.length := by
      have := (List.getElem?_eq_some_iff.mp hz).1
      simp at this
      omega
    subst hj2
    rw [List.getElem?_append_right (Nat.le_refl _), Nat.sub_self] at hz
    cases hz
    rw [List.take_left', ← p4] at *
    · rw [p4]; rw [p4] at r; exact r
    · rfl
section
variable {K : PySem.W.Frag} {σ : L2.St} {H : Hp} {R : Rel} {te tl : TE} {vs : List Nat} {j j2 : Nat}
theorem er_R1 {ta : TA} {n : Int} (h : EvA ta σ H [.int n]) (hn : 0 ≤ n ∧ n ≤ 40000) (hw : ∀ x, wipe ((wipe σ vs).set j (some x)) vs = wipe σ vs) (mon : Mon R)
    (he : ∀ (i : Nat) D H1, H D = none → Ex H H1 → H1 D ≠ none → (i : Int) < n → ∀ xs : List V, xs.length = i → (∀ j y, xs[j]? = some y → R j (xs.take j) y (but D H1)) → ∀ Q : VK, (∀ y H3, Ex H1 H3 → R i xs y (but D H3) → Q y H3) → te ((wipe σ vs).set j (some (.int (i : Int)))) H1 Q) :
    EvR (tLc (iRng1 ta) (gName j) tYes te vs) σ H n.toNat R := fun H0 e Q q => h H0 e _ fun H1 e1 => ⟨n, rfl, by omega, by omega, fun Dl hD =>
  lc_range (lo := 0) (n := n.toNat) (Cr H1 R Dl) ⟨hD, Ex.new hD, [], upd_same, rfl, fun j y hy => by simp at hy⟩ (fun i H' hi p => by
    have e0 : (0 : Int) + (i : Int) = (i : Int) := Int.zero_add _
    rw [e0]
    exact ⟨hw _, cr_turn mon p (by omega) (fun h1 xs h2 h3 => he i Dl H' (fresh_back (e.trans e1) hD) ((e.trans e1).trans p.2.1) h1 (by omega) xs h2 h3)⟩)
    (fun H' ⟨p1, p2, xs, p3, p4, p5⟩ => q Dl xs H' (fresh_back e1 p1) (e1.trans p2) p3 p4 fun i y hy => mon _ _ _ _ _ but_ex (p5 i y hy))⟩
theorem er_L {a : Addr} {ys : List V} (h : Ev tl σ H (.ref a)) (hx : SqL K H a ys) (hz : ys.length ≤ 40000) (hw : ∀ x, wipe ((wipe σ vs).set j (some x)) vs = wipe σ vs) (mon : Mon R)
    (he : ∀ (i : Nat) (x : V) D H1, H D = none → Ex H H1 → H1 D ≠ none → ys[i]? = some x → ∀ xs : List V, xs.length = i → (∀ j y, xs[j]? = some y → R j (xs.take j) y (but D H1)) → ∀ Q : VK, (∀ y H3, Ex H1 H3 → R i xs y (but D H3) → Q y H3) → te ((wipe σ vs).set j (some x)) H1 Q) :
    EvR (tLc (iList K tl) (gName j) tYes te vs) σ H ys.length R := fun H0 e Q q => h H0 e _ fun H1 e1 => ⟨a, rfl, ⟨ys, ex_l (e.trans e1) hx⟩, fun Dl hD =>
  lc_list (xs := ys) (Cr H1 R Dl) ⟨hD, Ex.new hD, [], upd_same, rfl, fun j y hy => by simp at hy⟩ (fun i H' _ p => ex_l ((e.trans e1).trans p.2.1) hx)
    (fun i x H' hi p => ⟨hw x, cr_turn mon p (by have := (List.getElem?_eq_some_iff.mp hi).1; omega) (fun h1 xs h2 h3 => he i x Dl H' (fresh_back (e.trans e1) hD) ((e.trans e1).trans p.2.1) h1 hi xs h2 h3)⟩)
    (fun H' ⟨p1, p2, xs, p3, p4, p5⟩ => q Dl xs H' (fresh_back e1 p1) (e1.trans p2) p3 p4 fun i y hy => mon _ _ _ _ _ but_ex (p5 i y hy))⟩
/-- over a list of pairs -/
theorem er_L2 {a : Addr} {ys : List V} (h : Ev tl σ H (.ref a)) (hx : SqL K H a ys) (hz : ys.length ≤ 40000) (hw : ∀ x y, wipe (((wipe σ vs).set j (some x)).set j2 (some y)) vs = wipe σ vs) (mon : Mon R)
    (he : ∀ (i : Nat) (x : V) D H1, H D = none → Ex H H1 → H1 D ≠ none → ys[i]? = some x → ∃ t u v, x = .ref t ∧ SqT K H1 t [u, v] ∧ ∀ xs : List V, xs.length = i → (∀ j y, xs[j]? = some y → R j (xs.take j) y (but D H1)) → ∀ Q : VK, (∀ y H3, Ex H1 H3 → R i xs y (but D H3) → Q y H3) → te (((wipe σ vs).set j (some u)).set j2 (some v)) H1 Q) :
    EvR (tLc (iList K tl) (gTup K 2 (gCons (gName j) (gCons (gName j2) gNil))) tYes te vs) σ H ys.length R := fun H0 e Q q => h H0 e _ fun H1 e1 => ⟨a, rfl, ⟨ys, ex_l (e.trans e1) hx⟩, fun Dl hD =>
  lc_list (xs := ys) (Cr H1 R Dl) ⟨hD, Ex.new hD, [], upd_same, rfl, fun j y hy => by simp at hy⟩ (fun i H' _ p => ex_l ((e.trans e1).trans p.2.1) hx)
    (fun i x H' hi p => by
      have h1 : H' Dl ≠ none := by
        obtain ⟨_, _, xs, p3, _⟩ := p
        rw [p3]
        exact fun e => by cases e
      obtain ⟨t, u, v, rfl, hT, k⟩ := he i x Dl H' (fresh_back (e.trans e1) hD) ((e.trans e1).trans p.2.1) h1 hi
      exact ⟨t, [u, v], rfl, hT, rfl, u, [v], rfl, v, [], rfl, rfl, hw u v, cr_turn mon p (by have := (List.getElem?_eq_some_iff.mp hi).1; omega) fun _ xs' h2 h3 => k xs' h2 h3⟩)
    (fun H' ⟨p1, p2, xs, p3, p4, p5⟩ => q Dl xs H' (fresh_back e1 p1) (e1.trans p2) p3 p4 fun i y hy => mon _ _ _ _ _ but_ex (p5 i y hy))⟩
end
/-! ### a list of known items, new or not -/
def EvF (te : TE) (σ : L2.St) (H : Hp) (xs : List V) : Prop := ∀ H1, Ex H H1 → ∀ Q : VK, (∀ p H2, Ex H1 H2 → H2 p = some (.lst xs) → Q (.ref p) H2) → te σ H1 Q
def fset (f : Nat → List Int) (s : Nat) (v : List Int) : Nat → List Int := fun x => if x = s then v else f x
def Z8 : List Int := [0, 0, 0, 0, 0, 0, 0, 0]
/-- a dict from sectors to lists of words -/
def Dz (H : Hp) (d : Addr) (n : Nat) (f : Nat → List Int) : Prop := ∃ kvs : List (Key × V), H d = some (.dK kvs) ∧ kvs.length ≤ n ∧ ∀ s : Nat, (valV kvs (.inl (s : Int)) = none ∧ f s = Z8) ∨ ∃ l, valV kvs (.inl (s : Int)) = some (.ref l) ∧ H l = some (.lst ((f s).map V.int))
theorem cut_lo (xs : List V) (n : Nat) : cutV xs none (some (n : Int)) = xs.take n := by
  unfold cutV
  rw [HT.sIx_none, HT.sIx_nat, List.drop_zero, Nat.sub_zero, List.take_eq_take_iff]
  omega
theorem cut_hi (xs : List V) (n : Nat) : cutV xs (some (n : Int)) none = xs.drop n := by
  unfold cutV
  rw [HT.sIx_none, HT.sIx_nat, List.take_of_length_le (by rw [List.length_drop]; omega)]
  by_cases h : n ≤ xs.length
  · rw [Nat.min_eq_left h]
  · rw [Nat.min_eq_right (by omega), List.drop_eq_nil_of_le (Nat.le_refl _), List.drop_eq_nil_of_le (by omega)]
section
variable {K : PySem.W.Frag} {σ : L2.St} {H H' : Hp} {ta tb te td tk tx : TE} {v : V} {xs ys : List V} {d : Addr} {n s : Nat} {f : Nat → List Int} {D : Ends} {tz : TS}
theorem el_f (h : EvL te σ H xs) : EvF te σ H xs := fun H1 e Q q => h H1 e Q fun p H2 _ e2 h2 => q p H2 e2 h2
theorem Dz.ex (D : Dz H d n f) (e : Ex H H') : Dz H' d n f := by
  obtain ⟨kvs, h, hl, hs⟩ := D
  exact ⟨kvs, e _ _ h, hl, fun s => (hs s).imp id fun ⟨l, a, b⟩ => ⟨l, a, e _ _ b⟩⟩
theorem Dz.le (D : Dz H d n f) {m : Nat} (h : n ≤ m) : Dz H d m f := by
  obtain ⟨kvs, h1, hl, hs⟩ := D
  exact ⟨kvs, h1, Nat.le_trans hl h, hs⟩
theorem ef_get (hd : Ev td σ H (.ref d)) (hD : Dz H d n f) (hk : Ev tk σ H (.int (s : Int))) (hx : EvL tx σ H (Z8.map V.int)) : EvF (tDGet2 td tk tx) σ H ((f s).map V.int) := fun H1 e Q q => by
  obtain ⟨kvs, h, _, hs⟩ := hD
  refine hd H1 e _ fun H2 e2 => ⟨d, rfl, .inl ⟨kvs, .inl (e2 _ _ (e _ _ h))⟩, hk H2 (e.trans e2) _ fun H3 e3 => hx H3 ((e.trans e2).trans e3) _ fun p H4 hp e4 h4 => ?_⟩
  have e14 := (e2.trans e3).trans e4
  rcases hs s with ⟨hn, hf⟩ | ⟨l, hv, hl⟩
  · refine ⟨none, ?_, ?_⟩
    · rw [← hn]
      exact DGet.k (k := Sum.inl (s : Int)) (e14 _ _ (e _ _ h))
    · rw [hf] at q
      exact q p H4 e14 h4
  · refine ⟨some (.ref l), ?_, q l H4 e14 (e14 _ _ (e _ _ hl))⟩
    rw [← hv]
    exact DGet.k (k := Sum.inl (s : Int)) (e14 _ _ (e _ _ h))
theorem q_asgF {i : Nat} (h : EvF te σ H xs) (k : ∀ p H1, Ex H H1 → H1 p = some (.lst xs) → tz D (σ.set i (some (.ref p))) H1) : tSeq (tAsg te (gName i)) tz D σ H := h H (Ex.refl H) _ fun p H1 e h1 => k p H1 e h1
/-- list(an evaluated list) -/
theorem el_listF (h : EvF te σ H xs) : EvL (tCB (rListS K) (tCons te tNil)) σ H xs := fun H1 e Q q =>
  h H1 e _ fun p H2 e2 h2 => ⟨p, xs, rfl, Or.inl (sq_of h2), fun l hl => q l _ (fresh_back e2 hl) (e2.trans (Ex.new hl)) upd_same⟩
theorem q_dcopy {i : Nat} (hd : Ev td σ H (.ref d)) (hD : Dz H d n f) (k : ∀ p H1, H p = none → Ex H H1 → Dz H1 p n f → tz D (σ.set i (some (.ref p))) H1) :
    tSeq (tAsg (tCB (fun xs H Q => ∃ (a : Addr) (kvs : List (Key × V)), xs = [.ref a] ∧ Rd H a (.dK kvs) ∧ ∀ p, H p = none → Q (.ref p) (upd H p (.dK kvs))) (tCons td tNil)) (gName i)) tz D σ H := by
  obtain ⟨kvs, h, hl, hs⟩ := hD
  refine hd H (Ex.refl H) _ fun H1 e1 => ⟨d, kvs, rfl, .inl (e1 _ _ h), fun p hp => k p _ (fresh_back e1 hp) (e1.trans (Ex.new hp)) ⟨kvs, upd_same, hl, fun s => (hs s).imp id fun ⟨l, a, b⟩ => ⟨l, a, (e1.trans (Ex.new hp)) _ _ b⟩⟩⟩
theorem s_dputL {zs : List Int} (hv : EvL te σ H (zs.map V.int)) (hd : Ev td σ H (.ref d)) (hk : Ev tk σ H (.int (s : Int))) (hD : Dz H d n f) (hn : n < 100000) (k : ∀ H1 o, Ex H H1 → Dz (upd H1 d o) d (n + 1) (fset f s zs) → D.nx σ (upd H1 d o)) : sDPut td tk te D σ H := by
  obtain ⟨kvs, h, hl, hs⟩ := hD
  refine hv H (Ex.refl H) _ fun l H1 hl1 e1 h1 => hd H1 e1 _ fun H2 e2 => hk H2 (e1.trans e2) _ fun H3 e3 => ?_
  have e13 := (e1.trans e2).trans e3
  have h3 := e13 _ _ h
  have l3 := e3 _ _ (e2 _ _ h1)
  have hld : l ≠ d := ne_of l3 h3 (by intro z; cases z)
  refine ⟨d, _, rfl, DPut.k (k := Sum.inl (s : Int)) h3 (sz_lt (by omega)), k H3 _ e13 ⟨_, upd_same, Nat.le_trans (length_putK _ _ _) (by omega), fun j => ?_⟩⟩
  rw [valV_put]
  by_cases hj : j = s
  · subst hj
    rw [if_pos rfl]
    refine .inr ⟨l, rfl, ?_⟩
    rw [upd_ne hld, l3]
    unfold fset
    rw [if_pos rfl]
  · rw [if_neg (fun z => hj (by cases z; rfl))]
    have ef : fset f s zs j = f j := if_neg hj
    rw [ef]
    refine (hs j).imp id fun ⟨m, a, b⟩ => ⟨m, a, ?_⟩
    have b3 := e13 _ _ b
    rw [upd_ne (ne_of b3 h3 (by intro z; cases z))]
    exact b3
theorem el_catL (ha : EvL ta σ H xs) (hb : EvL tb σ H ys) (hz : xs.length + ys.length ≤ 100000) : EvL (tOp rCat ta tb) σ H (xs ++ ys) := fun H1 e Q q =>
  ha H1 e _ fun a H2 ha2 e2 h2 => hb H2 (e.trans e2) _ fun b H3 hb3 e3 h3 => ⟨a, b, xs, ys, rfl, rfl, e3 _ _ h2, h3, sz_of hz, fun p hp => q p _ (fresh_back (e2.trans e3) hp) ((e2.trans e3).trans (Ex.new hp)) upd_same⟩
theorem el_cat {l : Addr} (ha : Ev ta σ H (.ref l)) (hl : H l = some (.lst xs)) (hb : EvL tb σ H ys) (hz : xs.length + ys.length ≤ 100000) : EvL (tOp rCat ta tb) σ H (xs ++ ys) := fun H1 e Q q =>
  ha H1 e _ fun H2 e2 => hb H2 (e.trans e2) _ fun b H3 hb3 e3 h3 => ⟨l, b, xs, ys, rfl, rfl, e3 _ _ (e2 _ _ (e _ _ hl)), h3, sz_of hz, fun p hp => q p _ (fresh_back (e2.trans e3) hp) ((e2.trans e3).trans (Ex.new hp)) upd_same⟩
theorem el_rep1 {z : Int} (ha : EvL ta σ H [v]) (hb : Ev tb σ H (.int z)) (h0 : 0 ≤ z) (h1 : z ≤ 100000) : EvL (tOp rRep ta tb) σ H (List.replicate z.toNat v) := fun H1 e Q q =>
  ha H1 e _ fun a H2 ha2 e2 h2 => hb H2 (e.trans e2) _ fun H3 e3 => ⟨a, z, [v], rfl, rfl, e3 _ _ h2, by omega, by omega, sz_of (by simp; omega), fun p hp => by
    have := q p (upd H3 p (.lst (List.replicate z.toNat [v]).flatten)) (fresh_back (e2.trans e3) hp) ((e2.trans e3).trans (Ex.new hp))
    rw [show (List.replicate z.toNat [v]).flatten = List.replicate z.toNat v by
      induction z.toNat with
      | zero => rfl
      | succ k ih => rw [List.replicate_succ, List.flatten_cons, ih]; rfl] at this ⊢
    exact this upd_same⟩
theorem ev_min2 {i j : Int} (ha : Ev ta σ H (.int i)) (hb : Ev tb σ H (.int j)) : Ev (tCB (fun xs H Q => ∃ i j, xs = [.int i, .int j] ∧ Q (.int (if j < i then j else i)) H) (tCons ta (tCons tb tNil))) σ H (.int (if j < i then j else i)) := ev_cb (ea_cons ha (ea_cons hb ea_nil)) fun H1 e Q q => ⟨i, j, rfl, q H1 (Ex.refl H1)⟩
theorem er_asg {i : Nat} {R : Rel} (h : EvR te σ H n R) (k : ∀ L xs H1, H L = none → Ex H H1 → H1 L = some (.lst xs) → xs.length = n → (∀ i y, xs[i]? = some y → R i (xs.take i) y H1) → tz D (σ.set i (some (.ref L))) H1) : tSeq (tAsg te (gName i)) tz D σ H := h H (Ex.refl H) _ k
theorem er_ret {R : Rel} (h : EvR te σ H n R) (k : ∀ L xs H1, H L = none → Ex H H1 → H1 L = some (.lst xs) → xs.length = n → (∀ i y, xs[i]? = some y → R i (xs.take i) y H1) → D.rt (.ref L) H1) : tRet te D σ H := h H (Ex.refl H) _ k
end
/-! ### more statements -/
section
variable {K : PySem.W.Frag} {σ : L2.St} {H : Hp} {ta tb te : TE} {t : TA} {xs ys : List V} {l C p dx : Addr} {fs : List (Str × V)} {m : Str} {n : Nat} {D : Ends} {tz : TS}
theorem s_setLL {j : Nat} (hl : H l = some (.lst xs)) (h : EvL te σ H ys) (ho : Ev ta σ H (.ref l)) (hi : Ev tb σ H (.int (j : Int))) (hj : j < xs.length) (k : ∀ q H1, H q = none → Ex H H1 → H1 q = some (.lst ys) → D.nx σ (upd H1 l (.lst (xs.set j (.ref q))))) :
    tAsg te (gSub ta tb rSetL) D σ H := h H (Ex.refl H) _ fun q H1 hq e1 h1 => ho H1 e1 _ fun H2 e2 => hi H2 (e1.trans e2) _ fun H3 e3 => ⟨l, xs, (j : Int), j, rfl, rfl, ((e1.trans e2).trans e3) l _ hl, ixN_nat hj, k q H3 hq ((e1.trans e2).trans e3) (e3 _ _ (e2 _ _ h1))⟩
theorem q_fldR {R : Rel} (hv : EvR te σ H n R) (ha : Ev ta σ H (.ref p)) (hi : H p = some (.ins C dx fs)) (c : Cls K C) (nA : NoAttr K C m) (hz : fs.length < 1000) (k : ∀ L xs H1 H2, H L = none → Ex H H1 → Ex H1 H2 → H2 L = some (.lst xs) → xs.length = n → (∀ i y, xs[i]? = some y → R i (xs.take i) y H1) → tz D σ (upd H2 p (.ins C dx (putF m (.ref L) fs)))) : tSeq (sFld K ta te m) tz D σ H :=
  hv H (Ex.refl _) _ fun L xs H1 hL e1 h1 hn hr => ha H1 e1 _ fun H2 e2 => ⟨p, C, dx, fs, rfl, e2 _ _ (e1 _ _ hi), c, nA, hz, k L xs H1 H2 hL e1 e2 (e2 _ _ h1) hn hr⟩
theorem q_forZ {a b : Addr} {g : TG} {tu : TS} (h : EvA t σ H [.ref a, .ref b]) (hx : SqL K H a xs) (hy : SqL K H b ys) (Pv : Nat → L2.St → Hp → Prop) (h0 : ∀ H1, Ex H H1 → Pv 0 σ H1) (hl : ∀ i σ' H', Pv i σ' H' → SqL K H' a xs ∧ SqL K H' b ys)
    (hs : ∀ i x y T σ' H', xs[i]? = some x → ys[i]? = some y → Pv i σ' H' → H' T = none → g (.ref T) σ' (upd H' T (.tup [x, y])) fun σ2 H2 => tu { D with nx := Pv (i + 1), ct := Pv (i + 1), bk := tz D } σ2 H2) (hd : ∀ σ' H', Pv (min xs.length ys.length) σ' H' → tz D σ' H') : tSeq (tFor (iZip K t) g tu) tz D σ H :=
  h H (Ex.refl H) _ fun H1 e => ⟨a, b, xs, ys, rfl, ex_l e hx, ex_l e hy, for_it (D := { D with nx := tz D }) (walk_zip rfl) Pv (h0 H1 e) (fun i σ' H' _ p => hl i σ' H' p) (fun i v σ' H' H2 hi p y => by
    obtain ⟨T, x, z, rfl, hT, rfl, h1, h2⟩ := y
    exact hs i x z T σ' H' h1 h2 p hT) hd⟩
end
theorem refs_of : ∀ {xs : List V}, (∀ y ∈ xs, ∃ a, y = V.ref a) → ∃ ks : List Addr, xs = ks.map V.ref
  | [], _ => ⟨[], rfl⟩
  | x :: r, h => by
    obtain ⟨a, rfl⟩ := h x List.mem_cons_self
    obtain ⟨ks, e⟩ := refs_of fun y hy => h y (List.mem_cons_of_mem _ hy)
    exact ⟨a :: ks, by rw [e]; rfl⟩
/-- a method that is passed a new list -/
theorem mR_run {sp : Sp} {σ : L2.St} {H : Hp} {ta te : TE} {C p dx : Addr} {fs : List (Str × V)} {m : Str} {xs : List V} {D : Ends} {E : XK} (ha : Ev ta σ H (.ref p)) (hi : H p = some (.ins C dx fs)) (hl : fs.lookup m = none) (ht : EvL te σ H xs) (k : ∀ c H1, H c = none → Ex H H1 → H1 c = some (.lst xs) → sp [.ref p, .ref c] H1 (fun _ H2 => D.nx σ H2) E) : tDrop (tMeth C m sp [] E ta (tCons te tNil)) D σ H :=
  ha H (Ex.refl _) _ fun H2 e2 => ⟨p, dx, fs, rfl, e2 _ _ hi, hl, ht H2 e2 _ fun c H3 hc e3 h3 => k c H3 (fresh_back e2 hc) (e2.trans e3) h3⟩
section
variable {K : PySem.W.Frag} {σ : L2.St} {H : Hp} {ta tb te t1 : TE} {t : TA} {v : V} {xs ys vs : List V} {C p dx a : Addr} {fs : List (Str × V)} {m : Str} {sp : Sp} {D : Ends} {tz : TS}
theorem ev_int1 {i : Int} (h : Ev te σ H (.int i)) : Ev (tCB (fun xs H Q => (∃ i, xs = [V.int i] ∧ Q (V.int i) H) ∨ ∃ k : Bool, xs = [V.bl k] ∧ Q (V.int (if k then 1 else 0)) H) (tCons te tNil)) σ H (.int i) := ev_cb (ea_cons h ea_nil) fun H1 _ Q q => .inl ⟨i, rfl, q _ (Ex.refl _)⟩
theorem ef_var (h : Ev te σ H (.ref a)) (ha : H a = some (.lst xs)) : EvF te σ H xs := fun H1 e Q q => h H1 e _ fun H2 e2 => q a H2 e2 (e2 _ _ (e _ _ ha))
theorem ef_is (h : EvF te σ H xs) (e : xs = ys) : EvF te σ H ys := e ▸ h
theorem el_meth {E : XK} (ha : Ev ta σ H (.ref p)) (hi : H p = some (.ins C dx fs)) (hl : fs.lookup m = none) (ht : EvA t σ H vs) (hs : SpL sp (.ref p :: vs) H xs) : EvL (tMeth C m sp [] E ta t) σ H xs := fun H1 e Q q =>
  ha H1 e _ fun H2 e2 => ⟨p, dx, fs, rfl, e2 _ _ (e _ _ hi), hl, ht H2 (e.trans e2) _ fun H3 e3 => by
    rw [List.append_nil]
    exact hs H3 ((e.trans e2).trans e3) Q (fun l H4 hl e4 h4 => q l H4 (fresh_back (e2.trans e3) hl) ((e2.trans e3).trans e4) h4) E⟩
/-- in a try's body: o.m(e, a new list), o.m(a new list), o.m(e ..) -/
theorem s_mA2L {E : L2.St → XK} (ha : Ev ta σ H (.ref p)) (hi : H p = some (.ins C dx fs)) (hl : fs.lookup m = none) (h1 : Ev t1 σ H v) (ht : EvL te σ H xs) (k : ∀ c H1, H c = none → Ex H H1 → H1 c = some (.lst xs) → sp [.ref p, v, .ref c] H1 (fun _ H2 => D.nx σ H2) (E σ)) : tDrop (tMethA C m sp E ta (tCons t1 (tCons te tNil))) D σ H :=
  ha H (Ex.refl _) _ fun H2 e2 => ⟨p, dx, fs, rfl, e2 _ _ hi, hl, h1 H2 e2 _ fun H3 e3 => ht H3 (e2.trans e3) _ fun c H4 hc e4 h4 => k c H4 (fresh_back (e2.trans e3) hc) ((e2.trans e3).trans e4) h4⟩
theorem s_mA1L {E : L2.St → XK} (ha : Ev ta σ H (.ref p)) (hi : H p = some (.ins C dx fs)) (hl : fs.lookup m = none) (ht : EvL te σ H xs) (k : ∀ c H1, H c = none → Ex H H1 → H1 c = some (.lst xs) → sp [.ref p, .ref c] H1 (fun _ H2 => D.nx σ H2) (E σ)) : tDrop (tMethA C m sp E ta (tCons te tNil)) D σ H :=
  ha H (Ex.refl _) _ fun H2 e2 => ⟨p, dx, fs, rfl, e2 _ _ hi, hl, ht H2 e2 _ fun c H3 hc e3 h3 => k c H3 (fresh_back e2 hc) (e2.trans e3) h3⟩
theorem s_mAV {E : L2.St → XK} (ha : Ev ta σ H (.ref p)) (hi : H p = some (.ins C dx fs)) (hl : fs.lookup m = none) (ht : EvA t σ H vs) (k : ∀ H1, Ex H H1 → sp (.ref p :: vs) H1 (fun _ H2 => D.nx σ H2) (E σ)) : tDrop (tMethA C m sp E ta t) D σ H := mA_run (Q := fun _ H2 => D.nx σ H2) ha hi hl ht k
end
/-! ### what is frozen: all that G has; what is new joins it, but for X -/
open Classical in
noncomputable def grow (G H H1 : Hp) (X : Addr → Prop) : Hp := fun a => if G a ≠ none then G a else if H a = none ∧ ¬ X a then H1 a else none
section
variable {G H H1 : Hp} {X : Addr → Prop} {a : Addr} {o : HO}
theorem grow_ex : Ex G (grow G H H1 X) := fun a o h => by
  unfold grow
  rw [if_pos (by rw [h]; exact fun e => by cases e)]
  exact h
theorem grow_sub (e : Ex G H1) : Ex (grow G H H1 X) H1 := fun a o h => by
  unfold grow at h
  split at h
  · exact e a o h
  · split at h
    · exact h
    · cases h
theorem grow_mono {H2 : Hp} (e : Ex H1 H2) : Ex (grow G H H1 X) (grow G H H2 X) := fun a o h => by
  unfold grow at h ⊢
  split at h
  · rename_i c
    rw [if_pos c]
    exact h
  · rename_i c
    rw [if_neg c]
    split at h
    · rename_i c2
      rw [if_pos c2]
      exact e _ _ h
    · cases h
theorem grow_no (h : H a ≠ none) (g : G a = none) : grow G H H1 X a = none := by
  unfold grow
  rw [if_neg (by rw [g]; exact fun e => e rfl), if_neg fun e => h e.1]
theorem grow_X (x : X a) (g : G a = none) : grow G H H1 X a = none := by
  unfold grow
  rw [if_neg (by rw [g]; exact fun e => e rfl), if_neg fun e => e.2 x]
theorem grow_new (g : G a = none) (h : H a = none) (x : ¬ X a) (h1 : H1 a = some o) : grow G H H1 X a = some o := by
  unfold grow
  rw [if_neg (by rw [g]; exact fun e => e rfl), if_pos ⟨h, x⟩]
  exact h1
end
theorem ef_ref {te : TE} {σ : L2.St} {H : Hp} {a : Addr} {xs : List V} (h : Ev te σ H (.ref a)) (ha : H a = some (.lst xs)) : EvF te σ H xs := ef_var h ha
theorem ev_lenT {K : PySem.W.Frag} {ta : TE} {σ : L2.St} {H : Hp} {p : Addr} {xs : List V} (ha : Ev ta σ H (.ref p)) (h : SqT K H p xs) : Ev (tCB (rLenS K) (tCons ta tNil)) σ H (.int (xs.length : Int)) := ev_cb (ea_cons ha ea_nil) fun H1 e Q q => ⟨p, xs, rfl, .inr (ex_t e h), q H1 (Ex.refl H1)⟩
theorem ints_inj : ∀ {a b : List Int}, a.map V.int = b.map V.int → a = b
  | [], [], _ => rfl
  | [], _ :: _, h => by simp at h
  | _ :: _, [], h => by simp at h
  | a :: r, b :: s, h => by
    rw [List.map_cons, List.map_cons] at h
    injection h with h1 h2
    rw [V.int.inj h1, ints_inj h2]
/-! ### a dict that is being made: its lists are frozen or new -/
def DzG (G H0 H' : Hp) (d : Addr) (n : Nat) (f : Nat → List Int) : Prop := ∃ kvs : List (Key × V), H' d = some (.dK kvs) ∧ kvs.length ≤ n ∧ ∀ s : Nat, (valV kvs (.inl (s : Int)) = none ∧ f s = Z8) ∨ ∃ l, valV kvs (.inl (s : Int)) = some (.ref l) ∧ (G l = some (.lst ((f s).map V.int)) ∨ (H0 l = none ∧ H' l = some (.lst ((f s).map V.int))))
section
variable {G H0 H H' : Hp} {σ : L2.St} {te td tk : TE} {d : Addr} {n s : Nat} {f : Nat → List Int} {D : Ends} {tz : TS}
theorem DzG.ex (h : DzG G H0 H d n f) (e : Ex H H') : DzG G H0 H' d n f := by
  obtain ⟨kvs, h, hl, hs⟩ := h
  exact ⟨kvs, e _ _ h, hl, fun s => (hs s).imp id fun ⟨l, a, b⟩ => ⟨l, a, b.imp id fun c => ⟨c.1, e _ _ c.2⟩⟩⟩
theorem DzG.dz (h : DzG G H0 H d n f) (e : Ex G H) : Dz H d n f := by
  obtain ⟨kvs, h, hl, hs⟩ := h
  exact ⟨kvs, h, hl, fun s => (hs s).imp id fun ⟨l, a, b⟩ => ⟨l, a, b.elim (fun c => e _ _ c) fun c => c.2⟩⟩
theorem DzG.grown (h : DzG G H0 H d n f) (hd : H0 d = none) (g : Ex G H0) : Dz (grow G H0 H fun _ => False) d n f := by
  obtain ⟨kvs, h, hl, hs⟩ := h
  exact ⟨kvs, grow_new (fresh_back g hd) hd id h, hl, fun s => (hs s).imp id fun ⟨l, a, b⟩ => ⟨l, a, b.elim (fun c => grow_ex _ _ c) fun c => grow_new (fresh_back g c.1) c.1 id c.2⟩⟩
theorem q_dcopyG {i : Nat} (g : Ex G H) (hd : Ev td σ H (.ref d)) (hD : Dz G d n f) (k : ∀ p H1, H p = none → Ex H H1 → DzG G H H1 p n f → tz D (σ.set i (some (.ref p))) H1) :
    tSeq (tAsg (tCB (fun xs H Q => ∃ (a : Addr) (kvs : List (Key × V)), xs = [.ref a] ∧ Rd H a (.dK kvs) ∧ ∀ p, H p = none → Q (.ref p) (upd H p (.dK kvs))) (tCons td tNil)) (gName i)) tz D σ H := by
  obtain ⟨kvs, h, hl, hs⟩ := hD
  refine hd H (Ex.refl H) _ fun H1 e1 => ⟨d, kvs, rfl, .inl (e1 _ _ (g _ _ h)), fun p hp => k p _ (fresh_back e1 hp) (e1.trans (Ex.new hp)) ⟨kvs, upd_same, hl, fun s => (hs s).imp id fun ⟨l, a, b⟩ => ⟨l, a, .inl b⟩⟩⟩
theorem s_dputG {zs : List Int} (g : Ex H0 H) (hv : EvL te σ H (zs.map V.int)) (hd : Ev td σ H (.ref d)) (hk : Ev tk σ H (.int (s : Int))) (hD : DzG G H0 H d n f) (hn : n < 100000) (k : ∀ H1 o, Ex H H1 → DzG G H0 (upd H1 d o) d (n + 1) (fset f s zs) → D.nx σ (upd H1 d o)) : sDPut td tk te D σ H := by
  obtain ⟨kvs, h, hl, hs⟩ := hD
  refine hv H (Ex.refl H) _ fun l H1 hl1 e1 h1 => hd H1 e1 _ fun H2 e2 => hk H2 (e1.trans e2) _ fun H3 e3 => ?_
  have e13 := (e1.trans e2).trans e3
  have h3 := e13 _ _ h
  have l3 := e3 _ _ (e2 _ _ h1)
  have hld : l ≠ d := ne_of l3 h3 (by intro z; cases z)
  refine ⟨d, _, rfl, DPut.k (k := Sum.inl (s : Int)) h3 (sz_lt (by omega)), k H3 _ e13 ⟨_, upd_same, Nat.le_trans (length_putK _ _ _) (by omega), fun j => ?_⟩⟩
  rw [valV_put]
  by_cases hj : j = s
  · subst hj
    rw [if_pos rfl]
    refine .inr ⟨l, rfl, .inr ⟨fresh_back g hl1, ?_⟩⟩
    rw [upd_ne hld, l3]
    unfold fset
    rw [if_pos rfl]
  · rw [if_neg (fun z => hj (by cases z; rfl))]
    have ef : fset f s zs j = f j := if_neg hj
    rw [ef]
    refine (hs j).imp id fun ⟨m, a, b⟩ => ⟨m, a, b.imp id fun c => ⟨c.1, ?_⟩⟩
    have b3 := e13 _ _ c.2
    rw [upd_ne (ne_of b3 h3 (by intro z; cases z))]
    exact b3
end
section
variable {K : PySem.W.Frag} {σ : L2.St} {H : Hp} {t1 t2 te : TE} {v1 v2 : V} {xs : List V} {l : Addr} {sp : Sp} {E : XK} {D : Ends} {tz : TS}
/-- x = f(e, e', a new list) -/
theorem q_call3L {i : Nat} (h1 : Ev t1 σ H v1) (h2 : Ev t2 σ H v2) (h3 : EvL te σ H xs) (k : ∀ c H1, H c = none → Ex H H1 → H1 c = some (.lst xs) → sp [v1, v2, .ref c] H1 (fun v H2 => tz D (σ.set i (some v)) H2) E) : tSeq (tAsg (tCall sp [] E (tCons t1 (tCons t2 (tCons te tNil)))) (gName i)) tz D σ H :=
  h1 H (Ex.refl _) _ fun H1 e1 => h2 H1 e1 _ fun H2 e2 => h3 H2 (e1.trans e2) _ fun c H3 hc e3 h3' => k c H3 (fresh_back (e1.trans e2) hc) ((e1.trans e2).trans e3) h3'
/-- x = x + [(e, e')] -/
theorem s_snocT {i : Nat} (ha : Ev te σ H (.ref l)) (hl : H l = some (.lst xs)) (h1 : Ev t1 σ H v1) (h2 : Ev t2 σ H v2) (hz : xs.length < 10000) (k : ∀ t L H1, H t = none → H L = none → Ex H H1 → H1 t = some (.tup [v1, v2]) → H1 L = some (.lst (xs ++ [.ref t])) → D.nx (σ.set i (some (.ref L))) H1) :
    tAsg (tOp rCat te (tLst (tCons (tTup (tCons t1 (tCons t2 tNil))) tNil))) (gName i) D σ H :=
  ha H (Ex.refl _) _ fun H1 e1 => h1 H1 e1 _ fun H2 e2 => h2 H2 (e1.trans e2) _ fun H3 e3 => ⟨by show 2 ≤ sizeLine; decide, fun t ht => ⟨by show 1 ≤ sizeLine; decide, fun b hb => by
    have e4 := Ex.new (o := .tup [v1, v2]) ht
    have e5 := Ex.new (o := .lst [.ref t]) hb
    have e13 := (e1.trans e2).trans e3
    refine ⟨l, b, xs, [.ref t], rfl, rfl, e5 _ _ (e4 _ _ (e13 _ _ hl)), upd_same, sz_of (by simp; omega), fun L hL => ?_⟩
    have e6 := Ex.new (o := .lst (xs ++ [.ref t])) hL
    exact k t L _ (fresh_back e13 ht) (fresh_back ((e13.trans e4).trans e5) hL) (((e13.trans e4).trans e5).trans e6) (e6 _ _ (e5 _ _ upd_same)) upd_same⟩⟩
end
end LP

set_option Elab.async false
set_option linter.all false
set_option maxRecDepth 100000
set_option maxHeartbeats 4000000
namespace LV
open PySem PySem.Spec PyProof.Rows L2 Evl LT LG LH
section
variable {K : PySem.W.Frag} {σ : L2.St} {H : Hp} {tl te : TE} {ta : TA} {P a b : Addr} {xs ys : List V} {okc : Nat → (Nat → V) → V → Prop} {vals : Nat → V} {r : V} {j j2 : Nat} {vs : List Nat}
/-- a generator expression over a list that stands, over a tuple, a range, a text, two lists: elements that leave what is known -/
theorem ev_gxL (h : Ev tl σ H (.ref a)) (hx : SqL K H a xs) (hT : Tab H P) (ok : okc xs.length vals r) (hw : ∀ x, wipe ((wipe σ vs).set j (some x)) vs = wipe σ vs) (he : ∀ (i : Nat) (x : V) H1, Ex H H1 → xs[i]? = some x → Ev te ((wipe σ vs).set j (some x)) H1 (vals i)) : Ev (tGX P okc (iList K tl) (gName j) te vs) σ H r := fun H1 e Q q =>
  h H1 e _ fun H2 e2 => ⟨a, rfl, ⟨xs, ex_l (e.trans e2) hx⟩, hT.mono (e.trans e2), xs.length, vals, r, fun _ H' => Ex H2 H', ok, Ex.refl _, fun i H' hi w => ⟨⟨xs, xs[i], ex_l ((e.trans e2).trans w) hx, List.getElem?_eq_getElem hi⟩, fun x H3 hy => by
    obtain ⟨rfl, hy⟩ := hy
    exact ⟨hw x, he i x _ ((e.trans e2).trans w) (hy xs (ex_l ((e.trans e2).trans w) hx)) _ (Ex.refl _) _ fun H4 e4 => ⟨rfl, w.trans e4⟩⟩⟩, fun H' w => ⟨xs, ex_l ((e.trans e2).trans w) hx, Nat.le_refl _⟩, fun i H' _ w => q H' (e2.trans w)⟩
theorem ev_gxT (h : Ev tl σ H (.ref a)) (hx : SqT K H a xs) (hT : Tab H P) (ok : okc xs.length vals r) (hw : ∀ x, wipe ((wipe σ vs).set j (some x)) vs = wipe σ vs) (he : ∀ (i : Nat) (x : V) H1, Ex H H1 → xs[i]? = some x → Ev te ((wipe σ vs).set j (some x)) H1 (vals i)) : Ev (tGX P okc (iTup K tl) (gName j) te vs) σ H r := fun H1 e Q q =>
  h H1 e _ fun H2 e2 => ⟨a, rfl, ⟨xs, ex_t (e.trans e2) hx⟩, hT.mono (e.trans e2), xs.length, vals, r, fun _ H' => Ex H2 H', ok, Ex.refl _, fun i H' hi w => ⟨⟨xs, xs[i], ex_t ((e.trans e2).trans w) hx, List.getElem?_eq_getElem hi⟩, fun x H3 hy => by
    obtain ⟨rfl, hy⟩ := hy
    exact ⟨hw x, he i x _ ((e.trans e2).trans w) (hy xs (ex_t ((e.trans e2).trans w) hx)) _ (Ex.refl _) _ fun H4 e4 => ⟨rfl, w.trans e4⟩⟩⟩, fun H' w => ⟨xs, ex_t ((e.trans e2).trans w) hx, Nat.le_refl _⟩, fun i H' _ w => q H' (e2.trans w)⟩
theorem ev_gxR {n : Int} (h : EvA ta σ H [.int n]) (hn : 0 ≤ n ∧ n ≤ 100000) (hT : Tab H P) (ok : okc n.toNat vals r) (hw : ∀ x, wipe ((wipe σ vs).set j (some x)) vs = wipe σ vs) (he : ∀ (i : Nat) H1, Ex H H1 → (i : Int) < n → Ev te ((wipe σ vs).set j (some (.int (i : Int)))) H1 (vals i)) : Ev (tGX P okc (iRng1 ta) (gName j) te vs) σ H r := fun H1 e Q q =>
  h H1 e _ fun H2 e2 => ⟨n, rfl, by omega, by omega, hT.mono (e.trans e2), n.toNat, vals, r, fun _ H' => Ex H2 H', ok, Ex.refl _, fun i H' hi w => ⟨hi, fun x H3 hy => by
    obtain ⟨rfl, rfl⟩ := hy
    rw [Int.zero_add]
    exact ⟨hw _, he i _ ((e.trans e2).trans w) (by omega) _ (Ex.refl _) _ fun H4 e4 => ⟨rfl, w.trans e4⟩⟩⟩, fun H' w => Nat.le_refl _, fun i H' _ w => q H' (e2.trans w)⟩
theorem ev_gxS {z : Str} (h : Ev tl σ H (.str z)) (hT : Tab H P) (ok : okc z.cps.size vals r) (hw : ∀ x, wipe ((wipe σ vs).set j (some x)) vs = wipe σ vs) (he : ∀ (i : Nat) (c : Nat) H1, Ex H H1 → z.cps[i]? = some c → Ev te ((wipe σ vs).set j (some (.str ⟨#[c]⟩))) H1 (vals i)) : Ev (tGX P okc (iStr tl) (gName j) te vs) σ H r := fun H1 e Q q =>
  h H1 e _ fun H2 e2 => ⟨z, rfl, hT.mono (e.trans e2), z.cps.size, vals, r, fun _ H' => Ex H2 H', ok, Ex.refl _, fun i H' hi w => ⟨hi, fun x H3 hy => by
    obtain ⟨rfl, c, hc, rfl⟩ := hy
    exact ⟨hw _, he i c _ ((e.trans e2).trans w) hc _ (Ex.refl _) _ fun H4 e4 => ⟨rfl, w.trans e4⟩⟩⟩, fun H' w => Nat.le_refl _, fun i H' _ w => q H' (e2.trans w)⟩
/-- over zip of two lists -/
theorem ev_gxZ {n : Nat} (h : EvA ta σ H [.ref a, .ref b]) (hx : SqL K H a xs) (hy : SqL K H b ys) (hn : n = min xs.length ys.length) (hT : Tab H P) (ok : okc n vals r) (hw : ∀ x y, wipe (((wipe σ vs).set j (some x)).set j2 (some y)) vs = wipe σ vs)
    (he : ∀ (i : Nat) (x y : V) H1, Ex H H1 → xs[i]? = some x → ys[i]? = some y → Ev te (((wipe σ vs).set j (some x)).set j2 (some y)) H1 (vals i)) : Ev (tGX P okc (iZip K ta) (gTup K 2 (gCons (gName j) (gCons (gName j2) gNil))) te vs) σ H r := fun H1 e Q q =>
  h H1 e _ fun H2 e2 => ⟨a, b, xs, ys, rfl, ex_l (e.trans e2) hx, ex_l (e.trans e2) hy, hT.mono (e.trans e2), n, vals, r, fun _ H' => Ex H2 H', ok, Ex.refl _, fun i H' hi w => ⟨⟨xs, ys, xs[i]'(by omega), ys[i]'(by omega), ex_l ((e.trans e2).trans w) hx, ex_l ((e.trans e2).trans w) hy, List.getElem?_eq_getElem _, List.getElem?_eq_getElem _⟩, fun x H3 hz => by
    obtain ⟨T, x1, y1, rfl, hT1, rfl, h1, h2⟩ := hz
    have e3 := ((e.trans e2).trans w).trans (Ex.new (o := .tup [x1, y1]) hT1)
    refine ⟨T, _, rfl, st_of upd_same, rfl, _, _, rfl, _, _, rfl, rfl, hw x1 y1, ?_⟩
    exact he i x1 y1 _ e3 (h1 xs (ex_l ((e.trans e2).trans w) hx)) (h2 ys (ex_l ((e.trans e2).trans w) hy)) _ (Ex.refl _) _ fun H4 e4 => ⟨rfl, (w.trans (Ex.new hT1)).trans e4⟩⟩, fun H' w => ⟨xs, ys, ex_l ((e.trans e2).trans w) hx, ex_l ((e.trans e2).trans w) hy, by omega⟩, fun i H' _ w => q H' (e2.trans w)⟩
theorem ok_all {n : Nat} (f : Nat → Bool) : okAll n (fun i => .bl (f i)) (.bl (allF n f)) := ⟨f, rfl, rfl⟩
theorem ok_any {n : Nat} (f : Nat → Bool) : okAny n (fun i => .bl (f i)) (.bl (anyF n f)) := ⟨f, rfl, rfl⟩
theorem ok_sum {n : Nat} (f : Nat → Int) (h : ∀ j, j < n → InLong (f j) ∧ InLong (preSum f (j + 1))) : okSum n (fun i => .int (f i)) (.int (preSum f n)) := ⟨f, rfl, rfl, h⟩
theorem ok_max {n : Nat} (f : Nat → Int) (h : 0 < n) : okMax n (fun i => .int (f i)) (.int (topI f (n - 1))) := ⟨f, rfl, rfl, h⟩
/-- sum(a new list of ints) -/
theorem ev_sumN {ns : List Int} (h : EvL te σ H (ns.map V.int)) : Ev (tCB (rSum K) (tCons te tNil)) σ H (.int ns.sum) := fun H1 e Q q =>
  h H1 e _ fun p H2 _ e2 h2 => ⟨p, ns, rfl, sq_of h2, q H2 e2⟩
end
end LV
namespace LV
open PySem PySem.Spec PyProof.Rows L2 Evl LT LG LH LP StX
section
variable {K : PySem.W.Frag} {σ : L2.St} {H H' : Hp} {tl te ta tb : TE} {t : TA} {p l : Addr} {xs ys : List V} {v : V} {D : Ends} {tz : TS}
theorem ea_starT (h : Ev te σ H (.ref p)) (hx : SqT K H p xs) (hr : EvA t σ H ys) : EvA (tStar K te t) σ H (xs ++ ys) := fun H1 e Q q =>
  h H1 e _ fun H2 e2 => ⟨p, xs, rfl, .inl (ex_t (e.trans e2) hx), hr H2 (e.trans e2) _ fun H3 e3 => q H3 (e2.trans e3)⟩
theorem ea_starN (h : EvL te σ H xs) (hr : EvA t σ H ys) : EvA (tStar K te t) σ H (xs ++ ys) := fun H1 e Q q =>
  h H1 e _ fun p H2 _ e2 h2 => ⟨p, xs, rfl, .inr (sq_of h2), hr H2 (e.trans e2) _ fun H3 e3 => q H3 (e2.trans e3)⟩
theorem cut_mid (xs : List V) {i j : Nat} (h : i ≤ j) (hj : j ≤ xs.length) : cutV xs (some (i : Int)) (some (j : Int)) = (xs.drop i).take (j - i) := by
  unfold cutV
  rw [HT.sIx_nat, HT.sIx_nat]; try rw [show min j xs.length = j from Nat.min_eq_left hj]
  rw [show min i xs.length = i from Nat.min_eq_left (Nat.le_trans h hj)]
/-- xs[i] of a new list -/
theorem ev_ixN {i : Int} (ha : EvL ta σ H xs) (hb : ∀ H1, Ex H H1 → Ev tb σ H1 (.int i)) (h : atI xs i = some v) : Ev (tOp (rIxL K) ta tb) σ H v := ev_opL1 ha hb fun p H1 h1 _ => rv_ixL (sq_of h1) h
/-- tuple(a list that stands or is new) is eu_tupL; of a tuple: the same -/
theorem ev_tupT (h : Ev te σ H (.ref p)) (hx : SqT K H p xs) : Ev (tCB (fun zs H Q => ∃ p ys, zs = [.ref p] ∧ ((SqL K H p ys ∧ ∀ l, H l = none → Q (.ref l) (upd H l (.tup ys))) ∨ (SqT K H p ys ∧ Q (.ref p) H))) (tCons te tNil)) σ H (.ref p) := fun H1 e Q q =>
  h H1 e _ fun H2 e2 => ⟨p, xs, rfl, .inr ⟨ex_t (e.trans e2) hx, q H2 e2⟩⟩
theorem ev_lenL (ha : Ev te σ H (.ref p)) (h : H p = some (.lst xs)) : Ev (tCB (rLenS K) (tCons te tNil)) σ H (.int (xs.length : Int)) := ev_len ha (sq_of h)
/-- a tuple made of a new tuple and .. -/
theorem q_appUL {ys : List V} (hl : H l = some (.lst xs)) (ha : Ev ta σ H (.ref l)) (h : EvU te σ H ys) (hz : xs.length < 100000) (k : ∀ p H1, H p = none → Ex H H1 → H1 p = some (.tup ys) → tz D σ (upd H1 l (.lst (xs ++ [.ref p])))) :
    tSeq (tDrop (tBM K "list" rAppend ta (tCons te tNil))) tz D σ H := q_appU hl ha h hz k
end
/-! ### heaps in which one object may change -/
def Bx (p : Addr) (H H' : Hp) : Prop := ∀ a o, a ≠ p → H a = some o → H' a = some o
theorem Bx.of {p : Addr} {H H' : Hp} (e : Ex H H') : Bx p H H' := fun a o _ h => e a o h
theorem Bx.trans {p : Addr} {H H1 H2 : Hp} (e : Bx p H H1) (f : Bx p H1 H2) : Bx p H H2 := fun a o n h => f a o n (e a o n h)
theorem Bx.up {p : Addr} {H H' : Hp} {o : HO} (e : Bx p H H') : Bx p H (upd H' p o) := fun a u n h => by
  rw [upd_ne n]
  exact e a u n h
theorem Bx.ex {p : Addr} {H0 H H' : Hp} (e : Ex H0 H) (f : Bx p H H') (n : H0 p = none) : Ex H0 H' := fun a o h => f a o (fun z => by rw [z, n] at h; cases h) (e a o h)
theorem Bx.back {p q : Addr} {H H' : Hp} (e : Bx p H H') (n : q ≠ p) (h : H' q = none) : H q = none := by
  cases h1 : H q with
  | none => rfl
  | some o =>
    rw [e q o n h1] at h
    cases h
end LV
namespace LV
open PySem PySem.Spec PyProof.Rows L2 Evl LT LG LH LP StX
section
variable {σ : L2.St} {H : Hp} {t1 t2 te : TE} {v1 v2 : V} {xs ys : List V} {sp : Sp} {E : XK} {D : Ends} {tz : TS}
/-- x = f(e, a new list) -/
theorem q_call2L {i : Nat} (h1 : Ev t1 σ H v1) (h2 : EvL te σ H xs) (k : ∀ c H1, H c = none → Ex H H1 → H1 c = some (.lst xs) → sp [v1, .ref c] H1 (fun v H2 => tz D (σ.set i (some v)) H2) E) : tSeq (tAsg (tCall sp [] E (tCons t1 (tCons te tNil))) (gName i)) tz D σ H :=
  h1 H (Ex.refl _) _ fun H1 e1 => h2 H1 e1 _ fun c H2 hc e2 h3 => k c H2 (fresh_back e1 hc) (e1.trans e2) h3
theorem ev_is' (h : EvU te σ H xs) (e : xs = ys) : EvU te σ H ys := by
  rw [← e]
  exact h
end
end LV
namespace LV
open PySem PySem.Spec PyProof.Rows L2 Evl LT LG LH LP StX
/-! ### a heap without some of its objects -/
def frz (S : List Addr) (H : Hp) : Hp := fun a => if a ∈ S then none else H a
theorem frz_ne {S : List Addr} {H : Hp} {a : Addr} (h : a ∉ S) : frz S H a = H a := if_neg h
theorem frz_upd {S : List Addr} {H : Hp} {a : Addr} {o : HO} (h : a ∈ S) : frz S (upd H a o) = frz S H := funext fun b => by
  unfold frz
  by_cases hb : b ∈ S
  · rw [if_pos hb, if_pos hb]
  · rw [if_neg hb, if_neg hb, upd_ne fun z => hb (by rw [z]; exact h)]
theorem frz_ex {S : List Addr} {H : Hp} : Ex (frz S H) H := fun a o h => by
  unfold frz at h
  by_cases hb : a ∈ S
  · rw [if_pos hb] at h
    cases h
  · rw [if_neg hb] at h
    exact h
theorem ex_frz {S : List Addr} {H H' : Hp} (e : Ex H H') : Ex (frz S H) (frz S H') := fun a o h => by
  unfold frz at h ⊢
  by_cases hb : a ∈ S
  · rw [if_pos hb] at h
    cases h
  · rw [if_neg hb] at h ⊢
    exact e _ _ h
theorem frz_some {S : List Addr} {H : Hp} {a : Addr} {o : HO} (h : frz S H a = some o) : a ∉ S ∧ H a = some o := by
  unfold frz at h
  by_cases hb : a ∈ S
  · rw [if_pos hb] at h
    cases h
  · rw [if_neg hb] at h
    exact ⟨hb, h⟩
theorem Bx.mut {p w : Addr} {H H' : Hp} {o : HO} (e : Bx p H H') (h : H w = none) : Bx p H (upd H' w o) := fun a u n ha => by
  rw [upd_ne fun z => by rw [z, h] at ha; cases ha]
  exact e a u n ha
theorem Bx.l {K : PySem.W.Frag} {p a : Addr} {H H' : Hp} {xs : List V} (e : Bx p H H') (n : a ≠ p) (h : SqL K H a xs) : SqL K H' a xs := by
  rcases h with (h | ⟨o, h⟩) | h
  · exact .inl (.inl (e _ _ n h))
  · exact .inl (.inr ⟨o, e _ _ n h⟩)
  · exact .inr h
end LV
namespace LV
open PySem PySem.Spec PyProof.Rows L2 Evl LT LG LH LP StX
/-- what a for over the list a asks -/
abbrev FB (K : PySem.W.Frag) (a : Addr) (g : TG) (tb : TS) (D : Ends) (σ : L2.St) (H : Hp) : Prop := ∃ W : Nat → Nat → L2.St → Hp → Prop, (∃ m, W 0 m σ H) ∧ ∀ i m σ H, W i m σ H →
  ((Itl K a).stop i H ∧ D.nx σ H) ∨ ((Itl K a).go i H ∧ ∃ N : L2.St → Hp → Prop, (∀ σ' H', N σ' H' → ∃ m', m' < m ∧ W (i + 1) m' σ' H') ∧ ∀ x H', (Itl K a).yld i H x H' → g x σ H' fun σ2 H2 => tb { D with nx := N, ct := N, bk := D.nx } σ2 H2)
/-- for .. in f(..): the call makes a list -/
theorem s_forCall {K : PySem.W.Frag} {σ : L2.St} {H : Hp} {g : TG} {tb : TS} {D : Ends} {sp : Sp} {E : XK} {tr : TA} {vs : List V} (h : EvA tr σ H vs) (k : ∀ H1, Ex H H1 → sp vs H1 (fun x H2 => ∃ a, x = V.ref a ∧ (∃ xs, SqL K H2 a xs) ∧ FB K a g tb D σ H2) E) : tFor (iList K (tCall sp [] E tr)) g tb D σ H :=
  h H (Ex.refl _) _ fun H1 e1 => by
    rw [List.append_nil]
    exact k H1 e1
theorem q_forCall {K : PySem.W.Frag} {σ : L2.St} {H : Hp} {g : TG} {tb tz : TS} {D : Ends} {sp : Sp} {E : XK} {tr : TA} {vs : List V} (h : EvA tr σ H vs) (k : ∀ H1, Ex H H1 → sp vs H1 (fun x H2 => ∃ a, x = V.ref a ∧ (∃ xs, SqL K H2 a xs) ∧ FB K a g tb { D with nx := tz D } σ H2) E) : tSeq (tFor (iList K (tCall sp [] E tr)) g tb) tz D σ H := s_forCall (D := { D with nx := tz D }) h k
end LV

set_option Elab.async false
set_option linter.all false
set_option maxRecDepth 100000
set_option maxHeartbeats 4000000
namespace HE
open PySem PySem.Spec PyProof.Rows L2 Evl LT
/-! ### the head by facts: defs, their code objects, the walk's end -/
theorem fun_of {K : PySem.W.Frag} {x qual : Str} {st : Stmt} {f : Addr} {fd : FuncData} (F : FunD K x qual (defArgs st) (defBody st) (defScope st) [] [] f fd) : Fun K x qual st f fd := by
  obtain ⟨oc, od, dV, kV, doc, pm, an, cdv, ct, osl, rfl, lk, hcd, hd, _⟩ := F.ex
  have e : dV = .none := by
    rcases hd with ⟨_, h⟩ | ⟨h, _⟩
    · exact h
    · exact absurd rfl h
  subst e
  exact ⟨⟨oc, od, kV, doc, pm, an, cdv, ct, osl, rfl, lk, hcd⟩, F.kp⟩
theorem funC_of {K : PySem.W.Frag} {x qual : Str} {st : Stmt} {p : He.Defn} {fd : FuncData} (F : Fun K x qual st (He.fAd K p) fd) : LS.FunC K x qual st (He.fAd K p) fd (He.codeOf K p) := by
  obtain ⟨oc, od, kV, doc, pm, an, cdv, ct, osl, rfl, lk, hcd⟩ := F.ex
  obtain ⟨c, rfl⟩ := He.codeIn_ref hcd
  have e : He.codeOf K p = c := He.codeOf_eq lk rfl
  rw [e]
  exact ⟨⟨oc, od, kV, doc, pm, an, ct, osl, rfl, lk, hcd⟩, F.kp⟩
/-- what the Bool ex tells of the classes -/
def eqS (a b : Option (Option Value)) : Bool := decide (a = b)
theorem eqS_ok {a b : Option (Option Value)} (h : eqS a b = true) : a = b := of_decide_eq_true h
def dictC (K : PySem.W.Frag) (x : Str) : Bool := PySem.W.hasDictIn K (He.ga K x)
def subC (K : PySem.W.Frag) (x y : Str) (b : Bool) : Bool := decide (PySem.W.subIn K (.ref (He.ga K x)) (.ref (He.ga K y)) = some b)
theorem subC_ok {K : PySem.W.Frag} {x y : Str} {b : Bool} (h : subC K x y b = true) : PySem.W.subIn K (.ref (He.ga K x)) (.ref (He.ga K y)) = some b := of_decide_eq_true h
def excC (K : PySem.W.Frag) (x : Str) : Bool := eqS (PySem.W.findIn K (.ref (He.ga K x)) "__getattribute__") (some (some (.builtin "BaseException.__getattribute__"))) && (eqS (PySem.W.findIn K (.ref (He.ga K x)) "__getattr__") (some none) &&
  (decide (PySem.W.subIn K (.ref (He.ga K x)) (.type "BaseException") = some true) && (PySem.W.hasDictIn K (He.ga K x) && (eqS (PySem.W.findIn K (.ref (He.ga K x)) "__class__") (some (some (.builtin "object.__class__"))) &&
  (eqS (PySem.W.specialIn K (.builtin "object.__class__") "__get__") (some (some (.builtin "getset_descriptor.__get__"))) && (decide (PySem.W.takesIn K (.builtin "object.__class__") = some true) && decide (PySem.W.mroIn K (He.ga K x) (.type "object") = some true)))))))
theorem excC_ok {K : PySem.W.Frag} {x : Str} (h : excC K x = true) : ExcC K (He.ga K x) := by
  obtain ⟨h1, h⟩ := He.ba h
  obtain ⟨h2, h⟩ := He.ba h
  obtain ⟨h3, h⟩ := He.ba h
  obtain ⟨h4, h⟩ := He.ba h
  obtain ⟨h5, h⟩ := He.ba h
  obtain ⟨h6, h⟩ := He.ba h
  obtain ⟨h7, h8⟩ := He.ba h
  exact ⟨eqS_ok h1, eqS_ok h2, of_decide_eq_true h3, h4, eqS_ok h5, eqS_ok h6, of_decide_eq_true h7, of_decide_eq_true h8⟩
theorem xc_of {K : PySem.W.Frag} {h : Heap} {mg : Str → Option Value} {x : Str} (X : K.In h) (G : h.Ns mainGlobals mg) (g : (He.Fa.glo x).ok K = true) (c : (He.Fa.exc x).ok K = true) (d : dictC K x = true) : LX.Xc K mg x (He.ga K x) := by
  obtain ⟨h1, h2, h3, h4⟩ := He.exc_ok c
  exact ⟨He.glo_ok X G g, h1, h2, h3, h4, d⟩
theorem binds1 {K : PySem.W.Frag} {x qual y : Str} {st : Stmt} {f : Addr} {fd : FuncData} (F : Fun K x qual st f fd) (h : ∀ (kV doc pm : Value) (an : Option Addr) (cdv ct : Value) (u : Value), bindArgs (PySem.W.fnOf x qual (defArgs st) (defBody st) (defScope st) .none kV doc pm an cdv ct) ⟨[u], []⟩ = pure [(y, u)]) (s : Shared) (u : Value) : BindsTo s fd ⟨[u], []⟩ [(y, u)] := by
  obtain ⟨oc, od, kV, doc, pm, an, cdv, ct, osl, rfl, lk, hcd⟩ := F.ex
  exact .of_eq (h kV doc pm an cdv ct u)
/-- the walk, tables of any defs (methods too) -/
theorem walk_facts {l : PySem.W.OpenLaw} {n k : Nat} {q : Program} {loose : List Str} {XP : (Str → Option Value) → Heap → Prop} {YP : World → Heap → Prop} {d : DefRec} {x : Str}
    (hn : l.most = some n) (hn2 : n ≤ sizeLine) (hdf : d.params.defaults = []) (hr : Room k callerA)
    (F : ∀ (w : World) (mg : Str → Option Value) (fa : Addr) (h : Heap), YP w h → h.Ns mainGlobals mg → mg d.name = some (.ref fa) →
      ∃ (K : PySem.W.Frag) (fd : FuncData) (cs : List (Addr × Addr)) (sp : Sp), K.In h ∧ (∀ p ∈ cs, h.get? p.2 = some { cls := .none, data := .fields #[] } ∧ K.lookup p.2 = none ∧ PySem.W.CodeHd h p.1 p.2) ∧ (∀ (s : Shared) (u : Value), BindsTo s fd ⟨[u], []⟩ [(x, u)]) ∧
        (∀ (H : Hp) (a : Addr) (ns : List Int), ns.length ≤ n → (∀ p ∈ cs, Tab H p.2) → SqL K H a (ns.map V.int) → ∀ Q : VK, (∀ H', Ex H H' → Q (.bl true) H') → sp [.ref a] H Q fun _ _ _ => False) ∧
        ∀ base : Heap, K.In base → base.Ns mainGlobals mg → (∀ p ∈ cs, LamX.TabB base mg p.1 p.2) → FnOk l.prog w K mg base CX0 k fa fd [x] sp) :
    PySem.W.WalkO q loose XP YP l.row.toRowW d [] (fun f vs => PySem.call f vs) := by
  refine LamX.walk_ofTsE (x := x) (CX := fun _ => CX0) hn hn2 hdf hr (fun w mg fa h Y G hmg => ?_) (fun _ _ _ _ _ z => z)
  obtain ⟨K, fd, cs, sp, KX, hcs, hb, hsp, hF⟩ := F w mg fa h Y G hmg
  refine ⟨K, KX, fd, cs, spExt (cs.map fun p => p.2) sp, fun p hp => (hcs p hp).1, fun p hp => (hcs p hp).2.1, fun p hp => (hcs p hp).2.2, hb, fun H a ns hlen _ hH hS => ⟨fun b hb => ?_, ?_⟩, fun base h1 h2 h3 => ok_ext (hF base h1 h2 h3)⟩
  · obtain ⟨p, hp, rfl⟩ := List.mem_map.mp hb
    exact hH p hp
  · have hnt : ∀ p ∈ cs, extH (cs.map fun p => p.2) H p.2 = some (.ext (TabPhi p.2)) := fun p hp => extH_in (List.mem_map.mpr ⟨p, hp, rfl⟩)
    refine hsp _ a ns hlen hnt ?_ _ fun H' e => ⟨fun b hb => ?_, fun _ => rfl⟩
    · have out : ∀ {u : HO}, H a = some u → (∀ ts, u ≠ .tbl ts) → extH (cs.map fun p => p.2) H a = some u := fun {u} h1 h2 => by
        rw [extH_out fun hb => ?_]
        · exact h1
        · obtain ⟨p, hp, e⟩ := List.mem_map.mp hb
          have := hH p hp
          have e : p.2 = a := e
          rw [e, h1] at this
          cases this
          exact h2 _ rfl
      rcases hS with (h1 | ⟨o, h1⟩) | h1
      · exact .inl (.inl (out h1 fun _ z => by cases z))
      · exact .inl (.inr ⟨o, out h1 fun _ z => by cases z⟩)
      · exact .inr h1
    · obtain ⟨p, hp, rfl⟩ := List.mem_map.mp hb
      exact e _ _ (hnt p hp)
end HE

set_option Elab.async false
set_option linter.all false
set_option maxRecDepth 100000
set_option maxHeartbeats 4000000
namespace LK
open PySem PySem.Spec PyProof.Rows L2 Evl

/-! ### data that == serves -/
def Sh (n : Nat) (d : PyData) : Prop := d.canLay0 = true ∧ d.depth ≤ n
theorem sh_int (i : Int) (n : Nat := 0) : Sh n (.int i) := ⟨by simp [PyData.canLay0], by simp [PyData.depth]⟩
theorem sh_bool (b : Bool) (n : Nat := 0) : Sh n (.bool b) := ⟨by simp [PyData.canLay0], by simp [PyData.depth]⟩
theorem sh_none (n : Nat := 0) : Sh n .none := ⟨by simp [PyData.canLay0], by simp [PyData.depth]⟩
theorem sh_all {n : Nat} : ∀ {ds : List PyData}, (∀ d ∈ ds, Sh n d) → PyData.canLayAll0 ds = true ∧ PyData.depthAll ds ≤ n
  | [], _ => ⟨by simp [PyData.canLayAll0], by simp [PyData.depthAll]⟩
  | d :: ds, h => by
    obtain ⟨h1, h2⟩ := h d List.mem_cons_self
    obtain ⟨h3, h4⟩ := sh_all fun e he => h e (List.mem_cons_of_mem _ he)
    refine ⟨?_, ?_⟩
    · rw [PyData.canLayAll0, h1, h3]
      rfl
    · rw [PyData.depthAll]
      omega
theorem sh_tup {n : Nat} {ds : List PyData} (h : ∀ d ∈ ds, Sh n d) : Sh (n + 1) (.tuple ds) := by
  obtain ⟨h1, h2⟩ := sh_all h
  refine ⟨?_, ?_⟩
  · rw [PyData.canLay0]
    exact h1
  · rw [PyData.depth]
    omega
theorem sh_lst {n : Nat} {ds : List PyData} (h : ∀ d ∈ ds, Sh n d) : Sh (n + 1) (.list ds) := by
  obtain ⟨h1, h2⟩ := sh_all h
  refine ⟨?_, ?_⟩
  · rw [PyData.canLay0]
    exact h1
  · rw [PyData.depth]
    omega
theorem Sh.up {n m : Nat} {d : PyData} (h : Sh n d) (e : n ≤ m) : Sh m d := ⟨h.1, Nat.le_trans h.2 e⟩
theorem Sh.shaped {n : Nat} {d : PyData} (h : Sh n d) (e : n ≤ 64) : SeqAt.shaped d = true := by
  unfold SeqAt.shaped
  rw [h.1, decide_eq_true (Nat.le_trans h.2 e)]
  rfl
theorem Sh.refl {n : Nat} {d : PyData} (h : Sh n d) : PyData.eqv d d = true := SeqAt.eqv_refl d h.1
theorem sh_ints (ns : List Int) : ∀ d ∈ ns.map PyData.int, Sh 0 d := fun d hd => by
  obtain ⟨i, _, rfl⟩ := List.mem_map.mp hd
  exact sh_int i
section
variable {K : PySem.W.Frag} {H H' : Hp}
theorem dp_ints : ∀ ns : List Int, DpAll K H (ns.map V.int) (ns.map PyData.int)
  | [] => .nil
  | n :: r => .cons (.int n) (dp_ints r)
mutual
theorem dp_mono (e : Ex H H') : ∀ {v : V} (d : PyData), Dp K H v d → Dp K H' v d
  | _, .none, h => by cases h; exact .non
  | _, .bool b, h => by cases h; exact .bl b
  | _, .int i, h => by cases h; exact .int i
  | _, .str x, h => by cases h; exact .str x
  | _, .list ds, h => by
    cases h with
    | lst h1 h2 => exact .lst (ex_l e h1) (dpa_mono e ds h2)
  | _, .tuple ds, h => by
    cases h with
    | tup h1 h2 => exact .tup (ex_t e h1) (dpa_mono e ds h2)
  | _, .dict _, h => by cases h
theorem dpa_mono (e : Ex H H') : ∀ {vs : List V} (ds : List PyData), DpAll K H vs ds → DpAll K H' vs ds
  | _, [], h => by cases h; exact .nil
  | _, d :: ds, h => by
    cases h with
    | cons h1 h2 => exact .cons (dp_mono e d h1) (dpa_mono e ds h2)
end
/-- two values of the same data: == True, != False -/
theorem rv_eqD {x y : V} {d : PyData} {n : Nat} (hx : Dp K H x d) (hy : Dp K H y d) (s : Sh n d) (hn : n ≤ 64) : RV (rEqD K) x y H (.bl true) := rv_val fun H1 e Q q =>
  ⟨d, d, dp_mono e d hx, dp_mono e d hy, s.shaped hn, s.shaped hn, by rw [s.refl]; exact q⟩
theorem rv_neD {x y : V} {d : PyData} {n : Nat} (hx : Dp K H x d) (hy : Dp K H y d) (s : Sh n d) (hn : n ≤ 64) : RV (rNeD K) x y H (.bl false) := rv_val fun H1 e Q q =>
  ⟨d, d, dp_mono e d hx, dp_mono e d hy, s.shaped hn, s.shaped hn, by rw [s.refl]; exact q⟩
/-- of any two data -/
theorem rv_neDD {x y : V} {d f : PyData} {n : Nat} (hx : Dp K H x d) (hy : Dp K H y f) (s : Sh n d) (s' : Sh n f) (hn : n ≤ 64) : RV (rNeD K) x y H (.bl (!PyData.eqv d f)) := rv_val fun H1 e Q q =>
  ⟨d, f, dp_mono e d hx, dp_mono e f hy, s.shaped hn, s'.shaped hn, q⟩
theorem rv_eqDD {x y : V} {d f : PyData} {n : Nat} (hx : Dp K H x d) (hy : Dp K H y f) (s : Sh n d) (s' : Sh n f) (hn : n ≤ 64) : RV (rEqD K) x y H (.bl (PyData.eqv d f)) := rv_val fun H1 e Q q =>
  ⟨d, f, dp_mono e d hx, dp_mono e f hy, s.shaped hn, s'.shaped hn, q⟩
theorem rv_ltT {a b : Addr} {ns ms : List Int} (ha : SqT K H a (ns.map V.int)) (hb : SqT K H b (ms.map V.int)) : RV (rLtT K) (.ref a) (.ref b) H (.bl (HT.lexLt ns ms)) := rv_val fun H1 e Q q =>
  ⟨a, b, ns, ms, rfl, rfl, ex_t e ha, ex_t e hb, q⟩
def leV (ns ms : List Int) : Bool := Ob.lexAt (fun j => decide (ns.getD j 0 = ms.getD j 0)) (fun j => decide (ns.getD j 0 ≤ ms.getD j 0)) (decide (ns.length ≤ ms.length)) 0 (min ns.length ms.length)
theorem rv_leT {a b : Addr} {ns ms : List Int} (ha : SqT K H a (ns.map V.int)) (hb : SqT K H b (ms.map V.int)) : RV (rLeT K) (.ref a) (.ref b) H (.bl (leV ns ms)) := rv_val fun H1 e Q q =>
  ⟨a, b, ns, ms, rfl, rfl, ex_t e ha, ex_t e hb, q⟩

/-! ### reading a cell of the script -/
def cellv (ns : List Int) (k : Nat) : Int := ns.getD k 0
theorem cellv_in {ns : List Int} {k : Nat} (hk : k < ns.length) : (ns.map V.int)[k]? = some (.int (cellv ns k)) := by
  rw [List.getElem?_map, List.getElem?_eq_getElem hk]
  unfold cellv
  rw [List.getD_eq_getElem?_getD, List.getElem?_eq_getElem hk]
  rfl
theorem cellv_out {ns : List Int} {k : Nat} (hk : ns.length ≤ k) : cellv ns k = 0 := by
  unfold cellv
  rw [List.getD_eq_getElem?_getD, List.getElem?_eq_none hk]
  rfl
def spCel (K : PySem.W.Frag) : Sp := fun vs H Q _ => ∃ (a : Addr) (ns : List Int) (k : Nat), vs = [.ref a, .int (k : Int)] ∧ SqL K H a (ns.map V.int) ∧ RetV (.int (cellv ns k)) H Q
theorem sv_cell {a : Addr} {ns : List Int} {k : Nat} {z : Int} (h : SqL K H a (ns.map V.int)) (e : z = (k : Int)) : SpV (spCel K) [.ref a, .int z] H (.int (cellv ns k)) := fun H1 e1 Q q E =>
  ⟨a, ns, k, by rw [e], ex_l e1 h, fun H2 e2 => q H2 e2⟩
end
end LK

namespace K70
open PySem PySem.Spec PyProof.Rows L2 Evl LK LT LG LS LQ LX LO LN LP LH LV StX
structure Txt (mg : Str → Option Value) (K : PySem.W.Frag) (C : Addr) : Prop where
  len : mg "len" = none
  range : mg "range" = none
  tuple : mg "tuple" = none
  list : mg "list" = none
  isinstance : mg "isinstance" = none
  int : mg "int" = none
  bool : mg "bool" = none
  min : mg "min" = none
  sum : mg "sum" = none
  gGROUP_WORDS : ∃ t, mg "GROUP_WORDS" = some (.int 4 t)
  gFIRST_SECTOR : ∃ t, mg "FIRST_SECTOR" = some (.int 4 t)
  gLOG_SECTORS : ∃ t, mg "LOG_SECTORS" = some (.int 16 t)
  cl : Cls K C
  nG : NoAttr K C "generation"
  nS : NoAttr K C "next_sector"
  nR : NoAttr K C "next_record"
  mgL : mg "Log" = some (.ref C)
def top (i : Nat) : Stmt := PySem.Challenge.pw_laminae_k70_room_of_the_log.main.body.getD i (.Pass ⟨0, 0, 0, 0⟩)
abbrev sPf : Stmt := top 7
theorem scPf : FnScope ["many"] ["many"] (defScope sPf) := ⟨rfl, rfl, rfl, by decide +kernel, rfl, by decide +kernel, by decide +kernel⟩
abbrev sSo : Stmt := top 8
theorem scSo : FnScope ["intent"] ["intent"] (defScope sSo) := ⟨rfl, rfl, rfl, by decide +kernel, rfl, by decide +kernel, by decide +kernel⟩
abbrev sRs : Stmt := top 9
theorem scRs : FnScope ["intent", "record", "generation", "parts", "words", "padded", "sectors", "part", "start"] ["intent", "record", "generation"] (defScope sRs) := ⟨rfl, rfl, rfl, by decide +kernel, rfl, by decide +kernel, by decide +kernel⟩
abbrev sInit : Stmt := inClass (top 10) 0
theorem scInit : FnScope ["self", "generation"] ["self", "generation"] (defScope sInit) := ⟨rfl, rfl, rfl, by decide +kernel, rfl, by decide +kernel, by decide +kernel⟩
abbrev sFits : Stmt := inClass (top 10) 1
theorem scFits : FnScope ["self", "intents", "intent"] ["self", "intents"] (defScope sFits) := ⟨rfl, rfl, rfl, by decide +kernel, rfl, by decide +kernel, by decide +kernel⟩
abbrev sApp : Stmt := inClass (top 10) 2
theorem scApp : FnScope ["self", "intents", "writes", "intent", "words"] ["self", "intents"] (defScope sApp) := ⟨rfl, rfl, rfl, by decide +kernel, rfl, by decide +kernel, by decide +kernel⟩
abbrev sCl : Stmt := top 12
theorem scCl : FnScope ["script", "k"] ["script", "k"] (defScope sCl) := ⟨rfl, rfl, rfl, by decide +kernel, rfl, by decide +kernel, by decide +kernel⟩
abbrev sDg : Stmt := top 13
theorem scDg : FnScope ["cell", "bases", "digits", "rest", "base", "mixed"] ["cell", "bases"] (defScope sDg) := ⟨rfl, rfl, rfl, by decide +kernel, rfl, by decide +kernel, by decide +kernel⟩
abbrev sCe : Stmt := top 14
theorem scCe : FnScope ["row", "size", "value"] ["row", "size"] (defScope sCe) := ⟨rfl, rfl, rfl, by decide +kernel, rfl, by decide +kernel, by decide +kernel⟩
abbrev sIn : Stmt := top 15
theorem scIn : FnScope ["cell", "most", "digits", "words", "kind", "inode", "other", "main", "size", "cells", "k"] ["cell", "most"] (defScope sIn) := ⟨rfl, rfl, rfl, by decide +kernel, rfl, by decide +kernel, by decide +kernel⟩
abbrev sAp : Stmt := top 16
theorem scAp : FnScope ["log", "intents", "error"] ["log", "intents"] (defScope sAp) := ⟨rfl, rfl, rfl, by decide +kernel, rfl, by decide +kernel, by decide +kernel⟩
abbrev sWr : Stmt := top 17
theorem scWr : FnScope ["intents", "sector", "record", "generation", "writes", "intent", "words"] ["intents", "sector", "record", "generation"] (defScope sWr) := ⟨rfl, rfl, rfl, by decide +kernel, rfl, by decide +kernel, by decide +kernel⟩
abbrev sSa : Stmt := top 18
theorem scSa : FnScope ["told", "due", "k"] ["told", "due"] (defScope sSa) := ⟨rfl, rfl, rfl, by decide +kernel, rfl, by decide +kernel, by decide +kernel⟩
abbrev sLaw : Stmt := top 19
theorem scLaw : FnScope ["script", "generation", "log", "sector", "record", "k", "cell", "most", "intents", "passed", "needed", "fits", "told", "n", "intent"] ["script"] (defScope sLaw) := ⟨rfl, rfl, rfl, by decide +kernel, rfl, by decide +kernel, by decide +kernel⟩
/-! ### values of a known kind -/
inductive Kd (H : Hp) : V → String → Prop
  | non : Kd H .non "NoneType"
  | bl (b : Bool) : Kd H (.bl b) "bool"
  | int (i : Int) : Kd H (.int i) "int"
  | str (z : Str) : Kd H (.str z) "str"
  | lst {a : Addr} {xs : List V} (h : H a = some (.lst xs)) : Kd H (.ref a) "list"
  | tup {a : Addr} {xs : List V} (h : H a = some (.tup xs)) : Kd H (.ref a) "tuple"
theorem Kd.mono {H H' : Hp} {v : V} {n : String} (e : Ex H H') : Kd H v n → Kd H' v n
  | .non => .non
  | .bl b => .bl b
  | .int i => .int i
  | .str z => .str z
  | .lst h => .lst (e _ _ h)
  | .tup h => .tup (e _ _ h)
theorem Kd.ty {K : PySem.W.Frag} {H : Hp} {v : V} {n : String} : Kd H v n → TyOf K H v (.type n)
  | .non => .non
  | .bl b => .bl b
  | .int i => .int i
  | .str z => .str z
  | .lst h => .lst h
  | .tup h => .tup h
theorem Kd.no {H : Hp} {v : V} {n : String} (k : Kd H v n) : ∀ a C dx fs, H a = some (.ins C dx fs) → v ≠ .ref a := fun a C dx fs h e => by
  cases k with
  | lst h2 =>
    cases e
    rw [h] at h2
    cases h2
  | tup h2 =>
    cases e
    rw [h] at h2
    cases h2
  | _ => cases e
def wd : V → Bool
  | .int i => decide (0 ≤ i)
  | _ => false
/-- isinstance(v, int), isinstance(v, bool) -/
def kInt (n : String) : Bool := n == "int" || n == "bool"
theorem kd_int {K : PySem.W.Frag} {H : Hp} {v : V} {n : String} (k : Kd H v n) : PySem.W.kitOne K (.type n) (.type "int") = some (kInt n) := by
  cases k <;> exact kit_ty rfl
theorem kd_bool {K : PySem.W.Frag} {H : Hp} {v : V} {n : String} (k : Kd H v n) : PySem.W.kitOne K (.type n) (.type "bool") = some (n == "bool") := by
  cases k <;> exact kit_ty rfl
theorem kd_list {K : PySem.W.Frag} {H : Hp} {v : V} {n : String} (k : Kd H v n) : PySem.W.kitOne K (.type n) (.type "list") = some (n == "list") := by
  cases k <;> exact kit_ty rfl
theorem kd_tuple {K : PySem.W.Frag} {H : Hp} {v : V} {n : String} (k : Kd H v n) : PySem.W.kitOne K (.type n) (.type "tuple") = some (n == "tuple") := by
  cases k <;> exact kit_ty rfl
theorem kd_str {K : PySem.W.Frag} {H : Hp} {v : V} {n : String} (k : Kd H v n) : PySem.W.kitOne K (.type n) (.type "str") = some (n == "str") := by
  cases k <;> exact kit_ty rfl
section
variable {K : PySem.W.Frag} {σ : L2.St} {H : Hp} {ta tb : TE} {v : V}
theorem ev_isk {n m : String} {b : Bool} (h : Ev ta σ H v) (hn : Ev tb σ H (.ty m)) (k : Kd H v n) (hk : PySem.W.kitOne K (.type n) (.type m) = some b) : Ev (tCB (rIsi K) (tCons ta (tCons tb tNil))) σ H (.bl b) := ev_isi h hn (fun H1 e => .base (k.mono e).ty) hk
end
def spIw : Sp := fun vs H Q _ => ∃ (v : V) (n : String), vs = [v] ∧ Kd H v n ∧ RetV (.bl (wd v)) H Q
theorem sv_iw {v : V} {n : String} {H : Hp} (k : Kd H v n) : SpV spIw [v] H (.bl (wd v)) := fun H1 e Q q E => ⟨v, n, rfl, k.mono e, q⟩

/-! ### the rows of a record -/
def pI (n : Nat) : Int := ((n : Int) + 4) / 4
def padI (ys : List Int) : List Int := ((ys.length : Int) :: ys) ++ List.replicate (4 * pI ys.length - ((ys.length : Int) + 1)).toNat 0
def rowI (ys : List Int) (r g : Int) (i : Nat) : List Int := r :: (i : Int) :: pI ys.length :: (((padI ys).drop (4 * i)).take 4 ++ [g])
def rowsI (ys : List Int) (r g : Int) : List (List Int) := (List.range (pI ys.length).toNat).map (rowI ys r g)
theorem pI_pos (n : Nat) : 1 ≤ pI n := by unfold pI; omega
theorem pI_le {n : Nat} (h : n ≤ 90) : pI n ≤ 23 := by unfold pI; omega
theorem pad_len (ys : List Int) : ((padI ys).length : Int) = 4 * pI ys.length := by
  unfold padI
  rw [List.length_append, List.length_cons, List.length_replicate]
  unfold pI
  omega
theorem row_len {ys : List Int} {r g : Int} {i : Nat} (h : (i : Int) < pI ys.length) : (rowI ys r g i).length = 8 := by
  unfold rowI
  have := pad_len ys
  simp only [List.length_cons, List.length_append, List.length_take, List.length_drop, List.length_nil]
  omega
theorem rows_at {ys : List Int} {r g : Int} {i : Nat} {row : List Int} (h : (rowsI ys r g)[i]? = some row) : (i : Int) < pI ys.length ∧ row = rowI ys r g i := by
  unfold rowsI at h
  rw [List.getElem?_map] at h
  obtain ⟨j, hj, rfl⟩ := Option.map_eq_some_iff.mp h
  obtain ⟨hl, he⟩ := List.getElem?_eq_some_iff.mp hj
  rw [List.getElem_range] at he
  subst he
  rw [List.length_range] at hl
  have := pI_pos ys.length
  exact ⟨by omega, rfl⟩
theorem rows_len (ys : List Int) (r g : Int) : ((rowsI ys r g).length : Int) = pI ys.length := by
  unfold rowsI
  rw [List.length_map, List.length_range]
  have := pI_pos ys.length
  omega
/-- a list of known lists of ints -/
def LL (H : Hp) (p : Addr) (rows : List (List Int)) : Prop := ∃ ks : List Addr, H p = some (.lst (ks.map V.ref)) ∧ ks.length = rows.length ∧ ∀ (i : Nat) (k : Addr) (row : List Int), ks[i]? = some k → rows[i]? = some row → H k = some (.lst (row.map V.int))
theorem LL.ex {H H' : Hp} {p : Addr} {rows : List (List Int)} (h : LL H p rows) (e : Ex H H') : LL H' p rows :=
  let ⟨ks, h1, h2, h3⟩ := h; ⟨ks, e _ _ h1, h2, fun i k row a b => e _ _ (h3 i k row a b)⟩
/-- the same, the list p itself apart -/
def LLs (H : Hp) (ks : List Addr) (rows : List (List Int)) : Prop := ks.length = rows.length ∧ ∀ (i : Nat) (k : Addr) (row : List Int), ks[i]? = some k → rows[i]? = some row → H k = some (.lst (row.map V.int))
theorem LLs.ex {H H' : Hp} {ks : List Addr} {rows : List (List Int)} (h : LLs H ks rows) (e : Ex H H') : LLs H' ks rows := ⟨h.1, fun i k row a b => e _ _ (h.2 i k row a b)⟩
theorem LLs.snoc {H : Hp} {ks : List Addr} {rows : List (List Int)} {k : Addr} {row : List Int} (h : LLs H ks rows) (hk : H k = some (.lst (row.map V.int))) : LLs H (ks ++ [k]) (rows ++ [row]) := by
  refine ⟨by rw [List.length_append, List.length_append, h.1]; rfl, fun i k' row' a b => ?_⟩
  by_cases hi : i < ks.length
  · rw [List.getElem?_append_left hi] at a
    rw [List.getElem?_append_left (by rw [← h.1]; exact hi)] at b
    exact h.2 i k' row' a b
  · rw [List.getElem?_append_right (by omega)] at a
    rw [List.getElem?_append_right (by rw [← h.1]; omega), ← h.1] at b
    cases hx : i - ks.length with
    | zero =>
      rw [hx] at a b
      cases a
      cases b
      exact hk
    | succ j =>
      rw [hx] at a
      cases a
theorem range_take (n m : Nat) (h : n ≤ m) : (List.range m).take n = List.range n := by
  rw [List.take_range, Nat.min_eq_left h]
def spPf : Sp := fun vs H Q _ => ∃ n : Nat, vs = [.int (n : Int)] ∧ RetV (.int (pI n)) H Q
def spSo (K : PySem.W.Frag) : Sp := fun vs H Q _ => ∃ (p : Addr) (ys : List Int), vs = [.ref p] ∧ SqT K H p (ys.map V.int) ∧ RetV (.int (pI ys.length)) H Q
def spRs (K : PySem.W.Frag) : Sp := fun vs H Q _ => ∃ (p : Addr) (ys : List Int) (r g : Int), vs = [.ref p, .int r, .int g] ∧ SqT K H p (ys.map V.int) ∧ ys.length ≤ 90 ∧ ∀ q H', H q = none → Ex H H' → LL H' q (rowsI ys r g) → Q (.ref q) H'
theorem sv_pf {n : Nat} {z : Int} {H : Hp} (e : z = (n : Int)) : SpV spPf [.int z] H (.int (pI n)) := fun H1 e1 Q q E => ⟨n, by rw [e], q⟩
theorem sv_so {K : PySem.W.Frag} {p : Addr} {ys : List Int} {H : Hp} (h : SqT K H p (ys.map V.int)) : SpV (spSo K) [.ref p] H (.int (pI ys.length)) := fun H1 e1 Q q E => ⟨p, ys, rfl, ex_t e1 h, q⟩
section
variable {P : Program} {w : World} {K : PySem.W.Frag} {mg : Str → Option Value} {base : Heap} {C : Addr}
theorem ok_pf {f : Addr} {fd : FuncData} (F : Fun K "parts_for" "parts_for" sPf f fd) (T : Txt mg K C) : FnOk P w K mg base CX0 1 f fd ["many"] spPf := by
  obtain ⟨_, gGROUP_WORDS⟩ := T.gGROUP_WORDS
  refine F.ok scPf (fun vs H Q E h => ?_) (fun cdv A outer s H vs Q E hr h => ?_)
  · obtain ⟨n, rfl, _⟩ := h
    rfl
  · obtain ⟨n, rfl, q⟩ := h
    refine ⟨_, (pss_one (ps_ret (pe_op op_fdiv (pe_op op_add (pv 0) (pe_glob (v := .int 4) rfl gGROUP_WORDS ⟨_, rfl⟩)) (pe_glob (v := .int 4) rfl gGROUP_WORDS ⟨_, rfl⟩)))), ?_⟩
    exact s_ret (ev_op (ev_op (ev_var rfl) ev_c rv_I0) ev_c (rv_I ⟨by decide, by decide⟩)) fun H1 e1 => q H1 e1
theorem ok_so {f fP : Addr} {fd fdP : FuncData} (F : Fun K "sectors_of" "sectors_of" sSo f fd) (FPf : Fun K "parts_for" "parts_for" sPf fP fdP) (bPf : Binds K fdP ["many"] []) (gPf : mg "parts_for" = some (.ref fP)) (GPf : FnOk P w K mg base CX0 1 fP fdP ["many"] spPf) (T : Txt mg K C) : FnOk P w K mg base CX0 2 f fd ["intent"] (spSo K) := by
  refine F.ok scSo (fun vs H Q E h => ?_) (fun cdv A outer s H vs Q E hr h => ?_)
  · obtain ⟨p, ys, rfl, _⟩ := h
    rfl
  · obtain ⟨p, ys, rfl, hY, q⟩ := h
    refine ⟨_, (pss_one (ps_ret (pe_call GPf (hr.mono (by decide)) (by rfl) gPf FPf.kp bPf .nil pass0 (pa_cons (pe_callB call_len_seq (by rfl) T.len (by decide +kernel) (pa_cons (pv 0) pa_nil)) pa_nil)))), ?_⟩
    exact s_ret (ev_call (ea_cons (ev_is (ev_lenT (ev_var rfl) hY) rfl) ea_nil) (sv_pf (by rw [List.length_map]))) fun H1 e1 => q H1 e1
theorem ok_rs {f fS : Addr} {fd fdS : FuncData} (F : Fun K "record_sectors" "record_sectors" sRs f fd) (FSo : Fun K "sectors_of" "sectors_of" sSo fS fdS) (bSo : Binds K fdS ["intent"] []) (gSo : mg "sectors_of" = some (.ref fS)) (GSo : FnOk P w K mg base CX0 2 fS fdS ["intent"] (spSo K)) (T : Txt mg K C) : FnOk P w K mg base CX0 3 f fd ["intent", "record", "generation"] (spRs K) := by
  obtain ⟨_, gGROUP_WORDS⟩ := T.gGROUP_WORDS
  refine F.ok scRs (fun vs H Q E h => ?_) (fun cdv A outer s H vs Q E hr h => ?_)
  · obtain ⟨p, ys, r, g, rfl, _⟩ := h
    rfl
  · obtain ⟨p, ys, r, g, rfl, hY, hlen, q⟩ := h
    refine ⟨_, (pss_cons (ps_set (i := 3) scRs.nd rfl (Or.inl rfl) (pe_call GSo (hr.mono (by decide)) (by rfl) gSo FSo.kp bSo .nil pass0 (pa_cons (pv 0) pa_nil)))
      (pss_cons (ps_set (i := 4) scRs.nd rfl (Or.inl rfl) (pe_lst (pa_cons (pe_callB call_len_seq (by rfl) T.len (by decide +kernel) (pa_cons (pv 0) pa_nil)) (pa_star (pv 0) pa_nil))))
      (pss_cons (ps_set (i := 5) scRs.nd rfl (Or.inl rfl) (pe_op op_cat (pv 4) (pe_op op_rep (pe_lst (pa_cons pe_int pa_nil)) (pe_op op_sub (pe_op op_mul (pe_glob (v := .int 4) rfl gGROUP_WORDS ⟨_, rfl⟩) (pv 3)) (pe_callB call_len_seq (by rfl) T.len (by decide +kernel) (pa_cons (pv 4) pa_nil))))))
      (pss_cons (ps_set (i := 6) scRs.nd rfl (Or.inl rfl) (pe_lst pa_nil))
      (pss_cons (ps_for PassesOwn.never rfl (pi_range1 (by rfl) T.range (pa_cons (pv 3) pa_nil)) (pg_name (i := 7) scRs.nd rfl (Or.inl rfl)) (pss_cons (ps_set (i := 8) scRs.nd rfl (Or.inl rfl) (pe_op op_mul (pe_glob (v := .int 4) rfl gGROUP_WORDS ⟨_, rfl⟩) (pv 7)))
      (pss_one (ps_expr (pe_bm PySem.F.plainAttrs_list PySem.F.slot_list_append PySem.F.type_list_append mt_append (pv 6) (pa_cons (pe_lst (pa_cons (pv 1) (pa_cons (pv 7) (pa_cons (pv 3) (pa_star (pe_slice sl_list (pv 5) (po_some (pv 8)) (po_some (pe_op op_add (pv 8) (pe_glob (v := .int 4) rfl gGROUP_WORDS ⟨_, rfl⟩)))) (pa_cons (pv 2) pa_nil)))))) pa_nil))))))
      (pss_one (ps_ret (pv 6)))))))), ?_⟩
    have hp1 := pI_pos ys.length
    have hp2 := pI_le hlen
    refine q_asg (ev_call (ea_cons (ev_var rfl) ea_nil) (sv_so hY)) fun H1 e1 => ?_
    refine q_asgL (el_is (ys := (((ys.length : Int) :: ys).map V.int)) (el_lst (ea_cons (ev_lenT (ev_var rfl) (ex_t e1 hY)) (ea_starT (ev_var rfl) (ex_t e1 hY) ea_nil)) (by simp; omega)) (by simp)) fun wl H2 hw e2 h2 => ?_
    refine q_asgL (el_is (ys := (padI ys).map V.int) (el_cat (ev_var rfl) h2 (el_rep1 (z := 4 * pI ys.length - ((ys.length : Int) + 1)) (el_lst (ea_cons ev_c ea_nil) (by decide)) (ev_op (ev_op ev_c (ev_var rfl) (rv_I (.inl ⟨by decide, by decide⟩))) (ev_is (ev_lenL (ev_var rfl) h2) (by simp)) rv_I0) (by unfold pI; omega) (by omega)) (by simp; omega)) (by unfold padI; rw [List.map_append, List.map_replicate])) fun pl H3 hp e3 h3 => ?_
    refine q_asgL (el_lst ea_nil (by decide)) fun sl H4 hs e4 h4 => ?_
    have nsl : H sl = none := fresh_back ((e1.trans e2).trans e3) hs
    refine q_forR1 (n := pI ys.length) (ea_cons (ev_var rfl) ea_nil) ⟨by omega, by omega⟩
      (fun i σ' H' => ∃ y1 y2 ks, σ' = [some (.ref p), some (.int r), some (.int g), some (.int (pI ys.length)), some (.ref wl), some (.ref pl), some (.ref sl), y1, y2] ∧ Ex H3 H' ∧ H' sl = some (.lst (ks.map V.ref)) ∧ LLs (but sl H') ks ((List.range i).map (rowI ys r g)))
      (fun H5 e5 => ⟨none, none, [], rfl, e4.trans e5, e5 _ _ h4, rfl, fun i k row a => nomatch a⟩) ?_ ?_
    · rintro i σ' H' hi ⟨y1, y2, ks, rfl, e5, hks, hL⟩
      have hlp := pad_len ys
      refine q_asg (ev_op ev_c (ev_var rfl) (rv_I (.inl ⟨by decide, by decide⟩))) fun H6 e6 => ?_
      have hcut : cutV ((padI ys).map V.int) (some (4 * (i : Int))) (some (4 * (i : Int) + 4)) = (((padI ys).drop (4 * i)).take 4).map V.int := by
        have := cut_mid ((padI ys).map V.int) (i := 4 * i) (j := 4 * i + 4) (by omega) (by rw [List.length_map]; omega)
        rw [show ((4 * i : Nat) : Int) = 4 * (i : Int) by omega, show ((4 * i + 4 : Nat) : Int) = 4 * (i : Int) + 4 by omega] at this
        rw [this, ← List.map_drop, ← List.map_take, show 4 * i + 4 - 4 * i = 4 by omega]
      refine s_appL (e6 _ _ hks) (ev_var rfl) (el_is (ys := (rowI ys r g i).map V.int) (el_lst (ea_cons (ev_var rfl) (ea_cons (ev_var rfl) (ea_cons (ev_var rfl) (ea_starN (el_is (el_sl (ev_var rfl) (eo_some (ev_var rfl)) (eo_some (ev_op (ev_var rfl) ev_c rv_I0)) (sq_of ((e5.trans e6) _ _ h3))) hcut) (ea_cons (ev_var rfl) ea_nil))))) (by simp; omega)) (by unfold rowI; simp)) (by rw [List.length_map, hL.1, List.length_map, List.length_range]; omega) fun k H7 hk e7 h7 => ?_
      have nks : k ≠ sl := fun z => by rw [z, e6 _ _ hks] at hk; cases hk
      refine ⟨_, _, ks ++ [k], rfl, ((e5.trans e6).trans e7).mut hs, by rw [upd_same, List.map_append]; rfl, ?_⟩
      rw [List.range_succ, List.map_append]
      rw [but_upd]
      exact (hL.ex (ex_but (e6.trans e7))).snoc (by rw [but_ne nks]; exact h7)
    · rintro σ' H' ⟨y1, y2, ks, rfl, e5, hks, hL⟩
      exact s_ret (ev_var rfl) fun H6 e6 => q sl H6 nsl (((e1.trans e2).trans e3).trans (e5.trans e6)) ⟨ks, e6 _ _ hks, hL.1, ((hL.ex but_ex).ex e6).2⟩
end

end K70

set_option Elab.async false
set_option linter.all false
set_option maxRecDepth 100000
set_option maxHeartbeats 4000000
namespace K70
open PySem PySem.Spec PyProof.Rows L2 Evl LK LT LG LS LQ LX LO LN LP LH LV StX
/-! ### the law's own helpers -/
section
variable {P : Program} {w : World} {K : PySem.W.Frag} {mg : Str → Option Value} {base : Heap} {C : Addr}
theorem ok_cl {f : Addr} {fd : FuncData} (F : Fun K "_law_cell" "_law_cell" sCl f fd) (T : Txt mg K C) : FnOk P w K mg base CX0 1 f fd ["script", "k"] (spCel K) := by
  refine F.ok scCl (fun vs H Q E h => ?_) (fun cdv A outer s H vs Q E hr h => ?_)
  · obtain ⟨a, ns, k, rfl, _⟩ := h
    rfl
  · obtain ⟨a, ns, k, rfl, hS, q⟩ := h
    refine ⟨_, (pss_cons (ps_if (pt_cmpR op_lt (pv 1) (pe_callB call_len_seq (by rfl) T.len (by decide +kernel) (pa_cons (pv 0) pa_nil)) (nomark _)) (pss_one (ps_ret (pe_callTy call_int1 (by rfl) T.int (by decide +kernel) (pa_cons (pe_ix ix_list (pv 0) (pv 1) (fun _ _ => rfl)) pa_nil)))) pss_nil)
      (pss_one (ps_ret pe_int))), ?_⟩
    refine q_when (et_test (ev_op (ev_var rfl) (ev_len (ev_var rfl) hS) rv_I0)) (fun hb H1 e1 => ?_) (fun hb H1 e1 => ?_)
    · have hk : k < ns.length := by
        have := of_decide_eq_true hb
        rw [List.length_map] at this
        omega
      exact s_ret (ev_int1 (ev_op (ev_var rfl) (ev_var rfl) (rv_ixL (ex_l e1 hS) (atI_nat (cellv_in hk))))) fun H2 e2 => q H2 (e1.trans e2)
    · have hk : ns.length ≤ k := by
        have := of_decide_eq_false hb
        rw [List.length_map] at this
        omega
      rw [cellv_out hk] at q
      exact s_ret ev_c fun H2 e2 => q H2 (e1.trans e2)
end

def DigOk (ds : List Int) (bs : List Int) : Prop := ds.length = bs.length ∧ ∀ (i : Nat) (d b : Int), ds[i]? = some d → bs[i]? = some b → 0 ≤ d ∧ d < b
/-- the bases: from 1 on, below 2^30 -/
def BsOk (bs : List Int) : Prop := ∀ b ∈ bs, 0 < b ∧ b < 2 ^ 30
def spDg (K : PySem.W.Frag) : Sp := fun vs H Q _ => ∃ (c : Int) (p : Addr) (bs : List Int), vs = [.int c, .ref p] ∧ SqL K H p (bs.map V.int) ∧ BsOk bs ∧ bs.length ≤ 1000 ∧ ∀ l H' ds, H l = none → Ex H H' → H' l = some (.lst (ds.map V.int)) → DigOk ds bs → Q (.ref l) H'
section
variable {P : Program} {w : World} {K : PySem.W.Frag} {mg : Str → Option Value} {base : Heap} {C : Addr}
theorem ok_dg {f : Addr} {fd : FuncData} (F : Fun K "_law_digits" "_law_digits" sDg f fd) (T : Txt mg K C) : FnOk P w K mg base CX0 1 f fd ["cell", "bases"] (spDg K) := by
  refine F.ok scDg (fun vs H Q E h => ?_) (fun cdv A outer s H vs Q E hr h => ?_)
  · obtain ⟨c, p, bs, rfl, _⟩ := h
    rfl
  · obtain ⟨c, p, bs, rfl, hB, hb, hlen, q⟩ := h
    refine ⟨_, (pss_cons (ps_set (i := 2) scDg.nd rfl (Or.inl rfl) (pe_lst pa_nil))
      (pss_cons (ps_set (i := 3) scDg.nd rfl (Or.inl rfl) (pe_callTy call_int1 (by rfl) T.int (by decide +kernel) (pa_cons (pv 0) pa_nil)))
      (pss_cons (ps_for PassesOwn.never rfl (pi_list (pv 1)) (pg_name (i := 4) scDg.nd rfl (Or.inl rfl)) (pss_one (ps_if (pt_cmpR op_ge (pv 0) (pe_op op_pow pe_int pe_int) (nomark _)) (pss_cons (ps_expr (pe_bm PySem.F.plainAttrs_list PySem.F.slot_list_append PySem.F.type_list_append mt_append (pv 2) (pa_cons (pe_op op_mod (pe_callTy call_int1 (by rfl) T.int (by decide +kernel) (pa_cons (pv 3) pa_nil)) (pv 4)) pa_nil)))
      (pss_one (ps_set (i := 3) scDg.nd rfl (Or.inl rfl) (pe_op op_fdiv (pv 3) (pv 4))))) (pss_cons (ps_set (i := 3) scDg.nd rfl (Or.inl rfl) (pe_op op_mod (pe_op op_add (pe_op op_add (pe_op op_mul (pe_callTy call_int1 (by rfl) T.int (by decide +kernel) (pa_cons (pv 3) pa_nil)) pe_int) (pe_op op_mul pe_int (pe_callB call_len_seq (by rfl) T.len (by decide +kernel) (pa_cons (pv 2) pa_nil)))) pe_int) pe_int))
      (pss_cons (ps_set (i := 5) scDg.nd rfl (Or.inl rfl) (pe_op op_mod (pe_op op_mul (pe_callTy call_int1 (by rfl) T.int (by decide +kernel) (pa_cons (pv 3) pa_nil)) (pe_callTy call_int1 (by rfl) T.int (by decide +kernel) (pa_cons (pv 3) pa_nil))) pe_int))
      (pss_one (ps_expr (pe_bm PySem.F.plainAttrs_list PySem.F.slot_list_append PySem.F.type_list_append mt_append (pv 2) (pa_cons (pe_op op_mod (pe_op op_fdiv (pe_callTy call_int1 (by rfl) T.int (by decide +kernel) (pa_cons (pv 5) pa_nil)) pe_int) (pv 4)) pa_nil)))))))))
      (pss_one (ps_ret (pv 2)))))), ?_⟩
    refine q_asgL (el_lst ea_nil (by decide)) fun dl H1 hd e1 h1 => ?_
    refine q_asg (ev_int1 (ev_var rfl)) fun H2 e2 => ?_
    refine q_forLn (ev_var rfl) (ex_l (e1.trans e2) hB) (fun i σ' H' => ∃ (r : Int) (y4 y5 : Option V) (ds : List Int), σ' = [some (.int c), some (.ref p), some (.ref dl), some (.int r), y4, y5] ∧ Ex H H' ∧ H' dl = some (.lst (ds.map V.int)) ∧ ds.length = i ∧ ∀ (j : Nat) (d b : Int), ds[j]? = some d → bs[j]? = some b → 0 ≤ d ∧ d < b)
      (fun H3 e3 => ⟨c, none, none, [], rfl, (e1.trans e2).trans e3, e3 _ _ (e2 _ _ h1), rfl, fun j d b h => nomatch h⟩) (fun i σ' H' _ p => by obtain ⟨_, _, _, _, _, e, _⟩ := p; exact ex_l e hB) (fun i x σ' H' hx p => ?_) (fun σ' H' p => ?_)
    · obtain ⟨r, y4, y5, ds, rfl, e3, hl, hi, hds⟩ := p
      rw [List.getElem?_map] at hx
      obtain ⟨b, hbi, rfl⟩ := Option.map_eq_some_iff.mp hx
      have hil := (List.getElem?_eq_some_iff.mp hbi).1
      have hb1 := hb b (List.mem_of_getElem? hbi)
      have step : ∀ d : Int, 0 ≤ d → d < b → ∀ (j : Nat) (d' b' : Int), (ds ++ [d])[j]? = some d' → bs[j]? = some b' → 0 ≤ d' ∧ d' < b' := fun d h0 h1 j d' b' a1 a2 => by
        by_cases hj : j < ds.length
        · rw [List.getElem?_append_left hj] at a1
          exact hds j d' b' a1 a2
        · rw [List.getElem?_append_right (by omega)] at a1
          cases hx : j - ds.length with
          | zero =>
            rw [hx] at a1
            have : j = i := by omega
            rw [this, hbi] at a2
            cases a1
            cases a2
            exact ⟨h0, h1⟩
          | succ k =>
            rw [hx] at a1
            cases a1
      have hm : ∀ z : Int, 0 ≤ z % b ∧ z % b < b := fun z => ⟨Int.emod_nonneg _ (by omega), Int.emod_lt_of_pos _ hb1.1⟩
      refine s_if (et_test (ev_op (ev_var rfl) (ev_op ev_c ev_c (rv_I ⟨by decide, by decide, by decide⟩)) rv_I0)) (fun _ H4 e4 => ?_) (fun _ H4 e4 => ?_)
      · refine q_app (v := .int (r % b)) (e4 _ _ hl) (ev_var rfl) (ev_op (ev_int1 (ev_var rfl)) (ev_var rfl) (rv_I hb1.1)) (by rw [List.length_map]; omega) fun H5 e5 => ?_
        refine s_asg (ev_op (ev_var rfl) (ev_var rfl) (rv_I hb1)) fun H6 e6 => ⟨_, _, _, ds ++ [r % b], rfl, (((e3.trans e4).trans e5).mut hd).trans e6, by rw [e6 _ _ upd_same, List.map_append]; rfl, by rw [List.length_append, hi]; rfl, step _ (hm r).1 (hm r).2⟩
      · have len : Ev (tCB (rLenS K) (tCons (tVar 2) tNil)) (List.set [some (.int c), some (.ref p), some (.ref dl), some (.int r), y4, y5] 4 (some (.int b))) H4 (.int (ds.length : Int)) := ev_is (ev_lenL (ev_var rfl) (e4 _ _ hl)) (by rw [List.length_map])
        refine q_asg (ev_op (ev_op (ev_op (ev_op (ev_int1 (ev_var rfl)) ev_c (rv_I (.inr ⟨by decide, by decide⟩))) (ev_op ev_c len (rv_I (.inl ⟨by decide, by decide⟩))) rv_I0) ev_c rv_I0) ev_c (rv_I (by show (0 : Int) < 2147483647; decide))) fun H5 e5 => ?_
        have hz1 : 0 ≤ (r * 48271 + 1009 * (ds.length : Int) + 12345) % 2147483647 ∧ (r * 48271 + 1009 * (ds.length : Int) + 12345) % 2147483647 < 2147483647 := ⟨Int.emod_nonneg _ (by decide), Int.emod_lt_of_pos _ (by decide)⟩
        generalize (r * 48271 + 1009 * (ds.length : Int) + 12345) % 2147483647 = z at hz1 ⊢
        refine q_asg (ev_op (ev_op (ev_int1 (ev_var rfl)) (ev_int1 (ev_var rfl)) (rv_I (.inl ⟨by omega, by omega⟩))) ev_c (rv_I (by show (0 : Int) < 2147483629; decide))) fun H6 e6 => ?_
        refine s_app (v := .int (z * z % 2147483629 / 13 % b)) ((e4.trans (e5.trans e6)) _ _ hl) (ev_var rfl) (ev_op (ev_op (ev_int1 (ev_var rfl)) ev_c (rv_I ⟨by decide, by decide⟩)) (ev_var rfl) (rv_I hb1.1)) (by rw [List.length_map]; omega) fun H7 e7 => ⟨_, _, _, ds ++ [z * z % 2147483629 / 13 % b], rfl, (((e3.trans e4).trans (e5.trans e6)).trans e7).mut hd, by rw [upd_same, List.map_append]; rfl, by rw [List.length_append, hi]; rfl, step _ (hm _).1 (hm _).2⟩
    · obtain ⟨r, y4, y5, ds, rfl, e3, hl, hi, hds⟩ := p
      rw [List.length_map] at hi
      exact s_ret (ev_var rfl) fun H4 e4 => q dl H4 ds hd (e3.trans e4) (e4 _ _ hl) ⟨hi, hds⟩
end

end K70

set_option Elab.async false
set_option linter.all false
set_option maxRecDepth 100000
set_option maxHeartbeats 4000000
namespace K70
open PySem PySem.Spec PyProof.Rows L2 Evl LK LT LG LS LQ LX LO LN LP LH LV StX
def MAIN : Int := 13 * 40 ^ 10 + 1 * 40 ^ 9 + 9 * 40 ^ 8 + 14 * 40 ^ 7
def wv (d : Int) : Int := if d = 0 then 40 ^ 10 else if d = 1 then 2 * 40 ^ 10 else 39 * 40 ^ 10
def Wd (z : Int) : Prop := z = 40 ^ 10 ∨ z = 2 * 40 ^ 10 ∨ z = 39 * 40 ^ 10
theorem wv_ok {d : Int} (h : 0 ≤ d ∧ d < 3) : Wd (wv d) := by
  rcases (by omega : d = 0 ∨ d = 1 ∨ d = 2) with rfl | rfl | rfl
  · exact .inl rfl
  · exact .inr (.inl rfl)
  · exact .inr (.inr rfl)
theorem wv_at {d : Int} (h : 0 ≤ d ∧ d < 3) : atI [V.int (40 ^ 10), V.int (2 * 40 ^ 10), V.int (39 * 40 ^ 10)] d = some (V.int (wv d)) := by
  rcases (by omega : d = 0 ∨ d = 1 ∨ d = 2) with rfl | rfl | rfl <;> rfl
theorem dv0 {a b : Int} (h : 0 ≤ a) (hb : 0 < b) : 0 ≤ a / b := Int.ediv_nonneg h (by omega)
theorem dv1 {a b m : Int} (h : 0 ≤ a ∧ a < m) (hb : 0 < b) : a / b < m := Int.lt_of_le_of_lt (Int.ediv_le_self _ h.1) h.2
/-- an intent of the law's -/
inductive Intent (m : Int) : List Int → Prop
  | k1 {i w k o : Int} (hi : 1 ≤ i) (hw : Wd w) (hk : 1 ≤ k ∧ k ≤ 2) (ho : 0 ≤ o ∧ o ≤ 255) : Intent m [1, MAIN, i, w, k, o]
  | k2 {i j w : Int} (hi : 1 ≤ i) (hj : 1 ≤ j) (hw : Wd w) : Intent m [2, MAIN, i, j, w]
  | k34 {k i w : Int} (hk : k = 3 ∨ k = 4) (hi : 1 ≤ i) (hw : Wd w) : Intent m [k, MAIN, i, w]
  | k5 {i w j x : Int} (hi : 1 ≤ i) (hw : Wd w) (hj : 1 ≤ j) (hx : Wd x) : Intent m [5, MAIN, i, w, j, x]
  | k6 {i a : Int} {cs : List Int} (hi : 1 ≤ i) (ha : 0 ≤ a) (hn : 1 ≤ cs.length ∧ (cs.length : Int) ≤ m) (hs : a + cs.length ≤ 2048) (hc : ∀ c ∈ cs, 0 ≤ c) : Intent m ([6, MAIN, i, a] ++ cs)
  | k7 {i a : Int} (hi : 1 ≤ i) (ha : 0 ≤ a) (h : a < 2049) : Intent m [7, MAIN, i, a]
  | k8 {i a j b u : Int} (hi : 1 ≤ i) (ha : 0 ≤ a) (ha2 : a < 61) (hj : 1 ≤ j) (hb : 0 ≤ b) (hb2 : b < 61) (hu : 1 ≤ u ∧ u ≤ 4) : Intent m [8, MAIN, i, a, j, b, u]
  | k9 {i o : Int} (hi : 1 ≤ i) (ho : 0 ≤ o ∧ o ≤ 255) : Intent m [9, MAIN, i, o]
  | k10 {i : Int} (hi : 1 ≤ i) : Intent m [10, MAIN, i]
theorem Intent.len {m : Int} {ys : List Int} (h : Intent m ys) (hm : m ≤ 64) : 3 ≤ ys.length ∧ ys.length ≤ 68 := by
  cases h with
  | k6 hi ha hn hs hc =>
    simp only [List.length_append, List.length_cons, List.length_nil]
    omega
  | _ => exact ⟨by simp, by simp⟩
def spIn : Sp := fun vs H Q _ => ∃ (c m : Int), vs = [.int c, .int m] ∧ 1 ≤ m ∧ m ≤ 64 ∧ ∀ p H' ys, H p = none → Ex H H' → H' p = some (.tup (ys.map V.int)) → Intent m ys → Q (.ref p) H'
section
variable {P : Program} {w : World} {K : PySem.W.Frag} {mg : Str → Option Value} {base : Heap} {C : Addr}
theorem el_cat2 {σ : L2.St} {H : Hp} {ta tb : TE} {l : Addr} {xs ys : List V} (ha : EvL ta σ H xs) (hb : Ev tb σ H (.ref l)) (hl : H l = some (.lst ys)) (hz : xs.length + ys.length ≤ 100000) : EvL (tOp rCat ta tb) σ H (xs ++ ys) := fun H1 e Q q =>
  ha H1 e _ fun a H2 ha2 e2 h2 => hb H2 (e.trans e2) _ fun H3 e3 => ⟨a, l, xs, ys, rfl, rfl, e3 _ _ h2, (e.trans (e2.trans e3)) _ _ hl, sz_of hz, fun p hp => q p _ (fresh_back (e2.trans e3) hp) ((e2.trans e3).trans (Ex.new hp)) upd_same⟩
theorem ok_in {f fD : Addr} {fd fdD : FuncData} (F : Fun K "_law_intent" "_law_intent" sIn f fd) (FDg : Fun K "_law_digits" "_law_digits" sDg fD fdD) (bDg : Binds K fdD ["cell", "bases"] []) (gDg : mg "_law_digits" = some (.ref fD)) (GDg : FnOk P w K mg base CX0 1 fD fdD ["cell", "bases"] (spDg K)) (T : Txt mg K C) : FnOk P w K mg base CX0 2 f fd ["cell", "most"] spIn := by
  refine F.ok scIn (fun vs H Q E h => ?_) (fun cdv A outer s H vs Q E hr h => ?_)
  · obtain ⟨c, m, rfl, _⟩ := h
    rfl
  · obtain ⟨c, m, rfl, hm1, hm2, q⟩ := h
    refine ⟨_, (pss_cons (ps_set (i := 2) scIn.nd rfl (Or.inr rfl) (pe_call GDg (hr.mono (by decide)) (by rfl) gDg FDg.kp bDg .nil pass0 (pa_cons (pv 0) (pa_cons (pe_lst (pa_cons pe_int (pa_cons pe_int (pa_cons pe_int (pa_cons pe_int (pa_cons pe_int (pa_cons pe_int (pa_cons pe_int (pa_cons (pv 1) (pa_cons pe_int (pa_cons pe_int (pa_cons pe_int (pa_cons pe_int (pa_cons (pe_op op_pow pe_int pe_int) pa_nil)))))))))))))) pa_nil))))
      (pss_cons (ps_set (i := 3) scIn.nd rfl (Or.inl rfl) (pe_lst (pa_cons (pe_op op_pow pe_int pe_int) (pa_cons (pe_op op_mul pe_int (pe_op op_pow pe_int pe_int)) (pa_cons (pe_op op_mul pe_int (pe_op op_pow pe_int pe_int)) pa_nil)))))
      (pss_cons (ps_set (i := 4) scIn.nd rfl (Or.inl rfl) (pe_op op_add pe_int (pe_ix ix_list (pv 2) pe_int (fun _ _ => rfl))))
      (pss_cons (ps_set (i := 5) scIn.nd rfl (Or.inl rfl) (pe_op op_add pe_int (pe_ix ix_list (pv 2) pe_int (fun _ _ => rfl))))
      (pss_cons (ps_set (i := 6) scIn.nd rfl (Or.inl rfl) (pe_op op_add pe_int (pe_ix ix_list (pv 2) pe_int (fun _ _ => rfl))))
      (pss_cons (ps_set (i := 7) scIn.nd rfl (Or.inl rfl) (pe_op op_add (pe_op op_add (pe_op op_add (pe_op op_mul pe_int (pe_op op_pow pe_int pe_int)) (pe_op op_mul pe_int (pe_op op_pow pe_int pe_int))) (pe_op op_mul pe_int (pe_op op_pow pe_int pe_int))) (pe_op op_mul pe_int (pe_op op_pow pe_int pe_int))))
      (pss_cons (ps_if (pt_cmpR op_eq (pv 4) pe_int (nomark _)) (pss_one (ps_ret (pe_tup (pa_cons pe_int (pa_cons (pv 7) (pa_cons (pv 5) (pa_cons (pe_ix ix_list (pv 3) (pe_ix ix_list (pv 2) pe_int (fun _ _ => rfl)) (fun _ _ => rfl)) (pa_cons (pe_op op_add pe_int (pe_ix ix_list (pv 2) pe_int (fun _ _ => rfl))) (pa_cons (pe_ix ix_list (pv 2) pe_int (fun _ _ => rfl)) pa_nil))))))))) pss_nil)
      (pss_cons (ps_if (pt_cmpR op_eq (pv 4) pe_int (nomark _)) (pss_one (ps_ret (pe_tup (pa_cons pe_int (pa_cons (pv 7) (pa_cons (pv 5) (pa_cons (pv 6) (pa_cons (pe_ix ix_list (pv 3) (pe_ix ix_list (pv 2) pe_int (fun _ _ => rfl)) (fun _ _ => rfl)) pa_nil)))))))) pss_nil)
      (pss_cons (ps_if (PW.pt (pw_or (pt_cmpR op_eq (pv 4) pe_int (nomark _)) (pw_or1 (pt_cmpR op_eq (pv 4) pe_int (nomark _))))) (pss_one (ps_ret (pe_tup (pa_cons (pv 4) (pa_cons (pv 7) (pa_cons (pv 5) (pa_cons (pe_ix ix_list (pv 3) (pe_ix ix_list (pv 2) pe_int (fun _ _ => rfl)) (fun _ _ => rfl)) pa_nil))))))) pss_nil)
      (pss_cons (ps_if (pt_cmpR op_eq (pv 4) pe_int (nomark _)) (pss_one (ps_ret (pe_tup (pa_cons pe_int (pa_cons (pv 7) (pa_cons (pv 5) (pa_cons (pe_ix ix_list (pv 3) (pe_ix ix_list (pv 2) pe_int (fun _ _ => rfl)) (fun _ _ => rfl)) (pa_cons (pv 6) (pa_cons (pe_ix ix_list (pv 3) (pe_ix ix_list (pv 2) pe_int (fun _ _ => rfl)) (fun _ _ => rfl)) pa_nil))))))))) pss_nil)
      (pss_cons (ps_if (pt_cmpR op_eq (pv 4) pe_int (nomark _)) (pss_cons (ps_set (i := 8) scIn.nd rfl (Or.inl rfl) (pe_op op_add pe_int (pe_ix ix_list (pv 2) pe_int (fun _ _ => rfl))))
      (pss_cons (ps_setLc (i := 9) (own := [("k", 10)]) (g := gName 10) (tt := tYes) rfl scIn.nd rfl rfl (sw_true rfl rfl rfl (by decide +kernel)) (pi_range1 (by rfl) T.range (pa_cons (pv 8) pa_nil)) (blkOk_by (own := [("k", 10)]) (N := ["cell", "most", "digits", "words", "kind", "inode", "other", "main", "size", "cells", "k"]) (sc := defScope sIn) (by decide +kernel)) (fun _ _ _ _ _ => pg_name (i := 10) scIn.nd rfl (Or.inl rfl)) (fun _ _ _ _ _ => pts_nil) (fun _ _ _ _ _ => (pe_op op_add (pe_ix (r := rIxL K) ix_list (pv 2) pe_int (fun _ _ => rfl)) (pe_op op_mul (pv 10) (pe_ix (r := rIxL K) ix_list (pv 2) pe_int (fun _ _ => rfl))))))
      (pss_one (ps_ret (pe_callTy call_tuple_of (by rfl) T.tuple (by decide +kernel) (pa_cons (pe_op op_cat (pe_lst (pa_cons pe_int (pa_cons (pv 7) (pa_cons (pv 5) (pa_cons (pe_callB (call_min2 rfl) (by rfl) T.min (by decide +kernel) (pa_cons (pe_op op_fdiv (pe_ix ix_list (pv 2) pe_int (fun _ _ => rfl)) (pe_op op_add pe_int (pe_op op_mul pe_int (pe_ix ix_list (pv 2) pe_int (fun _ _ => rfl))))) (pa_cons (pe_op op_sub pe_int (pv 8)) pa_nil))) pa_nil))))) (pv 9)) pa_nil)))))) pss_nil)
      (pss_cons (ps_if (pt_cmpR op_eq (pv 4) pe_int (nomark _)) (pss_one (ps_ret (pe_tup (pa_cons pe_int (pa_cons (pv 7) (pa_cons (pv 5) (pa_cons (pe_op op_fdiv (pe_ix ix_list (pv 2) pe_int (fun _ _ => rfl)) (pe_op op_add pe_int (pe_op op_mul pe_int (pe_ix ix_list (pv 2) pe_int (fun _ _ => rfl))))) pa_nil))))))) pss_nil)
      (pss_cons (ps_if (pt_cmpR op_eq (pv 4) pe_int (nomark _)) (pss_one (ps_ret (pe_tup (pa_cons pe_int (pa_cons (pv 7) (pa_cons (pv 5) (pa_cons (pe_op op_fdiv (pe_ix ix_list (pv 2) pe_int (fun _ _ => rfl)) (pe_op op_add pe_int (pe_op op_mul pe_int (pe_ix ix_list (pv 2) pe_int (fun _ _ => rfl))))) (pa_cons (pv 6) (pa_cons (pe_op op_fdiv (pe_ix ix_list (pv 2) pe_int (fun _ _ => rfl)) (pe_op op_add pe_int (pe_op op_mul pe_int (pe_ix ix_list (pv 2) pe_int (fun _ _ => rfl))))) (pa_cons (pe_op op_add pe_int (pe_op op_mod (pe_ix ix_list (pv 2) pe_int (fun _ _ => rfl)) pe_int)) pa_nil)))))))))) pss_nil)
      (pss_cons (ps_if (pt_cmpR op_eq (pv 4) pe_int (nomark _)) (pss_one (ps_ret (pe_tup (pa_cons pe_int (pa_cons (pv 7) (pa_cons (pv 5) (pa_cons (pe_ix ix_list (pv 2) pe_int (fun _ _ => rfl)) pa_nil))))))) pss_nil)
      (pss_one (ps_ret (pe_tup (pa_cons pe_int (pa_cons (pv 7) (pa_cons (pv 5) pa_nil)))))))))))))))))))), ?_⟩
    refine q_call2L (ev_var rfl) (el_is (ys := [10, 5, 3, 5, 3, 2, 256, m, 2049, 61, 61, 4, 10 ^ 6].map V.int) (el_lst (ea_cons ev_c (ea_cons ev_c (ea_cons ev_c (ea_cons ev_c (ea_cons ev_c (ea_cons ev_c (ea_cons ev_c (ea_cons (ev_var rfl) (ea_cons ev_c (ea_cons ev_c (ea_cons ev_c (ea_cons ev_c (ea_cons (ev_op ev_c ev_c (rv_I ⟨by decide, by decide, by decide⟩)) ea_nil))))))))))))) (Nat.le_of_ble_eq_true rfl)) rfl) fun bl H1 hb1 e1 h1 => ?_
    refine ⟨c, bl, [10, 5, 3, 5, 3, 2, 256, m, 2049, 61, 61, 4, 10 ^ 6], rfl, sq_of h1, fun b hb => ?_, by show 13 ≤ 1000; decide, fun dl H2 ds hd0 e2 hd hok => ?_⟩
    · simp only [List.mem_cons, List.not_mem_nil, or_false] at hb
      rcases hb with rfl | rfl | rfl | rfl | rfl | rfl | rfl | rfl | rfl | rfl | rfl | rfl | rfl <;> first | exact ⟨by decide, by decide⟩ | exact ⟨by omega, by omega⟩
    obtain ⟨hdl, hds⟩ := hok
    obtain ⟨d0, d1, d2, d3, d4, d5, d6, d7, d8, d9, d10, d11, d12, rfl⟩ : ∃ d0 d1 d2 d3 d4 d5 d6 d7 d8 d9 d10 d11 d12 : Int, ds = [d0, d1, d2, d3, d4, d5, d6, d7, d8, d9, d10, d11, d12] := by
      match ds, hdl with
      | [a0, a1, a2, a3, a4, a5, a6, a7, a8, a9, a10, a11, a12], _ => exact ⟨_, _, _, _, _, _, _, _, _, _, _, _, _, rfl⟩
    have b0 := hds 0 d0 10 rfl rfl
    have b1 := hds 1 d1 5 rfl rfl
    have b2 := hds 2 d2 3 rfl rfl
    have b3 := hds 3 d3 5 rfl rfl
    have b4 := hds 4 d4 3 rfl rfl
    have b5 := hds 5 d5 2 rfl rfl
    have b6 := hds 6 d6 256 rfl rfl
    have b7 := hds 7 d7 m rfl rfl
    have b8 := hds 8 d8 2049 rfl rfl
    have b9 := hds 9 d9 61 rfl rfl
    have b10 := hds 10 d10 61 rfl rfl
    have b11 := hds 11 d11 4 rfl rfl
    have b12 := hds 12 d12 (10 ^ 6) rfl rfl
    clear hds
    refine q_asgL (el_is (ys := [V.int (40 ^ 10), V.int (2 * 40 ^ 10), V.int (39 * 40 ^ 10)]) (el_lst (ea_cons (ev_op ev_c ev_c (rv_I ⟨by decide, by decide, by decide⟩)) (ea_cons (ev_op ev_c (ev_op ev_c ev_c (rv_I ⟨by decide, by decide, by decide⟩)) (rv_I (.inr ⟨by decide, by decide⟩))) (ea_cons (ev_op ev_c (ev_op ev_c ev_c (rv_I ⟨by decide, by decide, by decide⟩)) (rv_I (.inr ⟨by decide, by decide⟩))) ea_nil))) (Nat.le_of_ble_eq_true rfl)) rfl) fun wl H3 hw0 e3 hw => ?_
    have hd := e3 _ _ hd
    refine q_asg (ev_op ev_c (ev_op (ev_var rfl) ev_c (rv_ixL (sq_of hd) (v := .int d0) rfl)) rv_I0) fun H4 e4 => ?_
    have hd := e4 _ _ hd; have hw := e4 _ _ hw
    refine q_asg (ev_op ev_c (ev_op (ev_var rfl) ev_c (rv_ixL (sq_of hd) (v := .int d1) rfl)) rv_I0) fun H5 e5 => ?_
    have hd := e5 _ _ hd; have hw := e5 _ _ hw
    refine q_asg (ev_op ev_c (ev_op (ev_var rfl) ev_c (rv_ixL (sq_of hd) (v := .int d3) rfl)) rv_I0) fun H6 e6 => ?_
    have hd := e6 _ _ hd; have hw := e6 _ _ hw
    refine q_asg (v := .int MAIN) (ev_is (ev_op (ev_op (ev_op (ev_op ev_c (ev_op ev_c ev_c (rv_I ⟨by decide, by decide, by decide⟩)) (rv_I (.inr ⟨by decide, by decide⟩))) (ev_op ev_c (ev_op ev_c ev_c (rv_I ⟨by decide, by decide, by decide⟩)) (rv_I (.inr ⟨by decide, by decide⟩))) rv_I0) (ev_op ev_c (ev_op ev_c ev_c (rv_I ⟨by decide, by decide, by decide⟩)) (rv_I (.inr ⟨by decide, by decide⟩))) rv_I0) (ev_op ev_c (ev_op ev_c ev_c (rv_I ⟨by decide, by decide, by decide⟩)) (rv_I (.inr ⟨by decide, by decide⟩))) rv_I0) rfl) fun H7 e7 => ?_
    have hd := e7 _ _ hd; have hw := e7 _ _ hw
    have eW : Ex H H7 := (e1.trans e2).trans ((e3.trans e4).trans ((e5.trans e6).trans e7))
    have k0 : Ex H7 H7 := Ex.refl _
    refine q_when (et_test (ev_op (ev_var rfl) ev_c (rv_eq rfl))) (fun hb K1 k1 => ?_) (fun _ K1 k1 => ?_)
    · have hd := (k0.trans k1) _ _ hd; have hw := (k0.trans k1) _ _ hw
      exact s_retU (eu_tup (ea_cons ev_c (ea_cons (ev_var rfl) (ea_cons (ev_var rfl) (ea_cons (ev_op (ev_var rfl) (ev_op (ev_var rfl) ev_c (rv_ixL (sq_of hd) (v := .int d2) rfl)) (rv_ixL (sq_of hw) (wv_at b2))) (ea_cons (ev_op ev_c (ev_op (ev_var rfl) ev_c (rv_ixL (sq_of hd) (v := .int d5) rfl)) rv_I0) (ea_cons (ev_op (ev_var rfl) ev_c (rv_ixL (sq_of hd) (v := .int d6) rfl)) ea_nil)))))) (Nat.le_of_ble_eq_true rfl)) fun p H8 hp e8 h8 => q p H8 [1, MAIN, 1 + d1, wv d2, 1 + d5, d6] (fresh_back (eW.trans (k0.trans k1)) hp) ((eW.trans (k0.trans k1)).trans e8) h8 (.k1 (by omega) (wv_ok b2) (by omega) (by omega))
    replace k0 := k0.trans k1; skip
    refine q_when (et_test (ev_op (ev_var rfl) ev_c (rv_eq rfl))) (fun hb K1 k1 => ?_) (fun _ K1 k1 => ?_)
    · have hd := (k0.trans k1) _ _ hd; have hw := (k0.trans k1) _ _ hw
      exact s_retU (eu_tup (ea_cons ev_c (ea_cons (ev_var rfl) (ea_cons (ev_var rfl) (ea_cons (ev_var rfl) (ea_cons (ev_op (ev_var rfl) (ev_op (ev_var rfl) ev_c (rv_ixL (sq_of hd) (v := .int d2) rfl)) (rv_ixL (sq_of hw) (wv_at b2))) ea_nil))))) (Nat.le_of_ble_eq_true rfl)) fun p H8 hp e8 h8 => q p H8 [2, MAIN, 1 + d1, 1 + d3, wv d2] (fresh_back (eW.trans (k0.trans k1)) hp) ((eW.trans (k0.trans k1)).trans e8) h8 (.k2 (by omega) (by omega) (wv_ok b2))
    replace k0 := k0.trans k1; skip
    refine q_when (et_or (et_test (ev_op (ev_var rfl) ev_c (rv_eq rfl))) (fun _ => (et_test (ev_op (ev_var rfl) ev_c (rv_eq rfl))))) (fun hb K1 k1 => ?_) (fun _ K1 k1 => ?_)
    · have hd := (k0.trans k1) _ _ hd; have hw := (k0.trans k1) _ _ hw
      exact s_retU (eu_tup (ea_cons (ev_var rfl) (ea_cons (ev_var rfl) (ea_cons (ev_var rfl) (ea_cons (ev_op (ev_var rfl) (ev_op (ev_var rfl) ev_c (rv_ixL (sq_of hd) (v := .int d2) rfl)) (rv_ixL (sq_of hw) (wv_at b2))) ea_nil)))) (Nat.le_of_ble_eq_true rfl)) fun p H8 hp e8 h8 => q p H8 [1 + d0, MAIN, 1 + d1, wv d2] (fresh_back (eW.trans (k0.trans k1)) hp) ((eW.trans (k0.trans k1)).trans e8) h8 (.k34 (by simp at hb; omega) (by omega) (wv_ok b2))
    replace k0 := k0.trans k1; skip
    refine q_when (et_test (ev_op (ev_var rfl) ev_c (rv_eq rfl))) (fun hb K1 k1 => ?_) (fun _ K1 k1 => ?_)
    · have hd := (k0.trans k1) _ _ hd; have hw := (k0.trans k1) _ _ hw
      exact s_retU (eu_tup (ea_cons ev_c (ea_cons (ev_var rfl) (ea_cons (ev_var rfl) (ea_cons (ev_op (ev_var rfl) (ev_op (ev_var rfl) ev_c (rv_ixL (sq_of hd) (v := .int d2) rfl)) (rv_ixL (sq_of hw) (wv_at b2))) (ea_cons (ev_var rfl) (ea_cons (ev_op (ev_var rfl) (ev_op (ev_var rfl) ev_c (rv_ixL (sq_of hd) (v := .int d4) rfl)) (rv_ixL (sq_of hw) (wv_at b4))) ea_nil)))))) (Nat.le_of_ble_eq_true rfl)) fun p H8 hp e8 h8 => q p H8 [5, MAIN, 1 + d1, wv d2, 1 + d3, wv d4] (fresh_back (eW.trans (k0.trans k1)) hp) ((eW.trans (k0.trans k1)).trans e8) h8 (.k5 (by omega) (wv_ok b2) (by omega) (wv_ok b4))
    replace k0 := k0.trans k1; skip
    refine q_when (et_test (ev_op (ev_var rfl) ev_c (rv_eq rfl))) (fun hb K1 k1 => ?_) (fun _ K1 k1 => ?_)
    · have hd := (k0.trans k1) _ _ hd; have hw := (k0.trans k1) _ _ hw
      refine q_asg (ev_op ev_c (ev_op (ev_var rfl) ev_c (rv_ixL (sq_of hd) (v := .int d7) rfl)) rv_I0) fun K2 k2 => ?_
      have hd := k2 _ _ hd
      have b5' : d5 = 0 ∨ d5 = 1 := by omega
      refine q_asgL (el_is (ys := ((List.range (1 + d7).toNat).map fun i : Nat => d12 + (i : Int) * d5).map V.int) (el_lcR1 (n := 1 + d7) (fun _ => true) (fun i : Nat => .int (d12 + (i : Int) * d5)) (ea_cons (ev_var rfl) ea_nil) ⟨by omega, by omega⟩ (fun _ => rfl) (fun i H1 a1 hi => fun H2 _ Q q => q _ (Ex.refl _)) fun i H1 a1 hi _ => ?_) (by unfold given; rw [List.filter_eq_self.mpr fun _ _ => rfl, List.map_map]; rfl)) fun cl K3 hc0 k3 hc => ?_
      · exact (ev_op (ev_op (ev_var rfl) ev_c (rv_ixL (sq_of (a1 _ _ hd)) (v := .int d12) rfl)) (ev_op (ev_var rfl) (ev_op (ev_var rfl) ev_c (rv_ixL (sq_of (a1 _ _ hd)) (v := .int d5) rfl)) (rv_I (.inr ⟨by omega, by omega⟩))) rv_I0)
      have hd := k3 _ _ hd
      exact s_retU (ev_is' (eu_tupL (el_cat2 (el_lst (ea_cons ev_c (ea_cons (ev_var rfl) (ea_cons (ev_var rfl) (ea_cons (ev_min2 (ev_op (ev_op (ev_var rfl) ev_c (rv_ixL (sq_of hd) (v := .int d8) rfl)) (ev_op ev_c (ev_op ev_c (ev_op (ev_var rfl) ev_c (rv_ixL (sq_of hd) (v := .int d5) rfl)) (rv_I (.inl ⟨by decide, by decide⟩))) rv_I0) (rv_I ⟨by omega, by omega⟩)) (ev_op ev_c (ev_var rfl) rv_I0)) ea_nil)))) (Nat.le_of_ble_eq_true rfl)) (ev_var rfl) hc (by simp; omega))) rfl) fun p H8 hp e8 h8 => q p H8 ([6, MAIN, 1 + d1, _] ++ _) (fresh_back (eW.trans ((k0.trans k1).trans (k2.trans k3))) hp) ((eW.trans ((k0.trans k1).trans (k2.trans k3))).trans e8) (by rw [h8]; rfl) (.k6 (by omega) (by have := dv0 b8.1 (b := 1 + 15 * d5) (by omega); split <;> omega) ⟨by rw [List.length_map, List.length_range]; omega, by rw [List.length_map, List.length_range]; omega⟩ (by rw [List.length_map, List.length_range]; split <;> omega) fun c hc => by
        obtain ⟨i, _, rfl⟩ := List.mem_map.mp hc
        rcases b5' with rfl | rfl <;> omega)
    replace k0 := k0.trans k1; skip
    refine q_when (et_test (ev_op (ev_var rfl) ev_c (rv_eq rfl))) (fun hb K1 k1 => ?_) (fun _ K1 k1 => ?_)
    · have hd := (k0.trans k1) _ _ hd; have hw := (k0.trans k1) _ _ hw
      exact s_retU (eu_tup (ea_cons ev_c (ea_cons (ev_var rfl) (ea_cons (ev_var rfl) (ea_cons (ev_op (ev_op (ev_var rfl) ev_c (rv_ixL (sq_of hd) (v := .int d8) rfl)) (ev_op ev_c (ev_op ev_c (ev_op (ev_var rfl) ev_c (rv_ixL (sq_of hd) (v := .int d5) rfl)) (rv_I (.inl ⟨by decide, by decide⟩))) rv_I0) (rv_I ⟨by omega, by omega⟩)) ea_nil)))) (Nat.le_of_ble_eq_true rfl)) fun p H8 hp e8 h8 => q p H8 [7, MAIN, 1 + d1, d8 / (1 + 15 * d5)] (fresh_back (eW.trans (k0.trans k1)) hp) ((eW.trans (k0.trans k1)).trans e8) h8 (.k7 (by omega) (dv0 b8.1 (by omega)) (dv1 b8 (by omega)))
    replace k0 := k0.trans k1; skip
    refine q_when (et_test (ev_op (ev_var rfl) ev_c (rv_eq rfl))) (fun hb K1 k1 => ?_) (fun _ K1 k1 => ?_)
    · have hd := (k0.trans k1) _ _ hd; have hw := (k0.trans k1) _ _ hw
      exact s_retU (eu_tup (ea_cons ev_c (ea_cons (ev_var rfl) (ea_cons (ev_var rfl) (ea_cons (ev_op (ev_op (ev_var rfl) ev_c (rv_ixL (sq_of hd) (v := .int d9) rfl)) (ev_op ev_c (ev_op ev_c (ev_op (ev_var rfl) ev_c (rv_ixL (sq_of hd) (v := .int d5) rfl)) (rv_I (.inl ⟨by decide, by decide⟩))) rv_I0) (rv_I ⟨by omega, by omega⟩)) (ea_cons (ev_var rfl) (ea_cons (ev_op (ev_op (ev_var rfl) ev_c (rv_ixL (sq_of hd) (v := .int d10) rfl)) (ev_op ev_c (ev_op ev_c (ev_op (ev_var rfl) ev_c (rv_ixL (sq_of hd) (v := .int d5) rfl)) (rv_I (.inl ⟨by decide, by decide⟩))) rv_I0) (rv_I ⟨by omega, by omega⟩)) (ea_cons (ev_op ev_c (ev_op (ev_op (ev_var rfl) ev_c (rv_ixL (sq_of hd) (v := .int d11) rfl)) ev_c (rv_I (by show (0 : Int) < 4; decide))) rv_I0) ea_nil))))))) (Nat.le_of_ble_eq_true rfl)) fun p H8 hp e8 h8 => q p H8 [8, MAIN, 1 + d1, d9 / (1 + 9 * d5), 1 + d3, d10 / (1 + 9 * d5), 1 + d11 % 4] (fresh_back (eW.trans (k0.trans k1)) hp) ((eW.trans (k0.trans k1)).trans e8) h8 (.k8 (by omega) (dv0 b9.1 (by omega)) (dv1 b9 (by omega)) (by omega) (dv0 b10.1 (by omega)) (dv1 b10 (by omega)) (by omega))
    replace k0 := k0.trans k1; skip
    refine q_when (et_test (ev_op (ev_var rfl) ev_c (rv_eq rfl))) (fun hb K1 k1 => ?_) (fun _ K1 k1 => ?_)
    · have hd := (k0.trans k1) _ _ hd; have hw := (k0.trans k1) _ _ hw
      exact s_retU (eu_tup (ea_cons ev_c (ea_cons (ev_var rfl) (ea_cons (ev_var rfl) (ea_cons (ev_op (ev_var rfl) ev_c (rv_ixL (sq_of hd) (v := .int d6) rfl)) ea_nil)))) (Nat.le_of_ble_eq_true rfl)) fun p H8 hp e8 h8 => q p H8 [9, MAIN, 1 + d1, d6] (fresh_back (eW.trans (k0.trans k1)) hp) ((eW.trans (k0.trans k1)).trans e8) h8 (.k9 (by omega) (by omega))
    replace k0 := k0.trans k1; skip
    have hd := k0 _ _ hd
    exact s_retU (eu_tup (ea_cons ev_c (ea_cons (ev_var rfl) (ea_cons (ev_var rfl) ea_nil))) (Nat.le_of_ble_eq_true rfl)) fun p H8 hp e8 h8 => q p H8 [10, MAIN, 1 + d1] (fresh_back (eW.trans k0) hp) ((eW.trans k0).trans e8) h8 (.k10 (by omega))
end

end K70

set_option Elab.async false
set_option linter.all false
set_option maxRecDepth 100000
set_option maxHeartbeats 4000000
namespace K70
open PySem PySem.Spec PyProof.Rows L2 Evl LK LT LG LS LQ LX LO LN LP LH LV StX
/-! ### the log -/
def flds (g s r : Int) : List (Str × V) := [(("generation" : Str), .int g), (("next_sector" : Str), .int s), (("next_record" : Str), .int r)]
theorem fl_g (g s r : Int) : (flds g s r).lookup ("generation" : Str) = some (V.int g) := rfl
theorem fl_s (g s r : Int) : (flds g s r).lookup ("next_sector" : Str) = some (V.int s) := rfl
theorem fl_r (g s r : Int) : (flds g s r).lookup ("next_record" : Str) = some (V.int r) := rfl
theorem fl_ps (g s r s' : Int) : putF "next_sector" (V.int s') (flds g s r) = flds g s' r := rfl
theorem fl_pr (g s r r' : Int) : putF "next_record" (V.int r') (flds g s r) = flds g s r' := rfl
theorem fl_no (g s r : Int) {m : Str} (h : m ≠ "generation" ∧ m ≠ "next_sector" ∧ m ≠ "next_record") : (flds g s r).lookup m = Option.none := by
  unfold flds
  rw [List.lookup_cons, beq_false_of_ne h.1, List.lookup_cons, beq_false_of_ne h.2.1, List.lookup_cons, beq_false_of_ne h.2.2]
  rfl
def Lg (C : Addr) (H : Hp) (p : Addr) (g s r : Int) : Prop := ∃ dx, H p = some (.ins C dx (flds g s r))
theorem Lg.ex {C p : Addr} {H H' : Hp} {g s r : Int} (h : Lg C H p g s r) (e : Ex H H') : Lg C H' p g s r := let ⟨dx, h⟩ := h; ⟨dx, e _ _ h⟩
/-- a list of tuples of ints -/
def TL (H : Hp) (a : Addr) (yss : List (List Int)) : Prop := ∃ ts : List Addr, H a = some (.lst (ts.map V.ref)) ∧ ts.length = yss.length ∧ ∀ (i : Nat) (t : Addr) (ys : List Int), ts[i]? = some t → yss[i]? = some ys → H t = some (.tup (ys.map V.int))
theorem TL.ex {H H' : Hp} {a : Addr} {yss : List (List Int)} (h : TL H a yss) (e : Ex H H') : TL H' a yss := let ⟨ts, h1, h2, h3⟩ := h; ⟨ts, e _ _ h1, h2, fun i t ys x y => e _ _ (h3 i t ys x y)⟩
def Few (yss : List (List Int)) : Prop := yss.length ≤ 4 ∧ ∀ ys ∈ yss, ys.length ≤ 90
def part (yss : List (List Int)) (j : Nat) : Int := pI (yss.getD j []).length
def tot (yss : List (List Int)) (i : Nat) : Int := preSum (part yss) i
theorem part_b {yss : List (List Int)} (h : Few yss) (j : Nat) : 0 ≤ part yss j ∧ part yss j ≤ 23 := by
  unfold part
  have h2 : (yss.getD j []).length ≤ 90 := by
    rw [List.getD_eq_getElem?_getD]
    cases e : yss[j]? with
    | none => exact Nat.zero_le _
    | some ys => exact h.2 ys (List.mem_of_getElem? e)
  exact ⟨by have := pI_pos (yss.getD j []).length; omega, pI_le h2⟩
theorem tot_b {yss : List (List Int)} (h : Few yss) : ∀ i : Nat, 0 ≤ tot yss i ∧ tot yss i ≤ 23 * i
  | 0 => ⟨by show (0 : Int) ≤ 0; decide, by show (0 : Int) ≤ _; omega⟩
  | i + 1 => by
    have h1 := tot_b h i
    have h2 := part_b h i
    have e : tot yss (i + 1) = tot yss i + part yss i := rfl
    rw [e]
    omega
theorem part_at {yss : List (List Int)} {i : Nat} {ys : List Int} (h : yss[i]? = some ys) : part yss i = pI ys.length := by
  unfold part
  rw [List.getD_eq_getElem?_getD, h]
  rfl
def spInit (C : Addr) : Sp := fun vs H Q _ => ∃ p dx g, vs = [.ref p, .int g] ∧ H p = some (.ins C dx []) ∧ ∀ H1, Bx p H H1 → Lg C H1 p g 4 1 → Q .non H1
def spFits (C Pt : Addr) : Sp := fun vs H Q _ => ∃ p g s r a yss, vs = [.ref p, .ref a] ∧ Lg C H p g s r ∧ TL H a yss ∧ Few yss ∧ Tab H Pt ∧ RetV (.bl (decide (s + tot yss yss.length ≤ 20))) H Q
def spCe (K : PySem.W.Frag) : Sp := fun vs H Q _ => ∃ (p : Addr) (row : List Int) (n : Int), vs = [.ref p, .int n] ∧ H p = some (.lst (row.map V.int)) ∧ n = row.length ∧ RetV (.bl true) H Q
section
variable {P : Program} {w : World} {K : PySem.W.Frag} {mg : Str → Option Value} {base : Heap} {C Pt : Addr}
theorem ok_init {f : Addr} {fd : FuncData} (F : Fun K "__init__" "Log.__init__" sInit f fd) (T : Txt mg K C) : FnOk P w K mg base CX0 1 f fd ["self", "generation"] (spInit C) := by
  obtain ⟨_, gFIRST_SECTOR⟩ := T.gFIRST_SECTOR
  refine F.ok scInit (fun vs H Q E h => ?_) (fun cdv A outer s H vs Q E hr h => ?_)
  · obtain ⟨p, dx, g, rfl, _⟩ := h
    rfl
  · obtain ⟨p, dx, g, rfl, ho, q⟩ := h
    refine ⟨_, (pss_cons (ps_fld (pv 0) (pv 1) rfl)
      (pss_cons (ps_fld (pv 0) (pe_glob (v := .int 4) rfl gFIRST_SECTOR ⟨_, rfl⟩) rfl)
      (pss_one (ps_fld (pv 0) pe_int rfl)))), ?_⟩
    refine q_fld (ev_var rfl) (ev_var rfl) ho T.cl T.nG (by show 0 < 1000; decide) fun H1 e1 => ?_
    refine q_fld ev_c (ev_var rfl) upd_same T.cl T.nS (by show 1 < 1000; decide) fun H2 e2 => ?_
    refine s_fld ev_c (ev_var rfl) upd_same T.cl T.nR (by show 2 < 1000; decide) fun H3 e3 => ?_
    refine q _ (((Bx.of e1).up.trans (Bx.of e2)).up.trans (Bx.of e3)).up ⟨dx, upd_same⟩
theorem ok_fits {f fS c : Addr} {fd fdS : FuncData} (F : FunC K "fits" "Log.fits" sFits f fd c) (TB : LamX.TabB base mg c Pt) (FSo : Fun K "sectors_of" "sectors_of" sSo fS fdS) (bSo : Binds K fdS ["intent"] []) (gSo : mg "sectors_of" = some (.ref fS)) (GSo : FnOk P w K mg base CX0 2 fS fdS ["intent"] (spSo K)) (T : Txt mg K C) : FnOk P w K mg base CX0 5 f fd ["self", "intents"] (spFits C Pt) := by
  obtain ⟨_, gFIRST_SECTOR⟩ := T.gFIRST_SECTOR
  obtain ⟨_, gLOG_SECTORS⟩ := T.gLOG_SECTORS
  refine F.ok scFits (fun vs H Q E h => ?_) (fun A outer s H vs Q E hr h => ?_)
  · obtain ⟨p, g, s, r, a, yss, rfl, _⟩ := h
    rfl
  · obtain ⟨p, g, s, r, a, yss, rfl, ⟨dx, ho⟩, ⟨ts, ha, hl, hT⟩, hf, hP, q⟩ := h
    refine ⟨_, (pss_one (ps_ret (pe_cmpR op_le (pe_op op_add (pe_fld (pv 0) rfl) (LH.pe_gen (own := [("intent", 2)]) (g := (gName 2)) (b := "sum") (by first | rfl | decide +kernel) (fun _ _ _ _ _ _ _ _ ok R => LH.call_sum_rdy ok R) hr scFits.nd (by rfl) T.sum TB rfl ⟨rfl, by decide +kernel, rfl⟩ (blkOk_by (own := [("intent", 2)]) (N := ["self", "intents", "intent"]) (sc := defScope sFits) (by decide +kernel)) (pi_list (pv 1)) (fun _ => rfl) (fun _ _ _ _ _ _ _ => pg_name (i := 2) scFits.nd rfl (Or.inl rfl)) (fun _ _ _ _ _ _ hr => (pe_call GSo (hr.mono (by decide)) (by rfl) gSo FSo.kp bSo .nil pass0 (pa_cons (pv 2) pa_nil))))) (pe_op op_add (pe_glob (v := .int 4) rfl gFIRST_SECTOR ⟨_, rfl⟩) (pe_glob (v := .int 16) rfl gLOG_SECTORS ⟨_, rfl⟩)) (nomark _)))), ?_⟩
    have hb := tot_b hf
    have hlen : yss.length ≤ 4 := hf.1
    refine s_ret (ev_op (ev_op (ev_fld (ev_var rfl) ho T.cl T.nS (fl_s _ _ _)) (ev_gxL (xs := ts.map V.ref) (ev_var rfl) (sq_of ha) hP (ok_sum (part yss) fun j hj => ?_) (fun _ => rfl) fun i x H1 e1 hx => ?_) rv_I0) (ev_op ev_c ev_c rv_I0) rv_I0) fun H1 e1 => ?_
    · rw [List.length_map] at hj
      have h1 := part_b hf j
      have h2 := hb (j + 1)
      have e : preSum (part yss) (j + 1) = tot yss (j + 1) := rfl
      rw [e]
      exact ⟨⟨by omega, by omega⟩, by omega, by omega⟩
    · rw [List.getElem?_map] at hx
      obtain ⟨t, ht, rfl⟩ := Option.map_eq_some_iff.mp hx
      have hi := (List.getElem?_eq_some_iff.mp ht).1
      have hy : yss[i]? = some yss[i] := List.getElem?_eq_getElem (by omega)
      rw [part_at hy]
      exact ev_call (ea_cons (ev_var rfl) ea_nil) (sv_so (st_of (e1 _ _ (hT i t _ ht hy))))
    · rw [List.length_map, hl]
      exact q H1 e1
theorem ok_ce {f : Addr} {fd : FuncData} (F : Fun K "_law_cells" "_law_cells" sCe f fd) (T : Txt mg K C) : FnOk P w K mg base CX0 1 f fd ["row", "size"] (spCe K) := by
  refine F.ok scCe (fun vs H Q E h => ?_) (fun cdv A outer s H vs Q E hr h => ?_)
  · obtain ⟨p, row, n, rfl, _⟩ := h
    rfl
  · obtain ⟨p, row, n, rfl, ho, hn, q⟩ := h
    refine ⟨_, (pss_cons (ps_if (PW.pt (pw_or (pt_not (pt_val (pe_callB call_isi (by rfl) T.isinstance (by decide +kernel) (pa_cons (pv 0) (pa_cons (pe_bltn (v := .ty "list") (u := .type "list") (by rfl) T.list (by decide +kernel) rfl) pa_nil))))) (pw_or1 (pt_cmpR op_ne (pe_callB call_len_seq (by rfl) T.len (by decide +kernel) (pa_cons (pv 0) pa_nil)) (pv 1) (nomark _))))) (pss_one (ps_ret pe_bl)) pss_nil)
      (pss_cons (ps_for PassesOwn.never rfl (pi_list (pv 0)) (pg_name (i := 2) scCe.nd rfl (Or.inl rfl)) (pss_one (ps_if (PW.pt (pw_or (pt_not (pt_val (pe_callB call_isi (by rfl) T.isinstance (by decide +kernel) (pa_cons (pv 2) (pa_cons (pe_bltn (v := .ty "int") (u := .type "int") (by rfl) T.int (by decide +kernel) rfl) pa_nil))))) (pw_or1 (pt_val (pe_callB call_isi (by rfl) T.isinstance (by decide +kernel) (pa_cons (pv 2) (pa_cons (pe_bltn (v := .ty "bool") (u := .type "bool") (by rfl) T.bool (by decide +kernel) rfl) pa_nil))))))) (pss_one (ps_ret pe_bl)) pss_nil)))
      (pss_one (ps_ret pe_bl)))), ?_⟩
    refine q_when (b := false) (et_is (et_or (et_not (et_B (ev_isk (ev_var rfl) ev_c (.lst ho) (kd_list (K := K) (H := H) (.lst ho))))) fun _ => et_test (ev_op (ev_is (ev_lenL (ev_var rfl) ho) (by rw [List.length_map])) (ev_var rfl) (rv_ne rfl))) (by rw [hn]; simp)) (fun h => by cases h) fun _ H1 e1 => ?_
    refine q_forLn (ev_var rfl) (sq_of (e1 _ _ ho)) (fun i σ' H' => ∃ y, σ' = [some (.ref p), some (.int n), y] ∧ Ex H H') (fun H2 e2 => ⟨none, rfl, e1.trans e2⟩) (fun i σ' H' _ pp => by obtain ⟨_, _, e⟩ := pp; exact sq_of (e _ _ ho)) (fun i x σ' H' hx pp => ?_) (fun σ' H' pp => ?_)
    · obtain ⟨y, rfl, e2⟩ := pp
      rw [List.getElem?_map] at hx
      obtain ⟨z, _, rfl⟩ := Option.map_eq_some_iff.mp hx
      exact s_when (b := false) (et_is (et_or (et_not (et_B (ev_isk (ev_var rfl) ev_c (.int z) (kd_int (K := K) (H := H') (.int z))))) fun _ => et_B (ev_isk (ev_var rfl) ev_c (.int z) (kd_bool (K := K) (H := H') (.int z)))) rfl) (fun h => by cases h) fun _ H3 e3 => ⟨_, rfl, e2.trans e3⟩
    · obtain ⟨y, rfl, e2⟩ := pp
      exact s_ret ev_c fun H3 e3 => q H3 (e2.trans e3)
end
end K70

set_option Elab.async false
set_option linter.all false
set_option maxRecDepth 100000
set_option maxHeartbeats 4000000
namespace K70
open PySem PySem.Spec PyProof.Rows L2 Evl LK LT LG LS LQ LX LO LN LP LH LV StX
/-! ### writes: sectors and their words -/
def Ws (H : Hp) (es : List Addr) (s : Int) (rows : List (List Int)) : Prop := es.length = rows.length ∧ ∀ (j : Nat) (e : Addr) (row : List Int), es[j]? = some e → rows[j]? = some row → ∃ k, H e = some (.tup [.int (s + j), .ref k]) ∧ H k = some (.lst (row.map V.int))
def Wr (H : Hp) (w : Addr) (s : Int) (rows : List (List Int)) : Prop := ∃ es : List Addr, H w = some (.lst (es.map V.ref)) ∧ Ws H es s rows
theorem Ws.ex {H H' : Hp} {es : List Addr} {s : Int} {rows : List (List Int)} (h : Ws H es s rows) (e : Ex H H') : Ws H' es s rows := ⟨h.1, fun j x row a b => let ⟨k, h1, h2⟩ := h.2 j x row a b; ⟨k, e _ _ h1, e _ _ h2⟩⟩
theorem Wr.ex {H H' : Hp} {w : Addr} {s : Int} {rows : List (List Int)} (h : Wr H w s rows) (e : Ex H H') : Wr H' w s rows := let ⟨es, h1, h2⟩ := h; ⟨es, e _ _ h1, h2.ex e⟩
theorem Ws.snoc {H : Hp} {es : List Addr} {s : Int} {rows : List (List Int)} {x k : Addr} {row : List Int} (h : Ws H es s rows) (hx : H x = some (.tup [.int (s + rows.length), .ref k])) (hk : H k = some (.lst (row.map V.int))) : Ws H (es ++ [x]) s (rows ++ [row]) := by
  refine ⟨by rw [List.length_append, List.length_append, h.1]; rfl, fun i e row' a b => ?_⟩
  by_cases hi : i < es.length
  · rw [List.getElem?_append_left hi] at a
    rw [List.getElem?_append_left (by rw [← h.1]; exact hi)] at b
    exact h.2 i e row' a b
  · rw [List.getElem?_append_right (by omega)] at a
    rw [List.getElem?_append_right (by rw [← h.1]; omega), ← h.1] at b
    cases hz : i - es.length with
    | zero =>
      rw [hz] at a b
      cases a
      cases b
      have e : i = rows.length := by rw [← h.1]; omega
      rw [e]
      exact ⟨k, hx, hk⟩
    | succ j =>
      rw [hz] at a
      cases a
/-- the rows of the first i intents -/
def allR (yss : List (List Int)) (r g : Int) (i : Nat) : List (List Int) := (List.range i).flatMap fun j => rowsI (yss.getD j []) (r + j) g
theorem allR_succ (yss : List (List Int)) (r g : Int) (i : Nat) : allR yss r g (i + 1) = allR yss r g i ++ rowsI (yss.getD i []) (r + i) g := by
  unfold allR
  rw [List.range_succ, List.flatMap_append]
  simp
theorem allR_len (yss : List (List Int)) (r g : Int) : ∀ i : Nat, ((allR yss r g i).length : Int) = tot yss i
  | 0 => rfl
  | i + 1 => by
    rw [allR_succ, List.length_append]
    have h1 := allR_len yss r g i
    have h2 := rows_len (yss.getD i []) (r + i) g
    have e : tot yss (i + 1) = tot yss i + part yss i := rfl
    have e2 : part yss i = pI (yss.getD i []).length := rfl
    omega
theorem allR_8 {yss : List (List Int)} {r g : Int} {i : Nat} {row : List Int} (h : row ∈ allR yss r g i) : row.length = 8 := by
  unfold allR at h
  obtain ⟨j, _, h⟩ := List.mem_flatMap.mp h
  obtain ⟨k, hk, e⟩ := List.mem_iff_getElem.mp h
  obtain ⟨h1, h2⟩ := rows_at (i := k) (row := row) (by rw [List.getElem?_eq_getElem hk, e])
  rw [h2]
  exact row_len h1
theorem ks_at {ks : List Addr} {rows : List (List Int)} (h : ks.length = rows.length) {i : Nat} {x : V} (hx : (ks.map V.ref)[i]? = some x) : ∃ (k : Addr) (row : List Int), x = .ref k ∧ ks[i]? = some k ∧ rows[i]? = some row := by
  rw [List.getElem?_map] at hx
  obtain ⟨k, hk, rfl⟩ := Option.map_eq_some_iff.mp hx
  have hi := (List.getElem?_eq_some_iff.mp hk).1
  exact ⟨k, rows[i], rfl, hk, List.getElem?_eq_getElem (by omega)⟩
theorem take_snoc {α : Type} {l : List α} {i : Nat} {x : α} (h : l[i]? = some x) : l.take (i + 1) = l.take i ++ [x] := by
  rw [List.take_add_one, h]
  rfl
def spWr : Sp := fun vs H Q _ => ∃ a s r g yss, vs = [.ref a, .int s, .int r, .int g] ∧ TL H a yss ∧ Few yss ∧ ∀ wl H1, H wl = none → Ex H H1 → Wr H1 wl s (allR yss r g yss.length) → Q (.ref wl) H1
def spApp (C CS Pt : Addr) : Sp := fun vs H Q E => ∃ p g s r a yss, vs = [.ref p, .ref a] ∧ Lg C H p g s r ∧ TL H a yss ∧ Few yss ∧ Tab H Pt ∧ (¬ s + tot yss yss.length ≤ 20 → ∀ H1, Ex H H1 → E (.ref CS) none H1) ∧
  (s + tot yss yss.length ≤ 20 → ∀ wl H1, H wl = none → Bx p H H1 → Lg C H1 p g (s + tot yss yss.length) (r + yss.length) → Wr H1 wl s (allR yss r g yss.length) → Q (.ref wl) H1)
theorem sv_fits {C Pt : Addr} {H : Hp} {p a : Addr} {g s r : Int} {yss : List (List Int)} (h : Lg C H p g s r) (hT : TL H a yss) (hf : Few yss) (hP : Tab H Pt) : SpV (spFits C Pt) [.ref p, .ref a] H (.bl (decide (s + tot yss yss.length ≤ 20))) := fun H1 e1 Q q E => ⟨p, g, s, r, a, yss, rfl, h.ex e1, hT.ex e1, hf, hP.mono e1, q⟩
section
variable {P : Program} {w : World} {K : PySem.W.Frag} {mg : Str → Option Value} {base : Heap} {C CS CL Pt : Addr}
theorem ok_wr {f fR : Addr} {fd fdR : FuncData} (F : Fun K "_law_writes" "_law_writes" sWr f fd) (FRs : Fun K "record_sectors" "record_sectors" sRs fR fdR) (bRs : Binds K fdR ["intent", "record", "generation"] []) (gRs : mg "record_sectors" = some (.ref fR)) (GRs : FnOk P w K mg base CX0 3 fR fdR ["intent", "record", "generation"] (spRs K)) (T : Txt mg K C) : FnOk P w K mg base CX0 4 f fd ["intents", "sector", "record", "generation"] spWr := by
  refine F.ok scWr (fun vs H Q E h => ?_) (fun cdv A outer s H vs Q E hr h => ?_)
  · obtain ⟨a, s, r, g, yss, rfl, _⟩ := h
    rfl
  · obtain ⟨a, s, r, g, yss, rfl, ⟨ts, ha, hl, hT⟩, hf, q⟩ := h
    refine ⟨_, (pss_cons (ps_set (i := 4) scWr.nd rfl (Or.inl rfl) (pe_lst pa_nil))
      (pss_cons (ps_for PassesOwn.never rfl (pi_list (pv 0)) (pg_name (i := 5) scWr.nd rfl (Or.inl rfl)) (pss_cons (ps_for PassesOwn.never rfl (pi_list (pe_call GRs (hr.mono (by decide)) (by rfl) gRs FRs.kp bRs .nil pass0 (pa_cons (pv 5) (pa_cons (pv 2) (pa_cons (pv 3) pa_nil))))) (pg_name (i := 6) scWr.nd rfl (Or.inl rfl)) (pss_cons (ps_expr (pe_bm PySem.F.plainAttrs_list PySem.F.slot_list_append PySem.F.type_list_append mt_append (pv 4) (pa_cons (pe_tup (pa_cons (pv 1) (pa_cons (pv 6) pa_nil))) pa_nil)))
      (pss_one (ps_set (i := 1) scWr.nd rfl (Or.inl rfl) (pe_op op_add (pv 1) pe_int)))))
      (pss_one (ps_set (i := 2) scWr.nd rfl (Or.inl rfl) (pe_op op_add (pv 2) pe_int)))))
      (pss_one (ps_ret (pv 4))))), ?_⟩
    have hlen : yss.length ≤ 4 := hf.1
    have hb := tot_b hf
    refine q_asgL (el_lst ea_nil (by decide)) fun wl H1 hw e1 h1 => ?_
    refine q_forLn (xs := ts.map V.ref) (ev_var rfl) (sq_of (e1 _ _ ha)) (fun i σ' H' => ∃ y5 y6 es, σ' = [some (.ref a), some (.int (s + tot yss i)), some (.int (r + i)), some (.int g), some (.ref wl), y5, y6] ∧ Ex H H' ∧ H' wl = some (.lst (es.map V.ref)) ∧ Ws (frz [wl] H') es s (allR yss r g i) ∧ i ≤ yss.length)
      (fun H2 e2 => ⟨none, none, [], by rw [show tot yss 0 = 0 from rfl, Int.add_zero]; show [_, _, _, _, _, _, _] = _; rw [show r + ((0 : Nat) : Int) = r by omega], e1.trans e2, e2 _ _ h1, ⟨rfl, fun j e row a => nomatch a⟩, Nat.zero_le _⟩) (fun i σ' H' _ pp => by obtain ⟨_, _, _, _, e, _⟩ := pp; exact sq_of (e _ _ ha)) (fun i x σ' H' hx pp => ?_) (fun σ' H' pp => ?_)
    · obtain ⟨y5, y6, es, rfl, e2, hes, hW, hi⟩ := pp
      rw [List.getElem?_map] at hx
      obtain ⟨t, ht, rfl⟩ := Option.map_eq_some_iff.mp hx
      have hil := (List.getElem?_eq_some_iff.mp ht).1
      have hy : yss[i]? = some yss[i] := List.getElem?_eq_getElem (by omega)
      have hyd : yss.getD i [] = yss[i] := by rw [List.getD_eq_getElem?_getD, hy]; rfl
      have hy90 := hf.2 _ (List.mem_of_getElem? hy)
      have hbi := hb i
      refine q_forCall (ea_cons (ev_var rfl) (ea_cons (ev_var rfl) (ea_cons (ev_var rfl) ea_nil))) fun H2 e3 => ⟨t, yss[i], r + i, g, rfl, st_of ((e2.trans e3) _ _ (hT i t _ ht hy)), hy90, fun q1 H3 hq1 e4 hL => ?_⟩
      obtain ⟨ks, hks, hkl, hkr⟩ := hL
      have hrl := rows_len yss[i] (r + i) g
      have hp90 := pI_le hy90
      refine ⟨q1, rfl, ⟨_, sq_of hks⟩, for_list (xs := ks.map V.ref) (fun j σ2 H4 => ∃ y6 es2, σ2 = [some (.ref a), some (.int (s + tot yss i + j)), some (.int (r + i)), some (.int g), some (.ref wl), some (.ref t), y6] ∧ Bx wl H3 H4 ∧ H4 wl = some (.lst (es2.map V.ref)) ∧ Ws (frz [wl] H4) es2 s (allR yss r g i ++ (rowsI yss[i] (r + i) g).take j) ∧ j ≤ ks.length)
        ⟨y6, es, by rw [show s + tot yss i + ((0 : Nat) : Int) = s + tot yss i by omega]; rfl, Bx.of (Ex.refl _), e4 _ _ (e3 _ _ hes), by rw [List.take_zero, List.append_nil]; exact hW.ex (ex_frz (e3.trans e4)), Nat.zero_le _⟩ (fun j σ2 H4 _ pp => ?_) (fun j x σ2 H4 hx pp => ?_) (fun σ2 H4 pp => ?_)⟩
      · obtain ⟨_, _, _, b4, _⟩ := pp
        exact b4.l (fun z => by rw [z, e3 _ _ hes] at hq1; cases hq1) (sq_of hks)
      · obtain ⟨y6', es2, rfl, b4, hes2, hW2, hj⟩ := pp
        obtain ⟨k, row, rfl, hk, hrow⟩ := ks_at hkl hx
        have hjl := (List.getElem?_eq_some_iff.mp hk).1
        have hk3 := hkr j k row hk hrow
        have nk : k ≠ wl := fun z => by
          rw [z, e4 _ _ (e3 _ _ hes)] at hk3
          have h9 := hW.1
          rcases es with _ | ⟨e0, es⟩
          · rcases row with _ | ⟨z0, row⟩
            · have := (rows_at hrow).2
              have := congrArg List.length this
              rw [row_len (rows_at hrow).1] at this
              cases this
            · cases hk3
          · rcases row with _ | ⟨z0, row⟩
            · cases hk3
            · cases hk3
        have hlenR : ((allR yss r g i).length : Int) = tot yss i := allR_len yss r g i
        have htk : ((rowsI yss[i] (r + i) g).take j).length = j := by rw [List.length_take]; omega
        refine q_appU hes2 (ev_var rfl) (eu_tup (ea_cons (ev_var rfl) (ea_cons (ev_var rfl) ea_nil)) (Nat.le_of_ble_eq_true rfl)) (by rw [List.length_map, hW2.1, List.length_append, htk]; omega) fun x H5 hx5 e5 h5 => ?_
        have nx : x ≠ wl := fun z => by rw [z, hes2] at hx5; cases hx5
        refine s_asg (ev_op (ev_var rfl) ev_c rv_I0) fun H6 e6 => ⟨_, es2 ++ [x], by show [_, _, _, _, _, _, _] = _; rw [show s + tot yss i + ((j + 1 : Nat) : Int) = s + tot yss i + j + 1 by omega], ((b4.trans (Bx.of e5)).up).trans (Bx.of e6), by rw [e6 _ _ upd_same, List.map_append]; rfl, ?_, hjl⟩
        rw [take_snoc hrow, ← List.append_assoc]
        have b6 : Ex (frz [wl] H5) (frz [wl] H6) := fun a o h => by
          obtain ⟨h7, h8⟩ := frz_some h
          rw [frz_ne h7]
          exact e6 _ _ (by rw [upd_ne fun z => h7 (List.mem_singleton.mpr z)]; exact h8)
        have hk4 : H5 k = some (.lst (row.map V.int)) := e5 _ _ (b4 _ _ nk hk3)
        exact ((hW2.ex (ex_frz e5)).snoc (x := x) (k := k) (by
          rw [frz_ne fun z => nx (List.mem_singleton.mp z), h5, List.length_append, htk]
          rw [show s + tot yss i + (j : Int) = s + (((allR yss r g i).length + j : Nat) : Int) by omega]) (by rw [frz_ne fun z => nk (List.mem_singleton.mp z)]; exact hk4)).ex b6
      · obtain ⟨y6', es2, rfl, b4, hes2, hW2, hj⟩ := pp
        rw [List.length_map] at *
        have htk : (rowsI yss[i] (r + i) g).take ks.length = rowsI yss[i] (r + i) g := by rw [hkl, List.take_length]
        rw [htk] at hW2
        refine s_asg (ev_op (ev_var rfl) ev_c rv_I0) fun H5 e5 => ⟨some (.ref t), y6', es2, ?_, ?_, e5 _ _ hes2, ?_, by omega⟩
        · have e : tot yss (i + 1) = tot yss i + part yss i := rfl
          rw [e, part_at hy, ← hrl]
          show [_, _, _, _, _, _, _] = _
          rw [show s + (tot yss i + ((rowsI yss[i] (r + i) g).length : Int)) = s + tot yss i + (ks.length : Int) by rw [hkl]; omega, show r + ((i + 1 : Nat) : Int) = r + i + 1 by omega]
        · exact (Bx.ex (((e2.trans e3).trans e4)) b4 (fresh_back (Ex.refl _) hw)).trans e5
        · rw [allR_succ, hyd]
          exact hW2.ex (ex_frz e5)
    · obtain ⟨y5, y6, es, rfl, e2, hes, hW, hi⟩ := pp
      rw [List.length_map, hl] at *
      exact s_ret (ev_var rfl) fun H3 e3 => q wl H3 hw (e2.trans e3) ⟨es, e3 _ _ hes, (hW.ex frz_ex).ex e3⟩
end
end K70

set_option Elab.async false
set_option linter.all false
set_option maxRecDepth 100000
set_option maxHeartbeats 4000000
namespace K70
open PySem PySem.Spec PyProof.Rows L2 Evl LK LT LG LS LQ LX LO LN LP LH LV StX
section
variable {P : Program} {w : World} {K : PySem.W.Frag} {mg : Str → Option Value} {base : Heap} {C CS CL Pt : Addr}
/-- o.f += e -/
theorem s_fldaug {σ : L2.St} {H : Hp} {ta te : TE} {D : Ends} {p dx : Addr} {fs : List (Str × V)} {m : Str} {a b : Int} (ha : Ev ta σ H (.ref p)) (hi : H p = some (.ins C dx fs)) (c : Cls K C) (n : NoAttr K C m) (hl : fs.lookup m = some (.int a)) (hz : fs.length < 1000) (he : Ev te σ H (.int b)) (k : ∀ H1, Ex H H1 → D.nx σ (upd H1 p (.ins C dx (putF m (.int (a + b)) fs)))) :
    sFldAug K ta te (ipI fun i j => i + j) m D σ H := ha H (Ex.refl _) _ fun H1 e1 => ⟨p, C, dx, fs, .int a, rfl, e1 _ _ hi, c, n, hl, he H1 e1 _ fun H2 e2 => ⟨a, b, rfl, rfl, dx, fs, e2 _ _ (e1 _ _ hi), hz, k H2 (e1.trans e2)⟩⟩
theorem ok_app {f fF fR : Addr} {fd fdF fdR : FuncData} (F : Fun K "append_records" "Log.append_records" sApp f fd) (Gfits : FnOk P w K mg base CX0 5 fF fdF ["self", "intents"] (spFits C Pt)) (bfits : Binds K fdF ["self", "intents"] []) (mfits : Meth K C "fits" fF)
    (FRs : Fun K "record_sectors" "record_sectors" sRs fR fdR) (bRs : Binds K fdR ["intent", "record", "generation"] []) (gRs : mg "record_sectors" = some (.ref fR)) (GRs : FnOk P w K mg base CX0 3 fR fdR ["intent", "record", "generation"] (spRs K)) (T : Txt mg K C) (XS : Xc K mg "NoSpace" CS) : FnOk P w K mg base (L2.CX P w) 6 f fd ["self", "intents"] (spApp C CS Pt) := by
  refine F.okX scApp (fun vs H Q E h => ?_) (fun cdv A outer s H vs Q E hr h => ?_)
  · obtain ⟨p, g, s, r, a, yss, rfl, _⟩ := h
    rfl
  · obtain ⟨p, g, s, r, a, yss, rfl, hLg, hTL, hf, hP, qE, q⟩ := h
    obtain ⟨dx, ho⟩ := hLg
    obtain ⟨ts, ha, hl, hT⟩ := hTL
    refine ⟨_, (pss_cons (ps_if (pt_not (pt_val (pe_meth (pv 0) T.cl mfits Gfits (hr.mono (by decide)) bfits .nil pass0 (pa_cons (pv 1) pa_nil)))) (pss_one (ps_raise0 rfl XS (takes_of rfl rfl rfl rfl) (by rfl))) pss_nil)
      (pss_cons (ps_set (i := 2) scApp.nd rfl (Or.inl rfl) (pe_lst pa_nil))
      (pss_cons (ps_for (passes_of rfl) rfl (pi_list (pv 1)) (pg_name (i := 3) scApp.nd rfl (Or.inl rfl)) (pss_cons (ps_for (passes_of rfl) rfl (pi_list (pe_call GRs (hr.mono (by decide)) (by rfl) gRs FRs.kp bRs .nil pass0 (pa_cons (pv 3) (pa_cons (pe_fld (pv 0) rfl) (pa_cons (pe_fld (pv 0) rfl) pa_nil))))) (pg_name (i := 4) scApp.nd rfl (Or.inl rfl)) (pss_cons (ps_expr (pe_bm PySem.F.plainAttrs_list PySem.F.slot_list_append PySem.F.type_list_append mt_append (pv 2) (pa_cons (pe_tup (pa_cons (pe_fld (pv 0) rfl) (pa_cons (pv 4) pa_nil))) pa_nil)))
      (pss_one (ps_fldaug (pv 0) pe_int in_add))))
      (pss_one (ps_fldaug (pv 0) pe_int in_add))))
      (pss_one (ps_ret (pv 2)))))), ?_⟩
    have hlen : yss.length ≤ 4 := hf.1
    have hb := tot_b hf
    have pa : a ≠ p := fun z => by rw [z, ho] at ha; cases ha
    refine q_when (et_not (et_B (ev_meth (ev_var rfl) ho (fl_no _ _ _ ⟨by decide +kernel, by decide +kernel, by decide +kernel⟩) (ea_cons (ev_var rfl) ea_nil) (sv_fits ⟨dx, ho⟩ ⟨ts, ha, hl, hT⟩ hf hP)))) (fun hb H1 e1 => qE (by simpa using hb) H1 e1) (fun hfit H0 e0 => ?_)
    have hfit : s + tot yss yss.length ≤ 20 := by simpa using hfit
    refine q_asgL (el_lst ea_nil (by decide)) fun wl H1 hw e1 h1 => ?_
    have e01 := e0.trans e1
    have hwH : H wl = none := fresh_back e0 hw
    have wp : wl ≠ p := fun z => by rw [z, e0 _ _ ho] at hw; cases hw
    refine q_forLn (xs := ts.map V.ref) (ev_var rfl) (sq_of (e01 _ _ ha)) (fun i σ' H' => ∃ y3 y4 es, σ' = [some (.ref p), some (.ref a), some (.ref wl), y3, y4] ∧ Bx p H H' ∧ H' p = some (.ins C dx (flds g (s + tot yss i) (r + i))) ∧ H' wl = some (.lst (es.map V.ref)) ∧ Ws (frz [wl, p] H') es s (allR yss r g i) ∧ i ≤ yss.length)
      (fun H2 e2 => ⟨none, none, [], rfl, Bx.of (e01.trans e2), by rw [(e01.trans e2) _ _ ho, show tot yss 0 = 0 from rfl, Int.add_zero, show r + ((0 : Nat) : Int) = r by omega], e2 _ _ h1, ⟨rfl, fun j e row a => nomatch a⟩, Nat.zero_le _⟩) (fun i σ' H' _ pp => by obtain ⟨_, _, _, _, e, _⟩ := pp; exact e.l pa (sq_of ha)) (fun i x σ' H' hx pp => ?_) (fun σ' H' pp => ?_)
    · obtain ⟨y3, y4, es, rfl, e2, hp, hes, hW, hi⟩ := pp
      rw [List.getElem?_map] at hx
      obtain ⟨t, ht, rfl⟩ := Option.map_eq_some_iff.mp hx
      have hil := (List.getElem?_eq_some_iff.mp ht).1
      have hy : yss[i]? = some yss[i] := List.getElem?_eq_getElem (by omega)
      have hyd : yss.getD i [] = yss[i] := by rw [List.getD_eq_getElem?_getD, hy]; rfl
      have hy90 := hf.2 _ (List.mem_of_getElem? hy)
      have hbi := hb i
      have htt := hT i t _ ht hy
      have tp : t ≠ p := fun z => by rw [z, ho] at htt; cases htt
      refine q_forCall (ea_cons (ev_var rfl) (ea_cons (ev_fld (ev_var rfl) hp T.cl T.nR (fl_r _ _ _)) (ea_cons (ev_fld (ev_var rfl) hp T.cl T.nG (fl_g _ _ _)) ea_nil))) fun H2 e3 => ⟨t, yss[i], r + i, g, rfl, st_of (e3 _ _ (e2 _ _ tp htt)), hy90, fun q1 H3 hq1 e4 hL => ?_⟩
      obtain ⟨ks, hks, hkl, hkr⟩ := hL
      have hrl := rows_len yss[i] (r + i) g
      have hp90 := pI_le hy90
      have e34 := e3.trans e4
      refine ⟨q1, rfl, ⟨_, sq_of hks⟩, for_list (xs := ks.map V.ref) (fun j σ2 H4 => ∃ y4 es2, σ2 = [some (.ref p), some (.ref a), some (.ref wl), some (.ref t), y4] ∧ (∀ b o, b ≠ p → b ≠ wl → H3 b = some o → H4 b = some o) ∧ H4 p = some (.ins C dx (flds g (s + tot yss i + j) (r + i))) ∧ H4 wl = some (.lst (es2.map V.ref)) ∧ Ws (frz [wl, p] H4) es2 s (allR yss r g i ++ (rowsI yss[i] (r + i) g).take j) ∧ j ≤ ks.length)
        ⟨y4, es, rfl, fun b o _ _ h => h, by rw [e34 _ _ hp, show s + tot yss i + ((0 : Nat) : Int) = s + tot yss i by omega], e34 _ _ hes, by rw [List.take_zero, List.append_nil]; exact hW.ex (ex_frz e34), Nat.zero_le _⟩ (fun j σ2 H4 _ pp => ?_) (fun j x σ2 H4 hx pp => ?_) (fun σ2 H4 pp => ?_)⟩
      · obtain ⟨_, _, _, b4, _⟩ := pp
        exact sq_of (b4 _ _ (fun z => by rw [z, e3 _ _ hp] at hq1; cases hq1) (fun z => by rw [z, e3 _ _ hes] at hq1; cases hq1) hks)
      · obtain ⟨y4', es2, rfl, b4, hp4, hes2, hW2, hj⟩ := pp
        obtain ⟨k, row, rfl, hk, hrow⟩ := ks_at hkl hx
        have hjl := (List.getElem?_eq_some_iff.mp hk).1
        have hk3 := hkr j k row hk hrow
        have nk : k ≠ wl := fun z => by
          rw [z, e34 _ _ hes] at hk3
          rcases es with _ | ⟨e0, es⟩
          · rcases row with _ | ⟨z0, row⟩
            · have := (rows_at hrow).2
              have := congrArg List.length this
              rw [row_len (rows_at hrow).1] at this
              cases this
            · cases hk3
          · rcases row with _ | ⟨z0, row⟩
            · cases hk3
            · cases hk3
        have nkp : k ≠ p := fun z => by
          rw [z, e34 _ _ hp] at hk3
          cases hk3
        have hlenR : ((allR yss r g i).length : Int) = tot yss i := allR_len yss r g i
        have htk : ((rowsI yss[i] (r + i) g).take j).length = j := by rw [List.length_take]; omega
        refine q_appU hes2 (ev_var rfl) (eu_tup (ea_cons (ev_fld (ev_var rfl) hp4 T.cl T.nS (fl_s _ _ _)) (ea_cons (ev_var rfl) ea_nil)) (Nat.le_of_ble_eq_true rfl)) (by rw [List.length_map, hW2.1, List.length_append, htk]; omega) fun x H5 hx5 e5 h5 => ?_
        have nx : x ≠ wl := fun z => by rw [z, hes2] at hx5; cases hx5
        have nxp : x ≠ p := fun z => by rw [z, hp4] at hx5; cases hx5
        have hp5 : (upd H5 wl (.lst (es2.map V.ref ++ [.ref x]))) p = some (.ins C dx (flds g (s + tot yss i + j) (r + i))) := by
          rw [upd_ne wp.symm]
          exact e5 _ _ hp4
        refine s_fldaug (ev_var rfl) hp5 T.cl T.nS (fl_s _ _ _) (by show 3 < 1000; decide) ev_c fun H6 e6 => ⟨_, es2 ++ [x], rfl, fun b o n1 n2 h => ?_, ?_, ?_, ?_, hjl⟩
        · rw [upd_ne n1]
          exact e6 _ _ (by rw [upd_ne n2]; exact e5 _ _ (b4 b o n1 n2 h))
        · rw [upd_same, fl_ps, show s + tot yss i + (j : Int) + 1 = s + tot yss i + ((j + 1 : Nat) : Int) by omega]
        · rw [upd_ne wp, e6 _ _ upd_same, List.map_append]
          rfl
        · rw [take_snoc hrow, ← List.append_assoc, frz_upd (by simp)]
          have b6 : Ex (frz [wl, p] H5) (frz [wl, p] H6) := fun a o h => by
            obtain ⟨h7, h8⟩ := frz_some h
            rw [frz_ne h7]
            exact e6 _ _ (by rw [upd_ne fun z => h7 (by rw [z]; simp)]; exact h8)
          have hk4 : H5 k = some (.lst (row.map V.int)) := e5 _ _ (b4 _ _ nkp nk hk3)
          have fz : ∀ b, b ≠ wl → b ≠ p → frz [wl, p] H5 b = H5 b := fun b h1 h2 => frz_ne (by simp [h1, h2])
          exact ((hW2.ex (ex_frz e5)).snoc (x := x) (k := k) (by
            rw [fz x nx nxp, h5, List.length_append, htk]
            rw [show s + tot yss i + (j : Int) = s + (((allR yss r g i).length + j : Nat) : Int) by omega]) (by rw [fz k nk nkp]; exact hk4)).ex b6
      · obtain ⟨y4', es2, rfl, b4, hp4, hes2, hW2, hj⟩ := pp
        rw [List.length_map] at *
        have htk : (rowsI yss[i] (r + i) g).take ks.length = rowsI yss[i] (r + i) g := by rw [hkl, List.take_length]
        rw [htk] at hW2
        refine s_fldaug (ev_var rfl) hp4 T.cl T.nR (fl_r _ _ _) (by show 3 < 1000; decide) ev_c fun H5 e5 => ⟨_, _, es2, rfl, fun b o n h => ?_, ?_, ?_, ?_, by omega⟩
        · rw [upd_ne n]
          have h3 := e34 _ _ (e2 b o n h)
          exact e5 _ _ (b4 b o n (fun z => by rw [z, hwH] at h; cases h) h3)
        · have e : tot yss (i + 1) = tot yss i + part yss i := rfl
          rw [upd_same, fl_pr, e, part_at hy, ← hrl, show s + (tot yss i + ((rowsI yss[i] (r + i) g).length : Int)) = s + tot yss i + (ks.length : Int) by rw [hkl]; omega, show r + ((i + 1 : Nat) : Int) = r + i + 1 by omega]
        · rw [upd_ne wp]
          exact e5 _ _ hes2
        · rw [allR_succ, hyd, frz_upd (by simp)]
          exact hW2.ex (ex_frz e5)
    · obtain ⟨y3, y4, es, rfl, e2, hp, hes, hW, hi⟩ := pp
      rw [List.length_map, hl] at *
      exact s_ret (ev_var rfl) fun H3 e3 => q hfit wl H3 hwH (e2.trans (Bx.of e3)) ⟨dx, e3 _ _ hp⟩ ⟨es, e3 _ _ hes, (hW.ex frz_ex).ex e3⟩
def spAp (C Pt : Addr) : Sp := fun vs H Q _ => ∃ p g s r a yss, vs = [.ref p, .ref a] ∧ Lg C H p g s r ∧ TL H a yss ∧ Few yss ∧ Tab H Pt ∧ (¬ s + tot yss yss.length ≤ 20 → ∀ t H1, Ex H H1 → H1 t = some (.tup [.str "refused", .str "full"]) → Q (.ref t) H1) ∧
  (s + tot yss yss.length ≤ 20 → ∀ wl H1, H wl = none → Bx p H H1 → Lg C H1 p g (s + tot yss yss.length) (r + yss.length) → Wr H1 wl s (allR yss r g yss.length) → Q (.ref wl) H1)
theorem ok_ap {f fA : Addr} {fd fdA : FuncData} (F : Fun K "_law_appended" "_law_appended" sAp f fd) (Gappend : FnOk P w K mg base (L2.CX P w) 6 fA fdA ["self", "intents"] (spApp C CS Pt)) (bappend : Binds K fdA ["self", "intents"] []) (mappend : Meth K C "append_records" fA)
    (T : Txt mg K C) (XL : Xc K mg "LaminaError" CL) (XS : Xc K mg "NoSpace" CS) (XCS : ExcC K CS) (sSL : PySem.W.subIn K (.ref CS) (.ref CL) = some true) (sSS : PySem.W.subIn K (.ref CS) (.ref CS) = some true) : FnOk P w K mg base CX0 7 f fd ["log", "intents"] (spAp C Pt) := by
  refine F.ok scAp (fun vs H Q E h => ?_) (fun cdv A outer s H vs Q E hr h => ?_)
  · obtain ⟨p, g, s, r, a, yss, rfl, _⟩ := h
    rfl
  · obtain ⟨p, g, s, r, a, yss, rfl, ⟨dx, ho⟩, hTL, hf, hP, q1, q2⟩ := h
    refine ⟨_, (pss_one (ps_try_as (i := 2) rfl rfl scAp.nd rfl rfl ⟨rfl, by decide, .inl XL.g⟩ takes0 (fun W pn xe tk _ => (pss_one (ps_ret (pe_methA (pv 0) T.cl mappend Gappend (hr.mono (by decide)) bappend (fun σ => passAt tk σ) (pa_cons (pv 1) pa_nil))))) (fun a oe cls d pn hz hf => (pss_cons (ps_if (pt_val (pe_callB (call_isX XCS hz hf) (by rfl) T.isinstance (by decide +kernel) (pa_cons (pv 2) (pa_cons (pe_glob (v := .ref CS) rfl XS.g rfl) pa_nil)))) (pss_one (ps_ret (pe_tup (pa_cons pe_str (pa_cons pe_str pa_nil))))) pss_nil)
      (pss_one (ps_ret (pe_tup (pa_cons pe_str (pa_cons pe_str pa_nil))))))))), ?_⟩
    exact r_mA (ev_var rfl) ho (fl_no _ _ _ ⟨by decide +kernel, by decide +kernel, by decide +kernel⟩) (ea_cons (ev_var rfl) ea_nil) fun H1 e1 => ⟨p, g, s, r, a, yss, rfl, ⟨dx, e1 _ _ ho⟩, hTL.ex e1, hf, hP.mono e1, fun hn H2 e2 => ⟨true, XL.exm sSL, fun _ a ha => q_when (b := true) (et_B (ev_isX (ev_var rfl) ev_c (XS.kit sSS (fun _ => rfl)))) (fun _ H3 e3 => s_retU (eu_tup (ea_cons ev_c (ea_cons ev_c ea_nil)) (by decide)) fun t H4 _ e4 h4 => q1 hn t H4 (((e1.trans e2).trans e3).trans e4) h4) (fun h => by cases h), fun z => nomatch z⟩,
      fun hy wl H2 hw e2 hL hW => q2 hy wl H2 (fresh_back e1 hw) ((Bx.of e1).trans e2) hL hW⟩
def spSa : Sp := fun vs H Q _ => ∃ a b s rows, vs = [.ref a, .ref b] ∧ Wr H a s rows ∧ Wr H b s rows ∧ (∀ row ∈ rows, row.length = 8) ∧ rows.length ≤ 1000 ∧ RetV (.bl true) H Q
theorem ok_sa {f fC : Addr} {fd fdC : FuncData} (F : Fun K "_law_same" "_law_same" sSa f fd) (FCe : Fun K "_law_cells" "_law_cells" sCe fC fdC) (bCe : Binds K fdC ["row", "size"] []) (gCe : mg "_law_cells" = some (.ref fC)) (GCe : FnOk P w K mg base CX0 1 fC fdC ["row", "size"] (spCe K)) (T : Txt mg K C) : FnOk P w K mg base CX0 2 f fd ["told", "due"] spSa := by
  refine F.ok scSa (fun vs H Q E h => ?_) (fun cdv A outer s H vs Q E hr h => ?_)
  · obtain ⟨a, b, s, rows, rfl, _⟩ := h
    rfl
  · obtain ⟨a, b, s, rows, rfl, ⟨es, hes, hWa⟩, ⟨fs, hfs, hWb⟩, h8, hlen, q⟩ := h
    refine ⟨_, (pss_cons (ps_if (PW.pt (pw_or (pt_not (pt_val (pe_callB call_isi (by rfl) T.isinstance (by decide +kernel) (pa_cons (pv 0) (pa_cons (pe_bltn (v := .ty "list") (u := .type "list") (by rfl) T.list (by decide +kernel) rfl) pa_nil))))) (pw_or1 (pt_cmpR op_ne (pe_callB call_len_seq (by rfl) T.len (by decide +kernel) (pa_cons (pv 0) pa_nil)) (pe_callB call_len_seq (by rfl) T.len (by decide +kernel) (pa_cons (pv 1) pa_nil)) (nomark _))))) (pss_one (ps_ret pe_bl)) pss_nil)
      (pss_cons (ps_for PassesOwn.never rfl (pi_range1 (by rfl) T.range (pa_cons (pe_callB call_len_seq (by rfl) T.len (by decide +kernel) (pa_cons (pv 1) pa_nil)) pa_nil)) (pg_name (i := 2) scSa.nd rfl (Or.inl rfl)) (pss_cons (ps_if (PW.pt (pw_or (pt_not (pt_val (pe_callB call_isi (by rfl) T.isinstance (by decide +kernel) (pa_cons (pe_ix ix_list (pv 0) (pv 2) (fun _ _ => rfl)) (pa_cons (pe_bltn (v := .ty "tuple") (u := .type "tuple") (by rfl) T.tuple (by decide +kernel) rfl) pa_nil))))) (pw_or1 (pt_cmpR op_ne (pe_callB call_len_seq (by rfl) T.len (by decide +kernel) (pa_cons (pe_ix ix_list (pv 0) (pv 2) (fun _ _ => rfl)) pa_nil)) pe_int (nomark _))))) (pss_one (ps_ret pe_bl)) pss_nil)
      (pss_one (ps_if (PW.pt (pw_or (pt_cmpR op_ne (pe_ix ix_tup (pe_ix ix_list (pv 0) (pv 2) (fun _ _ => rfl)) pe_int (fun _ _ => rfl)) (pe_ix ix_tup (pe_ix ix_list (pv 1) (pv 2) (fun _ _ => rfl)) pe_int (fun _ _ => rfl)) (nomark _)) (pw_or (pt_not (pt_val (pe_call GCe (hr.mono (by decide)) (by rfl) gCe FCe.kp bCe .nil pass0 (pa_cons (pe_ix ix_tup (pe_ix ix_list (pv 0) (pv 2) (fun _ _ => rfl)) pe_int (fun _ _ => rfl)) (pa_cons pe_int pa_nil))))) (pw_or1 (pt_cmpR (op_neD hr.units) (pe_ix ix_tup (pe_ix ix_list (pv 0) (pv 2) (fun _ _ => rfl)) pe_int (fun _ _ => rfl)) (pe_ix ix_tup (pe_ix ix_list (pv 1) (pv 2) (fun _ _ => rfl)) pe_int (fun _ _ => rfl)) (nomark _)))))) (pss_one (ps_ret pe_bl)) pss_nil))))
      (pss_one (ps_ret pe_bl)))), ?_⟩
    have hla := hWa.1
    have hlb := hWb.1
    refine q_when (b := false) (et_is (et_or (et_not (et_B (ev_isk (ev_var rfl) ev_c (.lst hes) (kd_list (K := K) (H := H) (.lst hes))))) fun _ => et_test (ev_op (ev_is (ev_lenL (ev_var rfl) hes) (show _ = V.int (rows.length : Int) by rw [List.length_map, hla])) (ev_is (ev_lenL (ev_var rfl) hfs) (show _ = V.int (rows.length : Int) by rw [List.length_map, hlb])) (rv_ne rfl))) (by simp)) (fun h => by cases h) fun _ H1 e1 => ?_
    refine q_forR1 (n := (rows.length : Int)) (ea_cons (ev_is (ev_lenL (ev_var rfl) (e1 _ _ hfs)) (by rw [List.length_map, hlb])) ea_nil) ⟨by omega, by omega⟩ (fun i σ' H' => ∃ y, σ' = [some (.ref a), some (.ref b), y] ∧ Ex H H') (fun H2 e2 => ⟨none, rfl, e1.trans e2⟩) ?_ ?_
    · rintro i σ' H' hi ⟨y, rfl, e2⟩
      have hi' : i < rows.length := by omega
      have hr1 : rows[i]? = some rows[i] := List.getElem?_eq_getElem hi'
      have ha1 : es[i]? = some es[i] := List.getElem?_eq_getElem (by omega)
      have hb1 : fs[i]? = some fs[i] := List.getElem?_eq_getElem (by omega)
      obtain ⟨k, t1, t2⟩ := hWa.2 i _ _ ha1 hr1
      obtain ⟨k', u1, u2⟩ := hWb.2 i _ _ hb1 hr1
      have a8 := h8 _ (List.mem_of_getElem? hr1)
      have X : ∀ {H''}, Ex H H'' → Ev (tOp (rIxL K) (tVar 0) (tVar 2)) (List.set [some (.ref a), some (.ref b), y] 2 (some (.int (i : Int)))) H'' (.ref es[i]) := fun e => ev_op (ev_var rfl) (ev_var rfl) (rv_ixL (sq_of (e _ _ hes)) (atI_nat (by rw [List.getElem?_map, ha1]; rfl)))
      have Y : ∀ {H''}, Ex H H'' → Ev (tOp (rIxL K) (tVar 1) (tVar 2)) (List.set [some (.ref a), some (.ref b), y] 2 (some (.int (i : Int)))) H'' (.ref fs[i]) := fun e => ev_op (ev_var rfl) (ev_var rfl) (rv_ixL (sq_of (e _ _ hfs)) (atI_nat (by rw [List.getElem?_map, hb1]; rfl)))
      refine q_when (b := false) (et_is (et_or (et_not (et_B (ev_isk (X e2) ev_c (.tup (e2 _ _ t1)) (kd_tuple (K := K) (H := H') (.tup (e2 _ _ t1)))))) fun _ => et_test (ev_op (ev_lenT (X e2) (st_of (e2 _ _ t1))) ev_c (rv_ne rfl))) rfl) (fun h => by cases h) fun _ H3 e3 => ?_
      have e23 := e2.trans e3
      have X1 := ev_op (X e23) ev_c (rv_ixT (K := K) (st_of (e23 _ _ t1)) (v := .ref k) (i := 1) rfl)
      have Y1 := ev_op (Y e23) ev_c (rv_ixT (K := K) (st_of (e23 _ _ u1)) (v := .ref k') (i := 1) rfl)
      refine s_when (b := false) (et_is (et_or (et_test (ev_op (ev_op (X e23) ev_c (rv_ixT (K := K) (st_of (e23 _ _ t1)) (v := .int (s + i)) (i := 0) rfl)) (ev_op (Y e23) ev_c (rv_ixT (K := K) (st_of (e23 _ _ u1)) (v := .int (s + i)) (i := 0) rfl)) (rv_ne rfl))) fun _ => et_or (et_not (et_B (ev_call (ea_cons X1 (ea_cons ev_c ea_nil)) fun H4 e4 Q' q' E' => ⟨k, rows[i], 8, rfl, (e23.trans e4) _ _ t2, by rw [a8]; rfl, q'⟩))) fun _ => et_test (ev_op X1 Y1 (rv_neD (.lst (sq_of (e23 _ _ t2)) (dp_ints rows[i])) (.lst (sq_of (e23 _ _ u2)) (dp_ints rows[i])) (sh_lst (sh_ints rows[i])) (by decide)))) (by simp)) (fun h => by cases h) fun _ H5 e5 => ⟨_, rfl, e23.trans e5⟩
    · rintro σ' H' ⟨y, rfl, e2⟩
      exact s_ret ev_c fun H3 e3 => q H3 (e2.trans e3)
end
end K70

set_option Elab.async false
set_option linter.all false
set_option maxRecDepth 100000
set_option maxHeartbeats 4000000
namespace K70
open PySem PySem.Spec PyProof.Rows L2 Evl LK LT LG LS LQ LX LO LN LP LH LV StX
theorem sum_pre (f : Nat → Int) : ∀ n : Nat, ((List.range n).map f).sum = preSum f n
  | 0 => rfl
  | n + 1 => by
    rw [List.range_succ, List.map_append, List.sum_append, sum_pre f n]
    simp [preSum]
def Ru (m : Int) : Rel := fun _ _ y H => ∃ t ys, y = .ref t ∧ H t = some (.tup (ys.map V.int)) ∧ Intent m ys
theorem ru_mon (m : Int) : Mon (Ru m) := fun i xs y H H' e ⟨t, ys, h1, h2, h3⟩ => ⟨t, ys, h1, e _ _ h2, h3⟩
theorem TL_mk {m : Int} {H : Hp} : ∀ {xs : List V}, (∀ y ∈ xs, ∃ t ys, y = .ref t ∧ H t = some (.tup (ys.map V.int)) ∧ Intent m ys) → ∃ (ts : List Addr) (yss : List (List Int)), xs = ts.map V.ref ∧ ts.length = yss.length ∧ (∀ (i : Nat) (t : Addr) (ys : List Int), ts[i]? = some t → yss[i]? = some ys → H t = some (.tup (ys.map V.int))) ∧ ∀ ys ∈ yss, Intent m ys
  | [], _ => ⟨[], [], rfl, rfl, (fun i t ys h => by cases h), (fun ys h => by cases h)⟩
  | x :: xs, h => by
    obtain ⟨t, ys, rfl, h2, h3⟩ := h x List.mem_cons_self
    obtain ⟨ts, yss, h4, h5, h6, h7⟩ := TL_mk fun y hy => h y (List.mem_cons_of_mem _ hy)
    refine ⟨t :: ts, ys :: yss, by rw [h4]; rfl, by simp [h5], fun i t' ys' a b => ?_, fun y hy => ?_⟩
    · cases i with
      | zero =>
        cases a
        cases b
        exact h2
      | succ j => exact h6 j t' ys' a b
    · rcases List.mem_cons.mp hy with rfl | hy
      · exact h3
      · exact h7 y hy
def dT (yss : List (List Int)) : PyData := .list (yss.map fun ys => .tuple (ys.map PyData.int))
theorem dpa_TL {K : PySem.W.Frag} {H : Hp} : ∀ {ts : List Addr} {yss : List (List Int)}, ts.length = yss.length → (∀ (i : Nat) (t : Addr) (ys : List Int), ts[i]? = some t → yss[i]? = some ys → H t = some (.tup (ys.map V.int))) → DpAll K H (ts.map V.ref) (yss.map fun ys => PyData.tuple (ys.map PyData.int))
  | [], [], _, _ => .nil
  | t :: ts, ys :: yss, hl, h => .cons (.tup (st_of (h 0 t ys rfl rfl)) (dp_ints ys)) (dpa_TL (by simpa using hl) fun i t' ys' a b => h (i + 1) t' ys' a b)
theorem sh_dT (yss : List (List Int)) : Sh 2 (dT yss) := sh_lst fun d hd => by
  obtain ⟨ys, _, rfl⟩ := List.mem_map.mp hd
  exact sh_tup (sh_ints ys)
def spLaw (K : PySem.W.Frag) (Pt : Addr) : Sp := fun vs H Q _ => ∃ (a : Addr) (ns : List Int), vs = [.ref a] ∧ SqL K H a (ns.map V.int) ∧ ns.length ≤ 63 ∧ Tab H Pt ∧ RetV (.bl true) H Q
section
variable {P : Program} {w : World} {K : PySem.W.Frag} {mg : Str → Option Value} {base : Heap} {C Pt : Addr}
theorem wr_bool {σ : L2.St} {H : Hp} {ta : TE} {tr : TA} {E E' : XK} {t a : Addr} {s r g : Int} {yss : List (List Int)} (h1 : Ev ta σ H (.ref t)) (h2 : EvA tr σ H [.ref a, .int s, .int r, .int g]) (hW : Wr H t s (allR yss r g yss.length)) (hT : TL H a yss) (hf : Few yss) : Ev (tCall spSa [] E (tCons ta (tCons (tCall spWr [] E' tr) tNil))) σ H (.bl true) := fun H1 e1 Q q =>
  h1 H1 e1 _ fun H2 e2 => h2 H2 (e1.trans e2) _ fun H3 e3 => ⟨a, s, r, g, yss, rfl, hT.ex (e1.trans (e2.trans e3)), hf, fun wl H4 hw e4 hW2 => ⟨t, wl, s, _, rfl, hW.ex (e1.trans (e2.trans (e3.trans e4))), hW2, fun row h => allR_8 h, by
    have h3 := allR_len yss r g yss.length
    have h4 := tot_b hf yss.length
    have h5 := hf.1
    omega, fun H5 e5 => q H5 (e2.trans (e3.trans (e4.trans e5)))⟩⟩
theorem ok_law {f fI fF fC fN fA fW fS : Addr} {fd fdI fdF fdC fdN fdA fdW fdS : FuncData} (F : Fun K "law" "law" sLaw f fd) (Ginit : FnOk P w K mg base CX0 1 fI fdI ["self", "generation"] (spInit C)) (ML : Mk K C fI) (binit : Binds K fdI ["self", "generation"] []) (Gfits : FnOk P w K mg base CX0 5 fF fdF ["self", "intents"] (spFits C Pt)) (bfits : Binds K fdF ["self", "intents"] []) (mfits : Meth K C "fits" fF)
    (FCl : Fun K "_law_cell" "_law_cell" sCl fC fdC) (bCl : Binds K fdC ["script", "k"] []) (gCl : mg "_law_cell" = some (.ref fC)) (GCl : FnOk P w K mg base CX0 1 fC fdC ["script", "k"] (spCel K)) (FIn : Fun K "_law_intent" "_law_intent" sIn fN fdN) (bIn : Binds K fdN ["cell", "most"] []) (gIn : mg "_law_intent" = some (.ref fN)) (GIn : FnOk P w K mg base CX0 2 fN fdN ["cell", "most"] spIn)
    (FAp : Fun K "_law_appended" "_law_appended" sAp fA fdA) (bAp : Binds K fdA ["log", "intents"] []) (gAp : mg "_law_appended" = some (.ref fA)) (GAp : FnOk P w K mg base CX0 7 fA fdA ["log", "intents"] (spAp C Pt)) (FWr : Fun K "_law_writes" "_law_writes" sWr fW fdW) (bWr : Binds K fdW ["intents", "sector", "record", "generation"] []) (gWr : mg "_law_writes" = some (.ref fW)) (GWr : FnOk P w K mg base CX0 4 fW fdW ["intents", "sector", "record", "generation"] spWr)
    (FSa : Fun K "_law_same" "_law_same" sSa fS fdS) (bSa : Binds K fdS ["told", "due"] []) (gSa : mg "_law_same" = some (.ref fS)) (GSa : FnOk P w K mg base CX0 2 fS fdS ["told", "due"] spSa) (T : Txt mg K C) : FnOk P w K mg base CX0 9 f fd ["script"] (spLaw K Pt) := by
  refine F.ok scLaw (fun vs H Q E h => ?_) (fun cdv A outer s H vs Q E hr h => ?_)
  · obtain ⟨a, ns, rfl, _⟩ := h
    rfl
  · obtain ⟨a, ns, rfl, hS, hlen, hP, q⟩ := h
    refine ⟨_, (pss_cons (ps_set (i := 1) scLaw.nd rfl (Or.inl rfl) (pe_op op_add pe_int (pe_op op_mod (pe_callTy call_int1 (by rfl) T.int (by decide +kernel) (pa_cons (pe_call GCl (hr.mono (by decide)) (by rfl) gCl FCl.kp bCl .nil pass0 (pa_cons (pv 0) (pa_cons pe_int pa_nil))) pa_nil)) (pe_op op_pow pe_int pe_int))))
      (pss_cons (ps_set (i := 2) scLaw.nd rfl (Or.inl rfl) (pe_make ML Ginit (hr.mono (by decide)) (by rfl) T.mgL binit .nil pass0 (pa_cons (pv 1) pa_nil)))
      (pss_cons (ps_set (i := 3) scLaw.nd rfl (Or.inl rfl) pe_int)
      (pss_cons (ps_set (i := 4) scLaw.nd rfl (Or.inl rfl) pe_int)
      (pss_cons (ps_for PassesOwn.never rfl (pi_range1 (by rfl) T.range (pa_cons (pe_callB (call_min2 rfl) (by rfl) T.min (by decide +kernel) (pa_cons (pe_callB call_len_seq (by rfl) T.len (by decide +kernel) (pa_cons (pv 0) pa_nil)) (pa_cons pe_int pa_nil))) pa_nil)) (pg_name (i := 5) scLaw.nd rfl (Or.inr rfl)) (pss_cons (ps_set (i := 6) scLaw.nd rfl (Or.inr rfl) (pe_call GCl (hr.mono (by decide)) (by rfl) gCl FCl.kp bCl .nil pass0 (pa_cons (pv 0) (pa_cons (pv 5) pa_nil))))
      (pss_cons (ps_set (i := 7) scLaw.nd rfl (Or.inr rfl) (pe_ix ix_list (pe_lst (pa_cons pe_int (pa_cons pe_int (pa_cons pe_int (pa_cons pe_int pa_nil))))) (pe_op op_mod (pe_op op_fdiv (pe_callTy call_int1 (by rfl) T.int (by decide +kernel) (pa_cons (pv 6) pa_nil)) pe_int) pe_int) (fun _ _ => rfl)))
      (pss_cons (ps_setLc (i := 8) (own := [("n", 13)]) (g := gName 13) (tt := tYes) rfl scLaw.nd rfl rfl (sw_true rfl rfl rfl (by decide +kernel)) (pi_range1 (by rfl) T.range (pa_cons (pe_op op_mod (pe_callTy call_int1 (by rfl) T.int (by decide +kernel) (pa_cons (pv 6) pa_nil)) pe_int) pa_nil)) (blkOk_by (own := [("n", 13)]) (N := ["script", "generation", "log", "sector", "record", "k", "cell", "most", "intents", "passed", "needed", "fits", "told", "n", "intent"]) (sc := defScope sLaw) (by decide +kernel)) (fun _ _ _ _ _ => pg_name (i := 13) scLaw.nd rfl (Or.inl rfl)) (fun _ _ _ _ _ => pts_nil) (fun _ _ _ _ _ => (pe_call GIn (hr.mono (by decide)) (by rfl) gIn FIn.kp bIn .nil pass0 (pa_cons (pe_op op_add (pe_op op_add (pv 6) (pe_op op_mul pe_int (pv 13))) (pv 5)) (pa_cons (pv 7) pa_nil)))))
      (pss_cons (ps_set (i := 9) scLaw.nd rfl (Or.inl rfl) (pe_callTy call_list_of (by rfl) T.list (by decide +kernel) (pa_cons (pv 8) pa_nil)))
      (pss_cons (ps_set (i := 10) scLaw.nd rfl (Or.inl rfl) (pe_callB (cr_sum rfl) (by rfl) T.sum (by decide +kernel) (pa_cons (pe_lc (own := [("intent", 14)]) (g := gName 14) (tt := tYes) rfl scLaw.nd (pi_list (pv 8)) (blkOk_by (own := [("intent", 14)]) (N := ["script", "generation", "log", "sector", "record", "k", "cell", "most", "intents", "passed", "needed", "fits", "told", "n", "intent"]) (sc := defScope sLaw) (by decide +kernel)) (fun _ _ _ _ _ => pg_name (i := 14) scLaw.nd rfl (Or.inl rfl)) (fun _ _ _ _ _ => pts_nil) (fun _ _ _ _ _ => (pe_op op_fdiv (pe_op op_add (pe_callB (r := rLenS K) call_len_seq (by rfl) T.len (by decide +kernel) (pa_cons (pv 14) pa_nil)) pe_int) pe_int))) pa_nil)))
      (pss_cons (ps_set (i := 11) scLaw.nd rfl (Or.inl rfl) (pe_meth (pv 2) T.cl mfits Gfits (hr.mono (by decide)) bfits .nil pass0 (pa_cons (pv 8) pa_nil)))
      (pss_cons (ps_if (PW.pt (pw_or (pt_not (pt_val (pe_callB call_isi (by rfl) T.isinstance (by decide +kernel) (pa_cons (pv 11) (pa_cons (pe_bltn (v := .ty "bool") (u := .type "bool") (by rfl) T.bool (by decide +kernel) rfl) pa_nil))))) (pw_or1 (pt_cmpR op_ne (pv 11) (pe_cmpR op_le (pe_op op_add (pv 3) (pv 10)) pe_int (nomark _)) (nomark _))))) (pss_one (ps_ret pe_bl)) pss_nil)
      (pss_cons (ps_set (i := 12) scLaw.nd rfl (Or.inl rfl) (pe_call GAp (hr.mono (by decide)) (by rfl) gAp FAp.kp bAp .nil pass0 (pa_cons (pv 2) (pa_cons (pv 8) pa_nil))))
      (pss_cons (ps_if (pt_val (pv 11)) (pss_cons (ps_if (pt_not (pt_val (pe_call GSa (hr.mono (by decide)) (by rfl) gSa FSa.kp bSa .nil pass0 (pa_cons (pv 12) (pa_cons (pe_call GWr (hr.mono (by decide)) (by rfl) gWr FWr.kp bWr .nil pass0 (pa_cons (pv 8) (pa_cons (pv 3) (pa_cons (pv 4) (pa_cons (pv 1) pa_nil))))) pa_nil))))) (pss_one (ps_ret pe_bl)) pss_nil)
      (pss_cons (ps_set (i := 3) scLaw.nd rfl (Or.inl rfl) (pe_op op_add (pv 3) (pv 10)))
      (pss_one (ps_set (i := 4) scLaw.nd rfl (Or.inl rfl) (pe_op op_add (pv 4) (pe_callB call_len_seq (by rfl) T.len (by decide +kernel) (pa_cons (pv 8) pa_nil))))))) (pss_one (ps_if (pt_cmpR (op_neD hr.units) (pv 12) (pe_tup (pa_cons pe_str (pa_cons pe_str pa_nil))) (nomark _)) (pss_one (ps_ret pe_bl)) pss_nil)))
      (pss_cons (ps_if (PW.pt (pw_or (pt_cmpR (op_neD hr.units) (pv 8) (pv 9) (nomark _)) (pw_or1 (pt_cmpR op_ne (pe_fld (pv 2) rfl) (pv 1) (nomark _))))) (pss_one (ps_ret pe_bl)) pss_nil)
      (pss_one (ps_if (PW.pt (pw_or (pt_cmpR op_ne (pe_fld (pv 2) rfl) (pv 3) (nomark _)) (pw_or1 (pt_cmpR op_ne (pe_fld (pv 2) rfl) (pv 4) (nomark _))))) (pss_one (ps_ret pe_bl)) pss_nil)))))))))))))
      (pss_one (ps_ret pe_bl))))))), ?_⟩
    have cell : ∀ {σ : L2.St} {H' : Hp} {ta tb : TE} {k : Nat} {z : Int} {E : XK}, Ex H H' → Ev ta σ H' (.ref a) → Ev tb σ H' (.int z) → z = (k : Int) → Ev (tCall (spCel K) [] E (tCons ta (tCons tb tNil))) σ H' (.int (cellv ns k)) := fun e h1 h2 hz => ev_call (ea_cons h1 (ea_cons h2 ea_nil)) (sv_cell (ex_l e hS) hz)
    refine q_asg (ev_op ev_c (ev_op (ev_int1 (cell (k := 0) (Ex.refl _) (ev_var rfl) ev_c rfl)) (ev_op ev_c ev_c (rv_I ⟨by decide, by decide, by decide⟩)) (rv_I (by show (0 : Int) < 10 ^ 9; decide))) rv_I0) fun H1 e1 => ?_
    generalize 1 + cellv ns 0 % 10 ^ (Int.toNat 9) = g
    refine q_make (ea_cons (ev_var rfl) ea_nil) fun p dx H2 H3 hp2 hp3 e2 h3 e3 => ⟨p, dx, g, rfl, h3, fun H4 b4 hLg => ⟨rfl, ?_⟩⟩
    have hp : H p = none := fresh_back e1 hp2
    have e4 : Ex H H4 := Bx.ex ((e1.trans e2).trans e3) b4 hp
    refine q_asg ev_c fun H5 e5 => ?_
    refine q_asg ev_c fun H6 e6 => ?_
    have e46 := (e4.trans e5).trans e6
    have len : Ev (tCB (rLenS K) (tCons (tVar 0) tNil)) [some (.ref a), some (.int g), some (.ref p), some (.int 4), some (.int 1), none, none, none, none, none, none, none, none, none, none] H6 (.int (ns.length : Int)) := ev_is (ev_len (ev_var rfl) (ex_l e46 hS)) (by rw [List.length_map])
    refine q_forR1 (n := if 12 < (ns.length : Int) then 12 else (ns.length : Int)) (ea_cons (ev_min2 len ev_c) ea_nil) ⟨by split <;> omega, by split <;> omega⟩
      (fun i σ' H' => ∃ (s r : Int) (y5 y6 y7 y8 y9 y10 y11 y12 y13 y14 : Option V), σ' = [some (.ref a), some (.int g), some (.ref p), some (.int s), some (.int r), y5, y6, y7, y8, y9, y10, y11, y12, y13, y14] ∧ Ex H H' ∧ Lg C H' p g s r)
      (fun H7 e7 => ⟨4, 1, none, none, none, none, none, none, none, none, none, none, rfl, e46.trans e7, hLg.ex ((e5.trans e6).trans e7)⟩) ?_ ?_
    · rintro i σ' H' hi ⟨s, r, y5, y6, y7, y8, y9, y10, y11, y12, y13, y14, rfl, e0, hL⟩
      have hi12 : i < 12 := by
        split at hi <;> omega
      refine q_asg (cell (k := i) e0 (ev_var rfl) (ev_var rfl) rfl) fun H7 e7 => ?_
      generalize cellv ns i = c
      have hm4 : 0 ≤ c / 4 % 4 ∧ c / 4 % 4 < 4 := ⟨Int.emod_nonneg _ (by decide), Int.emod_lt_of_pos _ (by decide)⟩
      obtain ⟨m, hm, hmb⟩ : ∃ m : Int, atI [V.int 1, V.int 3, V.int 9, V.int 64] (c / 4 % 4) = some (.int m) ∧ 1 ≤ m ∧ m ≤ 64 := by
        rcases (by omega : c / 4 % 4 = 0 ∨ c / 4 % 4 = 1 ∨ c / 4 % 4 = 2 ∨ c / 4 % 4 = 3) with h | h | h | h <;> rw [h]
        · exact ⟨1, rfl, by decide, by decide⟩
        · exact ⟨3, rfl, by decide, by decide⟩
        · exact ⟨9, rfl, by decide, by decide⟩
        · exact ⟨64, rfl, by decide, by decide⟩
      refine q_asg (ev_ixN (el_lst (ea_cons ev_c (ea_cons ev_c (ea_cons ev_c (ea_cons ev_c ea_nil)))) (Nat.le_of_ble_eq_true rfl)) (fun _ _ => (ev_op (ev_op (ev_int1 (ev_var rfl)) ev_c (rv_I ⟨by decide, by decide⟩)) ev_c (rv_I (by show (0 : Int) < 4; decide)))) hm) fun H8 e8 => ?_
      have hn4 : 0 ≤ c % 4 ∧ c % 4 < 4 := ⟨Int.emod_nonneg _ (by decide), Int.emod_lt_of_pos _ (by decide)⟩
      refine er_asg (n := (c % 4).toNat) (R := Ru m) (er_R1 (ea_cons (ev_op (ev_int1 (ev_var rfl)) ev_c (rv_I (by show (0 : Int) < 4; decide))) ea_nil) ⟨by omega, by omega⟩ (fun _ => rfl) (ru_mon m) fun j D H9 hD e9 hDn hj xs hxs hpre Q' q' => ?_) fun L xs H9 hL9 e9 h9 hxl hx9 => ?_
      · refine (ea_cons (ev_op (ev_op (ev_var rfl) (ev_op ev_c (ev_var rfl) (rv_I (.inl ⟨by decide, by decide⟩))) rv_I0) (ev_var rfl) rv_I0) (ea_cons (ev_var rfl) ea_nil)) H9 (Ex.refl _) _ fun H10 e10 => ⟨_, m, rfl, hmb.1, hmb.2, fun t H11 ys ht e11 h11 hI => q' (.ref t) H11 (e10.trans e11) ⟨t, ys, rfl, ?_, hI⟩⟩
        exact but_new (H2 := H10) (fun z => by
          cases h : H9 D with
          | none => exact hDn h
          | some o => rw [e10 _ _ h] at z; cases z) ht h11
      obtain ⟨ts, yss, hxts, htl, hTs, hIn⟩ := TL_mk (m := m) (H := H9) (xs := xs) fun y hy => by
        obtain ⟨j, hj, e⟩ := List.mem_iff_getElem.mp hy
        exact hx9 j y (by rw [List.getElem?_eq_getElem hj, e])
      subst hxts
      have hyl : yss.length = (c % 4).toNat := by rw [← htl, ← hxl, List.length_map]
      have hf : Few yss := ⟨by omega, fun ys hy => by have := ((hIn ys hy).len hmb.2).2; omega⟩
      have hb := tot_b hf
      have e09 := ((e0.trans e7).trans e8).trans e9
      have hL9g := ((hL.ex e7).ex e8).ex e9
      have pH9 : H9 p ≠ none := fun z => by obtain ⟨dx, h⟩ := hL9g; rw [z] at h; cases h
      have pL : p ≠ L := fun z => by
        obtain ⟨dx, h⟩ := hL9g
        rw [z, h9] at h
        cases h
      have hTL : TL H9 L yss := ⟨ts, h9, htl, hTs⟩
      refine q_asgL (el_list (ev_var rfl) (sq_of h9)) fun L2 H10 hL2 e10 h10 => ?_
      have hTL2 : TL H10 L2 yss := ⟨ts, h10, htl, fun j t ys x y => e10 _ _ (hTs j t ys x y)⟩
      refine q_asg (v := .int (tot yss yss.length)) (ev_is (ev_sumN (ns := (List.range yss.length).map (part yss)) (el_is (el_lcL (xs := ts.map V.ref) (fun _ => true) (fun j => .int (part yss j)) (ev_var rfl) (sq_of (e10 _ _ h9)) (by rw [List.length_map]; omega) (fun _ => rfl) (fun j x K1 a1 hj => fun K2 _ Q q => q _ (Ex.refl _)) fun j x K1 a1 hj _ => ?_) (by unfold given; rw [List.filter_eq_self.mpr fun _ _ => rfl, List.length_map, htl, List.map_map]; rfl))) (by rw [sum_pre]; rfl)) fun H11 e11 => ?_
      · rw [List.getElem?_map] at hj
        obtain ⟨t, ht, rfl⟩ := Option.map_eq_some_iff.mp hj
        have hjl := (List.getElem?_eq_some_iff.mp ht).1
        have hy : yss[j]? = some yss[j] := List.getElem?_eq_getElem (by omega)
        rw [part_at hy]
        exact ev_is (ev_op (ev_op (ev_lenT (ev_var rfl) (st_of ((e10.trans a1) _ _ (hTs j t _ ht hy)))) ev_c rv_I0) ev_c (rv_I ⟨by decide, by decide⟩)) (by rw [List.length_map]; rfl)
      have hL11 := (hL9g.ex e10).ex e11
      obtain ⟨dx11, ho11⟩ := hL11
      refine q_asg (ev_meth (ev_var rfl) ho11 (fl_no _ _ _ ⟨by decide +kernel, by decide +kernel, by decide +kernel⟩) (ea_cons (ev_var rfl) ea_nil) (sv_fits ⟨dx11, ho11⟩ (hTL.ex (e10.trans e11)) hf (hP.mono (e09.trans (e10.trans e11))))) fun H12 e12 => ?_
      generalize hfit : decide (s + tot yss yss.length ≤ 20) = b
      refine q_when (b := false) (et_is (et_or (et_not (et_B (ev_isk (ev_var rfl) ev_c (.bl b) (kd_bool (K := K) (H := H12) (.bl b))))) fun _ => et_test (ev_op (ev_var rfl) (ev_op (ev_op (ev_var rfl) (ev_var rfl) rv_I0) ev_c rv_I0) (rv_ne rfl))) (by rw [hfit]; simp)) (fun h => by cases h) fun _ H13 e13 => ?_
      have e1113 := e12.trans e13
      have e913 := (e10.trans e11).trans e1113
      have hnp : ∀ {t : Addr} {o : HO}, H9 t = some o → (∀ dx fs, o ≠ .ins C dx fs) → t ≠ p := fun h1 h2 z => by
        obtain ⟨dx, h⟩ := hL9g
        rw [z, h] at h1
        cases h1
        exact h2 _ _ rfl
      -- what is told
      refine q_run (ea_cons (ev_var rfl) (ea_cons (ev_var rfl) ea_nil)) fun H14 e14 => ⟨p, g, s, r, L, yss, rfl, Lg.ex ⟨dx11, ho11⟩ (e1113.trans e14), hTL.ex (e913.trans e14), hf, hP.mono ((e09.trans e913).trans e14), fun hno t H15 e15 h15 => ?_, fun hyes t H15 ht15 b15 hL15 hW15 => ?_⟩
      · have hbf : b = false := by rw [← hfit]; exact decide_eq_false hno
        subst hbf
        have e915 := (e913.trans e14).trans e15
        refine q_if (et_B (ev_var rfl)) (fun h => by cases h) fun _ H16 e16 => ?_
        refine s_when (b := false) (et_is (et_test (ev_opU (ev_var rfl) (eu_tup (ea_cons ev_c (ea_cons ev_c ea_nil)) (by decide)) fun q1 K1 k1 k2 => rv_neD (d := .tuple [.str "refused", .str "full"]) (n := 1) (.tup (st_of (k2 _ _ (e16 _ _ h15))) (.cons (.str _) (.cons (.str _) .nil))) (.tup (st_of k1) (.cons (.str _) (.cons (.str _) .nil))) ⟨by decide +kernel, by decide +kernel⟩ (by decide))) rfl) (fun h => by cases h) fun _ H17 e17 => ?_
        have e917 := (e915.trans e16).trans e17
        have hL17 : Lg C H17 p g s r := hL9g.ex e917
        obtain ⟨dx17, ho17⟩ := hL17
        have hTa := hTL.ex e917
        have hTb := hTL2.ex ((((e11.trans e1113).trans (e14.trans e15)).trans e16).trans e17)
        obtain ⟨ts1, x1, x2, x3⟩ := hTa
        obtain ⟨ts2, z1, z2, z3⟩ := hTb
        refine q_when (b := false) (et_is (et_or (et_test (ev_op (ev_var rfl) (ev_var rfl) (rv_neD (d := dT yss) (n := 2) (.lst (sq_of x1) (dpa_TL x2 x3)) (.lst (sq_of z1) (dpa_TL z2 z3)) (sh_dT yss) (by decide)))) fun _ => et_test (ev_op (ev_fld (ev_var rfl) ho17 T.cl T.nG (fl_g _ _ _)) (ev_var rfl) (rv_ne rfl))) (by simp)) (fun h => by cases h) fun _ H18 e18 => ?_
        refine s_when (b := false) (et_is (et_or (et_test (ev_op (ev_fld (ev_var rfl) (e18 _ _ ho17) T.cl T.nS (fl_s _ _ _)) (ev_var rfl) (rv_ne rfl))) fun _ => et_test (ev_op (ev_fld (ev_var rfl) (e18 _ _ ho17) T.cl T.nR (fl_r _ _ _)) (ev_var rfl) (rv_ne rfl))) (by simp)) (fun h => by cases h) fun _ H19 e19 => ?_
        exact ⟨s, r, _, _, _, _, _, _, _, _, _, _, rfl, (e09.trans e917).trans (e18.trans e19), ⟨dx17, (e18.trans e19) _ _ ho17⟩⟩
      · have hbt : b = true := by rw [← hfit]; exact decide_eq_true hyes
        subst hbt
        have b915 : Bx p H9 H15 := (Bx.of (e913.trans e14)).trans b15
        have tl15 : ∀ {Lx : Addr} {Hx : Hp}, TL Hx Lx yss → Ex H9 Hx → Bx p Hx H15 → TL H15 Lx yss := fun {Lx Hx} ⟨ts, z1, z2, z3⟩ ex bx => by
          have np : ∀ {t : Addr} {o : HO}, Hx t = some o → (∀ dx fs, o ≠ .ins C dx fs) → t ≠ p := fun h1 h2 z => by
            obtain ⟨dx, h⟩ := hL9g
            rw [z, ex _ _ h] at h1
            cases h1
            exact h2 _ _ rfl
          exact ⟨ts, bx _ _ (np z1 fun _ _ z => by cases z) z1, z2, fun j t ys x y => bx _ _ (np (z3 j t ys x y) fun _ _ z => by cases z) (z3 j t ys x y)⟩
        have hT15 := tl15 hTL (Ex.refl _) b915
        have hT15b := tl15 hTL2 e10 ((Bx.of ((e11.trans e1113).trans e14)).trans b15)
        have e015 : Ex H H15 := Bx.ex ((e09.trans e913).trans e14) b15 hp
        refine q_if (et_B (ev_var rfl)) (fun _ H16 e16 => ?_) (fun h => by cases h)
        refine q_when (b := false) (et_is (et_not (et_B (wr_bool (yss := yss) (ev_var rfl) (ea_cons (ev_var rfl) (ea_cons (ev_var rfl) (ea_cons (ev_var rfl) (ea_cons (ev_var rfl) ea_nil)))) (hW15.ex e16) (hT15.ex e16) hf))) rfl) (fun h => by cases h) fun _ H17 e17 => ?_
        refine q_asg (ev_op (ev_var rfl) (ev_var rfl) rv_I0) fun H18 e18 => ?_
        have e1518 := (e16.trans e17).trans e18
        obtain ⟨ts0, w1, w2, w3⟩ := hT15.ex e1518
        refine s_asg (ev_op (ev_var rfl) (ev_is (ev_lenL (ev_var rfl) w1) (show _ = V.int (yss.length : Int) by rw [List.length_map, w2])) rv_I0) fun H19 e19 => ?_
        have e1519 := e1518.trans e19
        obtain ⟨dx19, ho19⟩ := hL15.ex e1519
        obtain ⟨ts1, x1, x2, x3⟩ := hT15.ex e1519
        obtain ⟨ts2, z1, z2, z3⟩ := hT15b.ex e1519
        refine q_when (b := false) (et_is (et_or (et_test (ev_op (ev_var rfl) (ev_var rfl) (rv_neD (d := dT yss) (n := 2) (.lst (sq_of x1) (dpa_TL x2 x3)) (.lst (sq_of z1) (dpa_TL z2 z3)) (sh_dT yss) (by decide)))) fun _ => et_test (ev_op (ev_fld (ev_var rfl) ho19 T.cl T.nG (fl_g _ _ _)) (ev_var rfl) (rv_ne rfl))) (by simp)) (fun h => by cases h) fun _ H20 e20 => ?_
        refine s_when (b := false) (et_is (et_or (et_test (ev_op (ev_fld (ev_var rfl) (e20 _ _ ho19) T.cl T.nS (fl_s _ _ _)) (ev_var rfl) (rv_ne rfl))) fun _ => et_test (ev_op (ev_fld (ev_var rfl) (e20 _ _ ho19) T.cl T.nR (fl_r _ _ _)) (ev_var rfl) (rv_ne rfl))) (by simp)) (fun h => by cases h) fun _ H21 e21 => ?_
        exact ⟨_, _, _, _, _, _, _, _, _, _, _, _, rfl, (e015.trans e1519).trans (e20.trans e21), ⟨dx19, (e20.trans e21) _ _ ho19⟩⟩
    · rintro σ' H' ⟨s, r, y5, y6, y7, y8, y9, y10, y11, y12, y13, y14, rfl, e0, hL⟩
      exact s_ret ev_c fun H7 e7 => q H7 (e0.trans e7)
end
end K70

set_option Elab.async false
set_option linter.all false
set_option maxRecDepth 100000
set_option maxHeartbeats 4000000
namespace K70
open PySem PySem.Spec PyProof.Rows L2 Evl LK LT LG LS LQ LX LO LN LP LH LV StX
def d1 : He.DefD := ⟨("parts_for", none), "parts_for", "parts_for", defArgs sPf, defBody sPf, defScope sPf, [], []⟩
def d2 : He.DefD := ⟨("sectors_of", none), "sectors_of", "sectors_of", defArgs sSo, defBody sSo, defScope sSo, [], []⟩
def d3 : He.DefD := ⟨("record_sectors", none), "record_sectors", "record_sectors", defArgs sRs, defBody sRs, defScope sRs, [], []⟩
def d4 : He.DefD := ⟨("Log", some "__init__"), "__init__", "Log.__init__", defArgs sInit, defBody sInit, defScope sInit, [], []⟩
def d5 : He.DefD := ⟨("Log", some "fits"), "fits", "Log.fits", defArgs sFits, defBody sFits, defScope sFits, [], []⟩
def d6 : He.DefD := ⟨("Log", some "append_records"), "append_records", "Log.append_records", defArgs sApp, defBody sApp, defScope sApp, [], []⟩
def d7 : He.DefD := ⟨("_law_cell", none), "_law_cell", "_law_cell", defArgs sCl, defBody sCl, defScope sCl, [], []⟩
def d8 : He.DefD := ⟨("_law_digits", none), "_law_digits", "_law_digits", defArgs sDg, defBody sDg, defScope sDg, [], []⟩
def d9 : He.DefD := ⟨("_law_cells", none), "_law_cells", "_law_cells", defArgs sCe, defBody sCe, defScope sCe, [], []⟩
def d10 : He.DefD := ⟨("_law_intent", none), "_law_intent", "_law_intent", defArgs sIn, defBody sIn, defScope sIn, [], []⟩
def d11 : He.DefD := ⟨("_law_appended", none), "_law_appended", "_law_appended", defArgs sAp, defBody sAp, defScope sAp, [], []⟩
def d12 : He.DefD := ⟨("_law_writes", none), "_law_writes", "_law_writes", defArgs sWr, defBody sWr, defScope sWr, [], []⟩
def d13 : He.DefD := ⟨("_law_same", none), "_law_same", "_law_same", defArgs sSa, defBody sSa, defScope sSa, [], []⟩
def d14 : He.DefD := ⟨("law", none), "law", "law", defArgs sLaw, defBody sLaw, defScope sLaw, [], []⟩
def fnL : List He.DefD := [d1, d2, d3, d4, d5, d6, d7, d8, d9, d10, d11, d12, d13, d14]
def faL : List He.Fa := ([.glo "parts_for", .glo "sectors_of", .glo "record_sectors", .meth "Log" "fits", .meth "Log" "append_records", .glo "_law_cell", .glo "_law_digits", .glo "_law_cells", .glo "_law_intent", .glo "_law_appended", .glo "_law_writes", .glo "_law_same", .glo "law", .free "len", .free "range", .free "tuple", .free "list", .free "isinstance", .free "int", .free "bool", .free "min", .free "sum", .int "GROUP_WORDS" 4, .int "FIRST_SECTOR" 4, .int "LOG_SECTORS" 16, .glo "Log", .cls "Log", .keep "Log", .noat "Log" "generation", .noat "Log" "next_sector", .noat "Log" "next_record", .mkr "Log", .glo "NoSpace", .exc "NoSpace", .glo "LaminaError", .exc "LaminaError"] : List He.Fa)
def tfL : List He.Defn := [("Log", some "fits")]
def exL (K : PySem.W.Frag) : Bool := (HE.dictC K "NoSpace" && (HE.dictC K "LaminaError" && (HE.subC K "NoSpace" "LaminaError" true && (HE.subC K "NoSpace" "NoSpace" true && (HE.excC K "NoSpace" && true)))))
abbrev R : PySem.W.OpenRow := PySem.W.OpenLaw.row PySem.Challenge.rw_laminae_k70_room_of_the_log
abbrev hk : PySem.W.Hook := He.hookX 5 faL fnL [] tfL exL
def ob (s : PySem.W.SharedT) : He.AlX := He.obsX 5 faL fnL [] tfL exL (HandSHeadRun.getT s)
theorem ob_eq (s : PySem.W.SharedT) : ob s = hk.obs s.abs := He.obsX_eq (HandSHeadRun.getT_eq s)
def looseL : List PySem.Str := (["LaminaError", "NoSpace", "FIRST_SECTOR", "LOG_SECTORS", "GROUP_WORDS", "parts_for", "sectors_of", "record_sectors", "Log", "_law_cell", "_law_digits", "_law_cells", "_law_intent", "_law_appended", "_law_writes", "_law_same"] : List PySem.Str)
set_option maxHeartbeats 0 in
theorem run (w : World) : HandSHeadRun.RunEq R (PySem.W.view R.prog [19]) hk ob 4000 looseL w := by
  intro os
  kernel_rfl
theorem facts {l : PySem.W.OpenLaw} {w : World} {K : PySem.W.Frag} {h : Heap} {mg : Str → Option Value} {fa : Addr} (X : K.In h) (G : h.Ns mainGlobals mg) (hfa : mg ("law" : Str) = some (.ref fa)) (c : He.SaysX faL fnL [] tfL exL w h K) :
    ∃ (fd : FuncData) (cs : List (Addr × Addr)) (sp : Sp), (∀ p ∈ cs, h.get? p.2 = some { cls := .none, data := .fields #[] } ∧ K.lookup p.2 = none ∧ PySem.W.CodeHd h p.1 p.2) ∧ (∀ (s : Shared) (u : Value), BindsTo s fd ⟨[u], []⟩ [("script", u)]) ∧
        (∀ (H : Hp) (a : Addr) (ns : List Int), ns.length ≤ 63 → (∀ p ∈ cs, LT.Tab H p.2) → SqL K H a (ns.map V.int) → ∀ Q : VK, (∀ H', Ex H H' → Q (.bl true) H') → sp [.ref a] H Q fun _ _ _ => False) ∧
        ∀ base : Heap, K.In base → base.Ns mainGlobals mg → (∀ p ∈ cs, LamX.TabB base mg p.1 p.2) → FnOk l.prog w K mg base CX0 9 fa fd ["script"] sp := by
  have cd := c.t.d
  obtain ⟨fd1, F1⟩ := cd.def_ 0 (d := d1) rfl
  have F1 := HE.fun_of (st := sPf) F1
  have m1 := He.glo_ok X G (cd.fact 0 (f := .glo "parts_for") rfl)
  have b1 := F1.binds (ps := ["many"]) fun _ _ _ _ _ _ us hl => match us, hl with | [_], _ => rfl
  obtain ⟨fd2, F2⟩ := cd.def_ 1 (d := d2) rfl
  have F2 := HE.fun_of (st := sSo) F2
  have m2 := He.glo_ok X G (cd.fact 1 (f := .glo "sectors_of") rfl)
  have b2 := F2.binds (ps := ["intent"]) fun _ _ _ _ _ _ us hl => match us, hl with | [_], _ => rfl
  obtain ⟨fd3, F3⟩ := cd.def_ 2 (d := d3) rfl
  have F3 := HE.fun_of (st := sRs) F3
  have m3 := He.glo_ok X G (cd.fact 2 (f := .glo "record_sectors") rfl)
  have b3 := F3.binds (ps := ["intent", "record", "generation"]) fun _ _ _ _ _ _ us hl => match us, hl with | [_, _, _], _ => rfl
  obtain ⟨fd4, F4⟩ := cd.def_ 3 (d := d4) rfl
  have F4 := HE.fun_of (st := sInit) F4
  have b4 := F4.binds (ps := ["self", "generation"]) fun _ _ _ _ _ _ us hl => match us, hl with | [_, _], _ => rfl
  obtain ⟨fd5, F5⟩ := cd.def_ 4 (d := d5) rfl
  have F5 := HE.fun_of (st := sFits) F5
  have F5 := HE.funC_of F5
  have m5 := He.meth_ok (cd.fact 3 (f := .meth "Log" "fits") rfl)
  have b5 := F5.fun.binds (ps := ["self", "intents"]) fun _ _ _ _ _ _ us hl => match us, hl with | [_, _], _ => rfl
  obtain ⟨fd6, F6⟩ := cd.def_ 5 (d := d6) rfl
  have F6 := HE.fun_of (st := sApp) F6
  have m6 := He.meth_ok (cd.fact 4 (f := .meth "Log" "append_records") rfl)
  have b6 := F6.binds (ps := ["self", "intents"]) fun _ _ _ _ _ _ us hl => match us, hl with | [_, _], _ => rfl
  obtain ⟨fd7, F7⟩ := cd.def_ 6 (d := d7) rfl
  have F7 := HE.fun_of (st := sCl) F7
  have m7 := He.glo_ok X G (cd.fact 5 (f := .glo "_law_cell") rfl)
  have b7 := F7.binds (ps := ["script", "k"]) fun _ _ _ _ _ _ us hl => match us, hl with | [_, _], _ => rfl
  obtain ⟨fd8, F8⟩ := cd.def_ 7 (d := d8) rfl
  have F8 := HE.fun_of (st := sDg) F8
  have m8 := He.glo_ok X G (cd.fact 6 (f := .glo "_law_digits") rfl)
  have b8 := F8.binds (ps := ["cell", "bases"]) fun _ _ _ _ _ _ us hl => match us, hl with | [_, _], _ => rfl
  obtain ⟨fd9, F9⟩ := cd.def_ 8 (d := d9) rfl
  have F9 := HE.fun_of (st := sCe) F9
  have m9 := He.glo_ok X G (cd.fact 7 (f := .glo "_law_cells") rfl)
  have b9 := F9.binds (ps := ["row", "size"]) fun _ _ _ _ _ _ us hl => match us, hl with | [_, _], _ => rfl
  obtain ⟨fd10, F10⟩ := cd.def_ 9 (d := d10) rfl
  have F10 := HE.fun_of (st := sIn) F10
  have m10 := He.glo_ok X G (cd.fact 8 (f := .glo "_law_intent") rfl)
  have b10 := F10.binds (ps := ["cell", "most"]) fun _ _ _ _ _ _ us hl => match us, hl with | [_, _], _ => rfl
  obtain ⟨fd11, F11⟩ := cd.def_ 10 (d := d11) rfl
  have F11 := HE.fun_of (st := sAp) F11
  have m11 := He.glo_ok X G (cd.fact 9 (f := .glo "_law_appended") rfl)
  have b11 := F11.binds (ps := ["log", "intents"]) fun _ _ _ _ _ _ us hl => match us, hl with | [_, _], _ => rfl
  obtain ⟨fd12, F12⟩ := cd.def_ 11 (d := d12) rfl
  have F12 := HE.fun_of (st := sWr) F12
  have m12 := He.glo_ok X G (cd.fact 10 (f := .glo "_law_writes") rfl)
  have b12 := F12.binds (ps := ["intents", "sector", "record", "generation"]) fun _ _ _ _ _ _ us hl => match us, hl with | [_, _, _, _], _ => rfl
  obtain ⟨fd13, F13⟩ := cd.def_ 12 (d := d13) rfl
  have F13 := HE.fun_of (st := sSa) F13
  have m13 := He.glo_ok X G (cd.fact 11 (f := .glo "_law_same") rfl)
  have b13 := F13.binds (ps := ["told", "due"]) fun _ _ _ _ _ _ us hl => match us, hl with | [_, _], _ => rfl
  obtain ⟨fd14, F14⟩ := cd.def_ 13 (d := d14) rfl
  have F14 := HE.fun_of (st := sLaw) F14
  have m14 := He.glo_ok X G (cd.fact 12 (f := .glo "law") rfl)
  have bl := HE.binds1 (y := "script") F14 fun _ _ _ _ _ _ _ => rfl
  have e := hfa.symm.trans m14
  cases e
  have clC := He.cls_ok (cd.fact 26 (f := .cls "Log") rfl)
  have n0C := He.noat_ok (cd.fact 28 (f := .noat "Log" "generation") rfl)
  have n1C := He.noat_ok (cd.fact 29 (f := .noat "Log" "next_sector") rfl)
  have n2C := He.noat_ok (cd.fact 30 (f := .noat "Log" "next_record") rfl)
  have mgC := He.glo_ok X G (cd.fact 25 (f := .glo "Log") rfl)
  have MC := He.mkr_ok (cd.fact 31 (f := .mkr "Log") rfl)
  have ex := c.more
  unfold exL at ex
  obtain ⟨xdS, ex⟩ := He.ba ex
  obtain ⟨xdL, ex⟩ := He.ba ex
  obtain ⟨sSL, ex⟩ := He.ba ex
  obtain ⟨sSS, ex⟩ := He.ba ex
  obtain ⟨xfS, ex⟩ := He.ba ex
  have XS := HE.xc_of X G (cd.fact 32 (f := .glo "NoSpace") rfl) (cd.fact 33 (f := .exc "NoSpace") rfl) xdS
  have XCS := HE.excC_ok xfS
  have XL := HE.xc_of X G (cd.fact 34 (f := .glo "LaminaError") rfl) (cd.fact 35 (f := .exc "LaminaError") rfl) xdL
  have sSL := HE.subC_ok sSL
  have sSS := HE.subC_ok sSS
  have T : Txt mg K (He.ga K "Log") := ⟨He.free_ok X G (cd.fact 13 (f := .free "len") rfl), He.free_ok X G (cd.fact 14 (f := .free "range") rfl), He.free_ok X G (cd.fact 15 (f := .free "tuple") rfl), He.free_ok X G (cd.fact 16 (f := .free "list") rfl), He.free_ok X G (cd.fact 17 (f := .free "isinstance") rfl), He.free_ok X G (cd.fact 18 (f := .free "int") rfl), He.free_ok X G (cd.fact 19 (f := .free "bool") rfl), He.free_ok X G (cd.fact 20 (f := .free "min") rfl), He.free_ok X G (cd.fact 21 (f := .free "sum") rfl), He.int_ok X G (cd.fact 22 (f := .int "GROUP_WORDS" 4) rfl), He.int_ok X G (cd.fact 23 (f := .int "FIRST_SECTOR" 4) rfl), He.int_ok X G (cd.fact 24 (f := .int "LOG_SECTORS" 16) rfl), clC, n0C, n1C, n2C, mgC⟩
  refine ⟨fd14, [He.cT K ("Log", some "fits")], spLaw K (He.cT K ("Log", some "fits")).2, fun p hp => ?_, bl, fun H a ns hl hT hS Q q => ⟨a, ns, rfl, hS, hl, hT (He.cT K ("Log", some "fits")) (by simp), q⟩, fun base hKb hGb hTB => ?_⟩
  · obtain ⟨t, ht, rfl⟩ : ∃ t ∈ tfL, He.cT K t = p := by
      simp only [List.mem_cons, List.not_mem_nil, or_false] at hp
      exact ⟨_, by simp [tfL], hp.symm⟩
    exact ⟨c.empty t ht, c.out t ht, PySem.W.codeHd_of_K X (c.hd t ht)⟩
  · have B1 : LamX.TabB base mg (He.codeOf K ("Log", some "fits")) (He.cT K ("Log", some "fits")).2 := hTB (He.cT K ("Log", some "fits")) (by simp)
    exact (have GPf := ok_pf (P := l.prog) (w := w) (base := base) F1 T; have GSo := ok_so F2 F1 b1 m1 GPf T; have GRs := ok_rs F3 F2 b2 m2 GSo T; have GIn := ok_init (P := l.prog) (w := w) (base := base) F4 T; have GFi := ok_fits F5 B1 F2 b2 m2 GSo T; have GAp := ok_app F6 GFi b5 m5 F3 b3 m3 GRs T XS; have GCl := ok_cl (P := l.prog) (w := w) (base := base) F7 T; have GDg := ok_dg (P := l.prog) (w := w) (base := base) F8 T; have GCe := ok_ce (P := l.prog) (w := w) (base := base) F9 T; have GInt := ok_in F10 F8 b8 m8 GDg T; have GLa := ok_ap F11 GAp b6 m6 T XL XS XCS sSL sSS; have GWr := ok_wr F12 F3 b3 m3 GRs T; have GSa := ok_sa F13 F9 b9 m9 GCe T; ok_law F14 GIn MC b4 GFi b5 m5 F7 b7 m7 GCl F10 b10 m10 GInt F11 b11 m11 GLa F12 b12 m12 GWr F13 b13 m13 GSa T)
end K70
open PySem PySem.W PySem.Calls PyProof.Rows
set_option maxHeartbeats 0 in
theorem PySem.Challenge.cw_laminae_k70_room_of_the_log_holds : PySem.Challenge.rw_laminae_k70_room_of_the_log.Holds := by
  w_on; o_law
  refine HandSHeadRun.head_any (r := OpenLaw.row PySem.Challenge.rw_laminae_k70_room_of_the_log) (q := view (OpenLaw.row PySem.Challenge.rw_laminae_k70_room_of_the_log).prog [19]) (H := K70.hk) (ob := K70.ob) (M := 4000) (loose := K70.looseL) (d := HandSHeadRun.topDef (OpenLaw.row PySem.Challenge.rw_laminae_k70_room_of_the_log).prog 19) (kwd := []) K70.ob_eq
    (by kernel_rfl) (fun s => by kernel_rfl) K70.run (by kernel_rfl) (by kernel_rfl) (by kernel_rfl) (by rfl) (by first | assumption | decide +kernel) (by decide +kernel) ⟨rfl, rfl, rfl, rfl, rfl, by decide +kernel⟩ ?hw ?hc
  case hw => w_witness2
  case hc =>
    refine HE.walk_facts (l := PySem.Challenge.rw_laminae_k70_room_of_the_log) (n := 63) (k := 9) (x := "script") rfl (by decide) (by kernel_rfl) ⟨rfl, by decide, by decide⟩ ?F
    intro w mg fa h Y G hmg0
    obtain ⟨K, KX, c⟩ := Y
    have hmg : mg ("law" : PySem.Str) = some (.ref fa) := by
      have e : (HandSHeadRun.topDef (OpenLaw.row PySem.Challenge.rw_laminae_k70_room_of_the_log).prog 19).name = ("law" : PySem.Str) := by kernel_rfl
      rw [← e]
      exact hmg0
    obtain ⟨fd, cs, sp, h1, h2, h3, h4⟩ := K70.facts (l := PySem.Challenge.rw_laminae_k70_room_of_the_log) KX G hmg c
    exact ⟨K, fd, cs, sp, KX, h1, h2, h3, h4⟩

