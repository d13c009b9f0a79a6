import PyProof.Rows.All
import Wide.All
import OpenK.AllK
import Wide.FinOn
import HandS.ForMost
import HandS.Evl
import HandS.TupLe
import HandS.IsInst
import PySem.Challenge.RW_laminae_k12_places_and_parts
set_option Elab.async false
set_option linter.all false
set_option maxRecDepth 100000
set_option maxHeartbeats 4000000
namespace LK
open PySem PySem.Spec PyProof.Rows L2 Evl

/-! ### data that == serves -/
def Sh (n : Nat) (d : PyData) : Prop := d.canLay0 = true ∧ d.depth ≤ n
theorem sh_int (i : Int) (n : Nat := 0) : Sh n (.int i) := ⟨by simp [PyData.canLay0], by simp [PyData.depth]⟩
theorem sh_bool (b : Bool) (n : Nat := 0) : Sh n (.bool b) := ⟨by simp [PyData.canLay0], by simp [PyData.depth]⟩
theorem sh_none (n : Nat := 0) : Sh n .none := ⟨by simp [PyData.canLay0], by simp [PyData.depth]⟩
theorem sh_all {n : Nat} : ∀ {ds : List PyData}, (∀ d ∈ ds, Sh n d) → PyData.canLayAll0 ds = true ∧ PyData.depthAll ds ≤ n
  | [], _ => ⟨by simp [PyData.canLayAll0], by simp [PyData.depthAll]⟩
  | d :: ds, h => by
    obtain ⟨h1, h2⟩ := h d List.mem_cons_self
    obtain ⟨h3, h4⟩ := sh_all fun e he => h e (List.mem_cons_of_mem _ he)
    refine ⟨?_, ?_⟩
    · rw [PyData.canLayAll0, h1, h3]
      rfl
    · rw [PyData.depthAll]
      omega
theorem sh_tup {n : Nat} {ds : List PyData} (h : ∀ d ∈ ds, Sh n d) : Sh (n + 1) (.tuple ds) := by
  obtain ⟨h1, h2⟩ := sh_all h
  refine ⟨?_, ?_⟩
  · rw [PyData.canLay0]
    exact h1
  · rw [PyData.depth]
    omega
theorem sh_lst {n : Nat} {ds : List PyData} (h : ∀ d ∈ ds, Sh n d) : Sh (n + 1) (.list ds) := by
  obtain ⟨h1, h2⟩ := sh_all h
  refine ⟨?_, ?_⟩
  · rw [PyData.canLay0]
    exact h1
  · rw [PyData.depth]
    omega
theorem Sh.up {n m : Nat} {d : PyData} (h : Sh n d) (e : n ≤ m) : Sh m d := ⟨h.1, Nat.le_trans h.2 e⟩
theorem Sh.shaped {n : Nat} {d : PyData} (h : Sh n d) (e : n ≤ 64) : SeqAt.shaped d = true := by
  unfold SeqAt.shaped
  rw [h.1, decide_eq_true (Nat.le_trans h.2 e)]
  rfl
theorem Sh.refl {n : Nat} {d : PyData} (h : Sh n d) : PyData.eqv d d = true := SeqAt.eqv_refl d h.1
theorem sh_ints (ns : List Int) : ∀ d ∈ ns.map PyData.int, Sh 0 d := fun d hd => by
  obtain ⟨i, _, rfl⟩ := List.mem_map.mp hd
  exact sh_int i
section
variable {K : PySem.W.Frag} {H H' : Hp}
theorem dp_ints : ∀ ns : List Int, DpAll K H (ns.map V.int) (ns.map PyData.int)
  | [] => .nil
  | n :: r => .cons (.int n) (dp_ints r)
mutual
theorem dp_mono (e : Ex H H') : ∀ {v : V} (d : PyData), Dp K H v d → Dp K H' v d
  | _, .none, h => by cases h; exact .non
  | _, .bool b, h => by cases h; exact .bl b
  | _, .int i, h => by cases h; exact .int i
  | _, .str x, h => by cases h; exact .str x
  | _, .list ds, h => by
    cases h with
    | lst h1 h2 => exact .lst (ex_l e h1) (dpa_mono e ds h2)
  | _, .tuple ds, h => by
    cases h with
    | tup h1 h2 => exact .tup (ex_t e h1) (dpa_mono e ds h2)
  | _, .dict _, h => by cases h
theorem dpa_mono (e : Ex H H') : ∀ {vs : List V} (ds : List PyData), DpAll K H vs ds → DpAll K H' vs ds
  | _, [], h => by cases h; exact .nil
  | _, d :: ds, h => by
    cases h with
    | cons h1 h2 => exact .cons (dp_mono e d h1) (dpa_mono e ds h2)
end
/-- two values of the same data: == True, != False -/
theorem rv_eqD {x y : V} {d : PyData} {n : Nat} (hx : Dp K H x d) (hy : Dp K H y d) (s : Sh n d) (hn : n ≤ 64) : RV (rEqD K) x y H (.bl true) := rv_val fun H1 e Q q =>
  ⟨d, d, dp_mono e d hx, dp_mono e d hy, s.shaped hn, s.shaped hn, by rw [s.refl]; exact q⟩
theorem rv_neD {x y : V} {d : PyData} {n : Nat} (hx : Dp K H x d) (hy : Dp K H y d) (s : Sh n d) (hn : n ≤ 64) : RV (rNeD K) x y H (.bl false) := rv_val fun H1 e Q q =>
  ⟨d, d, dp_mono e d hx, dp_mono e d hy, s.shaped hn, s.shaped hn, by rw [s.refl]; exact q⟩
/-- of any two data -/
theorem rv_neDD {x y : V} {d f : PyData} {n : Nat} (hx : Dp K H x d) (hy : Dp K H y f) (s : Sh n d) (s' : Sh n f) (hn : n ≤ 64) : RV (rNeD K) x y H (.bl (!PyData.eqv d f)) := rv_val fun H1 e Q q =>
  ⟨d, f, dp_mono e d hx, dp_mono e f hy, s.shaped hn, s'.shaped hn, q⟩
theorem rv_eqDD {x y : V} {d f : PyData} {n : Nat} (hx : Dp K H x d) (hy : Dp K H y f) (s : Sh n d) (s' : Sh n f) (hn : n ≤ 64) : RV (rEqD K) x y H (.bl (PyData.eqv d f)) := rv_val fun H1 e Q q =>
  ⟨d, f, dp_mono e d hx, dp_mono e f hy, s.shaped hn, s'.shaped hn, q⟩
theorem rv_ltT {a b : Addr} {ns ms : List Int} (ha : SqT K H a (ns.map V.int)) (hb : SqT K H b (ms.map V.int)) : RV (rLtT K) (.ref a) (.ref b) H (.bl (HT.lexLt ns ms)) := rv_val fun H1 e Q q =>
  ⟨a, b, ns, ms, rfl, rfl, ex_t e ha, ex_t e hb, q⟩
def leV (ns ms : List Int) : Bool := Ob.lexAt (fun j => decide (ns.getD j 0 = ms.getD j 0)) (fun j => decide (ns.getD j 0 ≤ ms.getD j 0)) (decide (ns.length ≤ ms.length)) 0 (min ns.length ms.length)
theorem rv_leT {a b : Addr} {ns ms : List Int} (ha : SqT K H a (ns.map V.int)) (hb : SqT K H b (ms.map V.int)) : RV (rLeT K) (.ref a) (.ref b) H (.bl (leV ns ms)) := rv_val fun H1 e Q q =>
  ⟨a, b, ns, ms, rfl, rfl, ex_t e ha, ex_t e hb, q⟩

/-! ### reading a cell of the script -/
def cellv (ns : List Int) (k : Nat) : Int := ns.getD k 0
def spCell (K : PySem.W.Frag) : Sp := fun vs H Q _ => ∃ (a : Addr) (ns : List Int) (k : Nat), vs = [.ref a, .int (k : Int)] ∧ SqL K H a (ns.map V.int) ∧ RetV (.int (cellv ns k)) H Q
theorem sv_cell {a : Addr} {ns : List Int} {k : Nat} {z : Int} (h : SqL K H a (ns.map V.int)) (e : z = (k : Int)) : SpV (spCell K) [.ref a, .int z] H (.int (cellv ns k)) := fun H1 e1 Q q E =>
  ⟨a, ns, k, by rw [e], ex_l e1 h, fun H2 e2 => q H2 e2⟩
end
end LK

namespace K12
open PySem PySem.Spec PyProof.Rows L2 Evl LK
def top (i : Nat) : Stmt := PySem.Challenge.pw_laminae_k12_places_and_parts.main.body.getD i (.Pass ⟨0, 0, 0, 0⟩)
abbrev sSplit : Stmt := top 1
abbrev sPlace : Stmt := top 2
abbrev sChild : Stmt := top 3
abbrev sCell : Stmt := top 5
abbrev sLaw : Stmt := top 6
theorem scSplit : FnScope ["items", "most", "half"] ["items", "most"] (defScope sSplit) := ⟨rfl, rfl, rfl, by decide +kernel, rfl, by decide +kernel, by decide +kernel⟩
theorem scPlace : FnScope ["items", "key", "item"] ["items", "key"] (defScope sPlace) := ⟨rfl, rfl, rfl, by decide +kernel, rfl, by decide +kernel, by decide +kernel⟩
theorem scChild : FnScope ["items", "key", "item"] ["items", "key"] (defScope sChild) := ⟨rfl, rfl, rfl, by decide +kernel, rfl, by decide +kernel, by decide +kernel⟩
theorem scCell : FnScope ["script", "k"] ["script", "k"] (defScope sCell) := ⟨rfl, rfl, rfl, by decide +kernel, rfl, by decide +kernel, by decide +kernel⟩
theorem scLaw : FnScope ["script", "most", "items", "key", "turn", "cell", "asked", "given", "parts", "due", "half", "less", "upto", "item"] ["script"] (defScope sLaw) := ⟨rfl, rfl, rfl, by decide +kernel, rfl, by decide +kernel, by decide +kernel⟩
structure Txt (mg : Str → Option Value) : Prop where
  len : mg "len" = none
  list : mg "list" = none
  max : mg "max" = none
  range : mg "range" = none
  isinstance : mg "isinstance" = none

/-! ### items: a tuple of a key (a tuple of ints) and an int -/
abbrev R := List Int × Int
def rd (r : R) : PyData := .tuple [.tuple (r.1.map PyData.int), .int r.2]
inductive Rows (K : PySem.W.Frag) (H : Hp) : List V → List R → Prop
  | nil : Rows K H [] []
  | cons {t k : Addr} {r : R} {xs : List V} {rs : List R} : SqT K H t [.ref k, .int r.2] → SqT K H k (r.1.map V.int) → Rows K H xs rs → Rows K H (.ref t :: xs) (r :: rs)
section
variable {K : PySem.W.Frag} {H H' : Hp}
theorem Rows.mono (e : Ex H H') : ∀ {xs : List V} {rs : List R}, Rows K H xs rs → Rows K H' xs rs
  | _, _, .nil => .nil
  | _, _, .cons h1 h2 h3 => .cons (ex_t e h1) (ex_t e h2) (h3.mono e)
theorem Rows.len : ∀ {xs : List V} {rs : List R}, Rows K H xs rs → xs.length = rs.length
  | _, _, .nil => rfl
  | _, _, .cons _ _ h3 => congrArg (· + 1) h3.len
theorem Rows.at : ∀ {xs : List V} {rs : List R} {i : Nat} {x : V}, Rows K H xs rs → xs[i]? = some x → ∃ (t k : Addr) (r : R), x = .ref t ∧ rs[i]? = some r ∧ SqT K H t [.ref k, .int r.2] ∧ SqT K H k (r.1.map V.int)
  | _, _, _, _, .nil, h => by simp at h
  | _, _, 0, _, .cons (t := t) (k := k) (r := r) h1 h2 h3, h => ⟨t, k, r, (Option.some.inj h).symm, rfl, h1, h2⟩
  | _, _, i + 1, _, .cons h1 h2 h3, h => h3.at (i := i) h
theorem Rows.snoc {t k : Addr} {r : R} (h1 : SqT K H t [.ref k, .int r.2]) (h2 : SqT K H k (r.1.map V.int)) : ∀ {xs : List V} {rs : List R}, Rows K H xs rs → Rows K H (xs ++ [.ref t]) (rs ++ [r])
  | _, _, .nil => .cons h1 h2 .nil
  | _, _, .cons a b c => .cons a b (c.snoc h1 h2)
theorem Rows.take : ∀ (n : Nat) {xs : List V} {rs : List R}, Rows K H xs rs → Rows K H (xs.take n) (rs.take n)
  | 0, _, _, _ => .nil
  | n + 1, _, _, .nil => .nil
  | n + 1, _, _, .cons a b c => .cons a b (c.take n)
theorem Rows.drop : ∀ (n : Nat) {xs : List V} {rs : List R}, Rows K H xs rs → Rows K H (xs.drop n) (rs.drop n)
  | 0, _, _, h => h
  | n + 1, _, _, .nil => .nil
  | n + 1, _, _, .cons a b c => c.drop n
theorem Rows.dp : ∀ {xs : List V} {rs : List R}, Rows K H xs rs → DpAll K H xs (rs.map rd)
  | _, _, .nil => .nil
  | _, _, .cons (r := r) h1 h2 h3 => .cons (.tup h1 (.cons (.tup h2 (dp_ints r.1)) (.cons (.int r.2) .nil))) h3.dp
end
theorem sh_rd (r : R) : Sh 2 (rd r) := sh_tup fun d hd => by
  rcases List.mem_cons.mp hd with e | hd
  · rw [e]
    exact sh_tup (sh_ints _)
  · rcases List.mem_cons.mp hd with e | hd
    · rw [e]
      exact sh_int _ 1
    · cases hd
theorem sh_rds (rs : List R) : Sh 3 (.list (rs.map rd)) := sh_lst fun d hd => by
  obtain ⟨r, _, rfl⟩ := List.mem_map.mp hd
  exact sh_rd r

def cntLt (rs : List R) (ms : List Int) : Nat := ((List.range rs.length).filter fun i => HT.lexLt (rs.getD i ([], 0)).1 ms).length
def cntLe (rs : List R) (ms : List Int) : Nat := ((List.range rs.length).filter fun i => leV (rs.getD i ([], 0)).1 ms).length
theorem given_length (n : Nat) (f : Nat → Bool) (v : Nat → V) : (given n f v).length = ((List.range n).filter f).length := by
  unfold given
  rw [List.length_map]
theorem getD_of {α : Type} {l : List α} {i : Nat} {x d : α} (h : l[i]? = some x) : l.getD i d = x := by
  rw [List.getD_eq_getElem?_getD, h]
  rfl

/-! ### the promises -/
def spPlace (K : PySem.W.Frag) : Sp := fun vs H Q _ => ∃ (a q : Addr) (xs : List V) (rs : List R) (ms : List Int), vs = [.ref a, .ref q] ∧ SqL K H a xs ∧ Rows K H xs rs ∧ rs.length ≤ 100 ∧ SqT K H q (ms.map V.int) ∧ RetV (.int (cntLt rs ms : Nat)) H Q
def spChild (K : PySem.W.Frag) : Sp := fun vs H Q _ => ∃ (a q : Addr) (xs : List V) (rs : List R) (ms : List Int), vs = [.ref a, .ref q] ∧ SqL K H a xs ∧ Rows K H xs rs ∧ rs.length ≤ 100 ∧ SqT K H q (ms.map V.int) ∧ RetV (.int (if 0 > ((cntLe rs ms : Nat) : Int) - 1 then 0 else ((cntLe rs ms : Nat) : Int) - 1)) H Q

section
variable {P : Program} {w : World} {K : PySem.W.Frag} {mg : Str → Option Value} {base : Heap}
theorem ok_cell {f : Addr} {fd : FuncData} (F : Fun K "_law_cell" "_law_cell" sCell f fd) (T : Txt mg) : FnOk P w K mg base CX0 1 f fd ["script", "k"] (spCell K) := by
  refine F.ok scCell (fun vs H Q E h => ?_) (fun cdv A outer s H vs Q E hr h => ?_)
  · obtain ⟨a, ns, k, rfl, _⟩ := h
    rfl
  · obtain ⟨a, ns, k, rfl, hS, q⟩ := h
    refine ⟨_, (pss_cons (ps_if (pt_cmpR op_lt (pv 1) (pe_callB call_len_seq (by rfl) T.len (by decide +kernel) (pa_cons (pv 0) pa_nil)) (nomark _)) (pss_one (ps_ret (pe_ix ix_list (pv 0) (pv 1) (fun _ _ => rfl)))) pss_nil)
      (pss_one (ps_ret pe_int))), ?_⟩
    refine q_when (et_test (ev_op (ev_var rfl) (ev_len (ev_var rfl) hS) rv_I0)) (fun hb H1 e1 => ?_) (fun hb H1 e1 => ?_)
    · have hk : k < ns.length := by
        have := of_decide_eq_true hb
        rw [List.length_map] at this
        omega
      have hx : (ns.map V.int)[k]? = some (.int (cellv ns k)) := by
        rw [List.getElem?_map, List.getElem?_eq_getElem hk]
        unfold cellv
        rw [List.getD_eq_getElem?_getD, List.getElem?_eq_getElem hk]
        rfl
      exact s_ret (ev_op (ev_var rfl) (ev_var rfl) (rv_ixL (ex_l e1 hS) (atI_nat hx))) fun H2 e2 => q H2 (e1.trans e2)
    · have hk : ns.length ≤ k := by
        have := of_decide_eq_false hb
        rw [List.length_map] at this
        omega
      have hx : cellv ns k = 0 := by
        unfold cellv
        rw [List.getD_eq_getElem?_getD, List.getElem?_eq_none hk]
        rfl
      rw [hx] at q
      exact s_ret ev_c fun H2 e2 => q H2 (e1.trans e2)
theorem ok_place {f : Addr} {fd : FuncData} (F : Fun K "place_of" "place_of" sPlace f fd) (T : Txt mg) : FnOk P w K mg base CX0 1 f fd ["items", "key"] (spPlace K) := by
  refine F.ok scPlace (fun vs H Q E h => ?_) (fun cdv A outer s H vs Q E hr h => ?_)
  · obtain ⟨a, p, xs, rs, ms, rfl, _⟩ := h
    rfl
  · obtain ⟨a, p, xs, rs, ms, rfl, hS, hR, hl, hK, q⟩ := h
    refine ⟨_, (pss_one (ps_ret (pe_callB call_len_seq (by rfl) T.len (by decide +kernel) (pa_cons (pe_lc (own := [("item", 2)]) (g := gName 2) rfl scPlace.nd (pi_list (pv 0)) (blkOk_by (own := [("item", 2)]) (N := ["items", "key", "item"]) (sc := defScope sPlace) (by decide +kernel)) (fun _ _ _ _ _ => pg_name (i := 2) scPlace.nd rfl (Or.inl rfl)) (fun _ _ _ _ _ => (pts_one (pt_cmpR (r := rLtT K) (op_ltT hr.units0) (pe_ix (r := rIxT K) ix_tup (pv 2) pe_int (fun _ _ => rfl)) (pv 1) (nomark _)))) (fun _ _ _ _ _ => (pv 2))) pa_nil)))), ?_⟩
    refine s_ret (ev_is (ev_lenN (el_lcL (fun i => HT.lexLt (rs.getD i ([], 0)).1 ms) (fun i => xs.getD i .non) (ev_var rfl) hS (by rw [hR.len]; omega) (fun _ => rfl) (fun i x H1 e1 hx => ?_) (fun i x H1 e1 hx _ => ?_))) (show _ = V.int (cntLt rs ms : Nat) from ?_)) fun H1 e1 => q H1 e1
    · obtain ⟨t, k, r, rfl, hr', h1, h2⟩ := hR.at hx
      rw [getD_of hr']
      exact et_test (ev_op (ev_op (ev_var rfl) ev_c (rv_ixT (ex_t e1 h1) (atI_nat (j := 0) rfl))) (ev_var rfl) (rv_ltT (ex_t e1 h2) (ex_t e1 hK)))
    · rw [getD_of hx]
      exact ev_var rfl
    · rw [given_length, hR.len]
      rfl
theorem ok_child {f : Addr} {fd : FuncData} (F : Fun K "child_of" "child_of" sChild f fd) (T : Txt mg) : FnOk P w K mg base CX0 1 f fd ["items", "key"] (spChild K) := by
  refine F.ok scChild (fun vs H Q E h => ?_) (fun cdv A outer s H vs Q E hr h => ?_)
  · obtain ⟨a, p, xs, rs, ms, rfl, _⟩ := h
    rfl
  · obtain ⟨a, p, xs, rs, ms, rfl, hS, hR, hl, hK, q⟩ := h
    refine ⟨_, (pss_one (ps_ret (pe_callB (call_max2 rfl) (by rfl) T.max (by decide +kernel) (pa_cons (pe_op op_sub (pe_callB call_len_seq (by rfl) T.len (by decide +kernel) (pa_cons (pe_lc (own := [("item", 2)]) (g := gName 2) rfl scChild.nd (pi_list (pv 0)) (blkOk_by (own := [("item", 2)]) (N := ["items", "key", "item"]) (sc := defScope sChild) (by decide +kernel)) (fun _ _ _ _ _ => pg_name (i := 2) scChild.nd rfl (Or.inl rfl)) (fun _ _ _ _ _ => (pts_one (pt_cmpR (r := rLeT K) (op_leT hr.units0) (pe_ix (r := rIxT K) ix_tup (pv 2) pe_int (fun _ _ => rfl)) (pv 1) (nomark _)))) (fun _ _ _ _ _ => (pv 2))) pa_nil)) pe_int) (pa_cons pe_int pa_nil))))), ?_⟩
    refine s_ret (ev_max2 (ev_op (ev_is (ev_lenN (el_lcL (fun i => leV (rs.getD i ([], 0)).1 ms) (fun i => xs.getD i .non) (ev_var rfl) hS (by rw [hR.len]; omega) (fun _ => rfl) (fun i x H1 e1 hx => ?_) (fun i x H1 e1 hx _ => ?_))) (show _ = V.int (cntLe rs ms : Nat) from ?_)) ev_c rv_I0) ev_c) fun H1 e1 => q H1 e1
    · obtain ⟨t, k, r, rfl, hr', h1, h2⟩ := hR.at hx
      rw [getD_of hr']
      exact et_test (ev_op (ev_op (ev_var rfl) ev_c (rv_ixT (ex_t e1 h1) (atI_nat (j := 0) rfl))) (ev_var rfl) (rv_leT (ex_t e1 h2) (ex_t e1 hK)))
    · rw [getD_of hx]
      exact ev_var rfl
    · rw [given_length, hR.len]
      rfl
end
end K12

set_option Elab.async false
set_option linter.all false
set_option maxRecDepth 100000
set_option maxHeartbeats 4000000
namespace K12
open PySem PySem.Spec PyProof.Rows L2 Evl LK
/-! ### parts -/
def partsOf {α : Type} (b : Bool) (h : Nat) (l : List α) : List (List α) := if b = true then [l.take h, l.drop h] else [l]
/-- references to new lists -/
inductive Lls (H0 H : Hp) : List V → List (List V) → Prop
  | nil : Lls H0 H [] []
  | cons {q : Addr} {xs : List V} {vs : List V} {xss : List (List V)} : H0 q = none → H q = some (.lst xs) → Lls H0 H vs xss → Lls H0 H (.ref q :: vs) (xs :: xss)
theorem cut_lo (xs : List V) (h : Nat) : cutV xs none (some (h : Int)) = xs.take h := by
  unfold cutV
  rw [HT.sIx_nat, HT.sIx_none, List.drop_zero, Nat.sub_zero, List.take_eq_take_iff]
  omega
theorem cut_hi (xs : List V) (h : Nat) : cutV xs (some (h : Int)) none = xs.drop h := by
  unfold cutV
  rw [HT.sIx_nat, HT.sIx_none]
  rw [List.take_of_length_le (by rw [List.length_drop]; omega)]
  by_cases e : h ≤ xs.length
  · rw [Nat.min_eq_left e]
  · rw [Nat.min_eq_right (by omega), List.drop_of_length_le (Nat.le_refl _), List.drop_of_length_le (by omega)]
def spSplit (K : PySem.W.Frag) : Sp := fun vs H Q _ => ∃ (a : Addr) (xs : List V) (most : Int), vs = [.ref a, .int most] ∧ SqL K H a xs ∧ xs.length ≤ 100 ∧
  ∀ (p : Addr) (H' : Hp) (vs' : List V), H p = none → Ex H H' → H' p = some (.lst vs') → Lls H H' vs' (partsOf (decide (¬ (xs.length : Int) ≤ most)) ((xs.length + 1) / 2) xs) → Q (.ref p) H'
section
variable {P : Program} {w : World} {K : PySem.W.Frag} {mg : Str → Option Value} {base : Heap}
theorem ok_split {f : Addr} {fd : FuncData} (F : Fun K "split_items" "split_items" sSplit f fd) (T : Txt mg) : FnOk P w K mg base CX0 1 f fd ["items", "most"] (spSplit K) := by
  refine F.ok scSplit (fun vs H Q E h => ?_) (fun cdv A outer s H vs Q E hr h => ?_)
  · obtain ⟨a, xs, m, rfl, _⟩ := h
    rfl
  · obtain ⟨a, xs, m, rfl, hS, hl, q⟩ := h
    refine ⟨_, (pss_cons (ps_if (pt_cmpR op_le (pe_callB call_len_seq (by rfl) T.len (by decide +kernel) (pa_cons (pv 0) pa_nil)) (pv 1) (nomark _)) (pss_one (ps_ret (pe_lst (pa_cons (pe_callTy call_list_of (by rfl) T.list (by decide +kernel) (pa_cons (pv 0) pa_nil)) pa_nil)))) pss_nil)
      (pss_cons (ps_set (i := 2) scSplit.nd rfl (Or.inl rfl) (pe_op op_fdiv (pe_op op_add (pe_callB call_len_seq (by rfl) T.len (by decide +kernel) (pa_cons (pv 0) pa_nil)) pe_int) pe_int))
      (pss_one (ps_ret (pe_lst (pa_cons (pe_slice sl_list (pv 0) po_none (po_some (pv 2))) (pa_cons (pe_slice sl_list (pv 0) (po_some (pv 2)) po_none) pa_nil))))))), ?_⟩
    refine q_when (et_test (ev_op (ev_len (ev_var rfl) hS) (ev_var rfl) rv_I0)) (fun hb H1 e1 => ?_) (fun hb H1 e1 => ?_)
    · have hb' := of_decide_eq_true hb
      rw [decide_eq_false (by omega)] at q
      refine ⟨.ref a, rfl, a, xs, rfl, .inl (ex_l e1 hS), fun y hy => ⟨by show 1 ≤ sizeLine; decide, fun p hp => ?_⟩⟩
      have e2 : Ex H1 (upd H1 y (.lst xs)) := Ex.new hy
      have nyp : y ≠ p := fun z => by
        rw [← z, upd_same] at hp
        cases hp
      refine q p _ _ (fresh_back (e1.trans e2) hp) ((e1.trans e2).trans (Ex.new hp)) upd_same (.cons (fresh_back e1 hy) ?_ .nil)
      rw [upd_ne nyp, upd_same]
    · have hb' := of_decide_eq_false hb
      rw [decide_eq_true hb'] at q
      refine q_asg (v := .int (((xs.length + 1) / 2 : Nat) : Int)) (ev_is (ev_op (ev_op (ev_len (ev_var rfl) (ex_l e1 hS)) ev_c rv_I0) ev_c (rv_I ⟨by decide, by decide⟩)) (by congr 1)) fun H2 e2 => ?_
      have e12 := e1.trans e2
      refine ⟨.ref a, rfl, _, rfl, _, rfl, a, xs, rfl, ex_l e12 hS, fun y hy => ?_⟩
      have e3 : Ex H2 (upd H2 y (.lst (cutV xs none (some (((xs.length + 1) / 2 : Nat) : Int))))) := Ex.new hy
      refine ⟨.ref a, rfl, _, rfl, _, rfl, a, xs, rfl, ex_l (e12.trans e3) hS, fun z hz => ⟨by show 2 ≤ sizeLine; decide, fun p hp => ?_⟩⟩
      have e4 := Ex.new (o := .lst (cutV xs (some (((xs.length + 1) / 2 : Nat) : Int)) none)) hz
      have nyz : y ≠ z := fun e => by
        rw [← e, upd_same] at hz
        cases hz
      have nzp : z ≠ p := fun e => by
        rw [← e, upd_same] at hp
        cases hp
      have nyp : y ≠ p := fun e => by
        rw [← e, upd_ne nyz, upd_same] at hp
        cases hp
      refine q p _ _ (fresh_back ((e12.trans e3).trans e4) hp) (((e12.trans e3).trans e4).trans (Ex.new hp)) upd_same (.cons (fresh_back e12 hy) ?_ (.cons (fresh_back (e12.trans e3) hz) ?_ .nil))
      · rw [upd_ne nyp, upd_ne nyz, upd_same, cut_lo]
      · rw [upd_ne nzp, upd_same, cut_hi]
end
end K12

set_option Elab.async false
set_option linter.all false
set_option maxRecDepth 100000
set_option maxHeartbeats 4000000
namespace K12
open PySem PySem.Spec PyProof.Rows L2 Evl LK
/-! ### heaps in which a list may change, but nothing else -/
def TEx (H H' : Hp) : Prop := ∀ (a : Addr) (o : HO), H a = some o → (∀ l, o ≠ .lst l) → H' a = some o
theorem TEx.of {H H' : Hp} (e : Ex H H') : TEx H H' := fun a o h _ => e a o h
theorem TEx.trans {H H' H2 : Hp} (e : TEx H H') (f : TEx H' H2) : TEx H H2 := fun a o h n => f a o (e a o h n) n
theorem TEx.upd {H : Hp} {l : Addr} {xs ys : List V} (h : H l = some (.lst xs)) : TEx H (upd H l (.lst ys)) := fun a o ha n => by
  by_cases e : a = l
  · rw [e, h] at ha
    cases ha
    exact absurd rfl (n xs)
  · rw [upd_ne e]
    exact ha
section
variable {K : PySem.W.Frag} {H H' : Hp}
theorem TEx.t {a : Addr} {xs : List V} (e : TEx H H') (h : SqT K H a xs) : SqT K H' a xs := by
  rcases h with (h | ⟨o, h⟩) | h
  · exact .inl (.inl (e _ _ h (fun l z => by cases z)))
  · exact .inl (.inr ⟨o, e _ _ h (fun l z => by cases z)⟩)
  · exact .inr h
theorem Rows.tmono (e : TEx H H') : ∀ {xs : List V} {rs : List R}, Rows K H xs rs → Rows K H' xs rs
  | _, _, .nil => .nil
  | _, _, .cons h1 h2 h3 => .cons (e.t h1) (e.t h2) (h3.tmono e)
end
def spLaw (K : PySem.W.Frag) : Sp := fun vs H Q _ => ∃ (a : Addr) (ns : List Int), vs = [.ref a] ∧ SqL K H a (ns.map V.int) ∧ ns.length ≤ 63 ∧ ∀ H', Q (.bl true) H'
/-- between two turns -/
def LI (K : PySem.W.Frag) (H0 : Hp) (la ka : Addr) (i : Nat) (H : Hp) : Prop := Ex H0 H ∧ ∃ (xs : List V) (rs : List R) (k0 k1 k2 : Int), H la = some (.lst xs) ∧ Rows K H xs rs ∧ rs.length = i ∧ SqT K H ka ([k0, k1, k2].map V.int)
theorem LI.ex {K : PySem.W.Frag} {H0 H H' : Hp} {la ka : Addr} {i : Nat} (h : LI K H0 la ka i H) (e : Ex H H') : LI K H0 la ka i H' := by
  obtain ⟨e0, xs, rs, k0, k1, k2, h1, h2, h3, h4⟩ := h
  exact ⟨e0.trans e, xs, rs, k0, k1, k2, e _ _ h1, h2.mono e, h3, ex_t e h4⟩
section
variable {P : Program} {w : World} {K : PySem.W.Frag} {mg : Str → Option Value} {base : Heap}
theorem ok_law {f fC fS fP fH : Addr} {fd fdC fdS fdP fdH : FuncData} (F : Fun K "law" "law" sLaw f fd) (FC : Fun K "_law_cell" "_law_cell" sCell fC fdC) (FS : Fun K "split_items" "split_items" sSplit fS fdS) (FP : Fun K "place_of" "place_of" sPlace fP fdP) (FH : Fun K "child_of" "child_of" sChild fH fdH)
    (T0 : Txt mg) (bC : Binds K fdC ["script", "k"] []) (bS : Binds K fdS ["items", "most"] []) (bP : Binds K fdP ["items", "key"] []) (bH : Binds K fdH ["items", "key"] [])
    (gC : mg "_law_cell" = some (.ref fC)) (gS : mg "split_items" = some (.ref fS)) (gP : mg "place_of" = some (.ref fP)) (gH : mg "child_of" = some (.ref fH)) : FnOk P w K mg base CX0 2 f fd ["script"] (spLaw K) := by
  have GC : FnOk P w K mg base CX0 1 fC fdC ["script", "k"] (spCell K) := ok_cell FC T0
  have GS : FnOk P w K mg base CX0 1 fS fdS ["items", "most"] (spSplit K) := ok_split FS T0
  have GP : FnOk P w K mg base CX0 1 fP fdP ["items", "key"] (spPlace K) := ok_place FP T0
  have GH : FnOk P w K mg base CX0 1 fH fdH ["items", "key"] (spChild K) := ok_child FH T0
  refine F.ok scLaw (fun vs H Q E h => ?_) (fun cdv A outer s H vs Q E hr h => ?_)
  · obtain ⟨a, ns, rfl, _⟩ := h
    rfl
  · obtain ⟨a, ns, rfl, hS, hlen, q⟩ := h
    have T := T0
    refine ⟨_, (pss_cons (ps_set (i := 1) scLaw.nd rfl (Or.inl rfl) (pe_op op_add pe_int (pe_op op_mod (pe_call GC hr (by rfl) gC FC.kp bC .nil pass0 (pa_cons (pv 0) (pa_cons pe_int pa_nil))) pe_int)))
      (pss_cons (ps_set (i := 2) scLaw.nd rfl (Or.inl rfl) (pe_lst pa_nil))
      (pss_cons (ps_set (i := 3) scLaw.nd rfl (Or.inl rfl) (pe_tup (pa_cons (pe_op op_mod (pe_op op_fdiv (pe_call GC hr (by rfl) gC FC.kp bC .nil pass0 (pa_cons (pv 0) (pa_cons pe_int pa_nil))) pe_int) pe_int) (pa_cons pe_int (pa_cons pe_int pa_nil)))))
      (pss_cons (ps_for PassesOwn.never rfl (pi_range1 (by rfl) T.range (pa_cons (pe_op op_mod (pe_op op_fdiv (pe_call GC hr (by rfl) gC FC.kp bC .nil pass0 (pa_cons (pv 0) (pa_cons pe_int pa_nil))) pe_int) (pe_op op_add (pe_op op_mul pe_int (pv 1)) pe_int)) pa_nil)) (pg_name (i := 4) scLaw.nd rfl (Or.inl rfl)) (pss_cons (ps_set (i := 5) scLaw.nd rfl (Or.inl rfl) (pe_call GC hr (by rfl) gC FC.kp bC .nil pass0 (pa_cons (pv 0) (pa_cons (pe_op op_add pe_int (pv 4)) pa_nil))))
      (pss_cut (ps_if (pt_cmpR op_eq (pe_op op_mod (pv 5) pe_int) pe_int (nomark _)) (pss_one (ps_set (i := 3) scLaw.nd rfl (Or.inl rfl) (pe_tup (pa_cons (pe_op op_add (pe_ix ix_tup (pv 3) pe_int (fun _ _ => rfl)) pe_int) (pa_cons pe_int (pa_cons (pe_op op_mod (pe_op op_fdiv (pv 5) pe_int) (pe_op op_pow pe_int pe_int)) pa_nil)))))) (pss_one (ps_if (pt_cmpR op_eq (pe_op op_mod (pv 5) pe_int) pe_int (nomark _)) (pss_one (ps_set (i := 3) scLaw.nd rfl (Or.inl rfl) (pe_tup (pa_cons (pe_ix ix_tup (pv 3) pe_int (fun _ _ => rfl)) (pa_cons (pe_op op_add (pe_ix ix_tup (pv 3) pe_int (fun _ _ => rfl)) pe_int) (pa_cons pe_int pa_nil)))))) (pss_one (ps_set (i := 3) scLaw.nd rfl (Or.inl rfl) (pe_tup (pa_cons (pe_ix ix_tup (pv 3) pe_int (fun _ _ => rfl)) (pa_cons (pe_ix ix_tup (pv 3) pe_int (fun _ _ => rfl)) (pa_cons (pe_op op_add (pe_op op_add (pe_ix ix_tup (pv 3) pe_int (fun _ _ => rfl)) pe_int) (pe_op op_mod (pe_op op_fdiv (pv 5) pe_int) pe_int)) pa_nil)))))))))
      (pss_one (ps_expr (pe_bm PySem.F.plainAttrs_list PySem.F.slot_list_append PySem.F.type_list_append mt_append (pv 2) (pa_cons (pe_tup (pa_cons (pv 3) (pa_cons (pv 4) pa_nil))) pa_nil)))))))
      (pss_cons (ps_set (i := 6) scLaw.nd rfl (Or.inr rfl) (pe_tup (pa_cons (pe_op op_mod (pe_call GC hr (by rfl) gC FC.kp bC .nil pass0 (pa_cons (pv 0) (pa_cons pe_int pa_nil))) pe_int) (pa_cons (pe_op op_mod (pe_op op_fdiv (pe_call GC hr (by rfl) gC FC.kp bC .nil pass0 (pa_cons (pv 0) (pa_cons pe_int pa_nil))) pe_int) pe_int) (pa_cons (pe_op op_mod (pe_op op_fdiv (pe_call GC hr (by rfl) gC FC.kp bC .nil pass0 (pa_cons (pv 0) (pa_cons pe_int pa_nil))) pe_int) pe_int) pa_nil)))))
      (pss_cut (ps_if (PW.pt (pw_and (pt_cmpR (op_neD hr.units) (pv 2) (pe_lst pa_nil) (nomark _)) (pw_and1 (pt_cmpR op_eq (pe_op op_mod (pe_op op_fdiv (pe_call GC hr (by rfl) gC FC.kp bC .nil pass0 (pa_cons (pv 0) (pa_cons pe_int pa_nil))) pe_int) pe_int) pe_int (nomark _))))) (pss_one (ps_set (i := 6) scLaw.nd rfl (Or.inr rfl) (pe_ix ix_tup (pe_ix ix_list (pv 2) (pe_op op_mod (pe_op op_fdiv (pe_call GC hr (by rfl) gC FC.kp bC .nil pass0 (pa_cons (pv 0) (pa_cons pe_int pa_nil))) pe_int) (pe_callB call_len_seq (by rfl) T.len (by decide +kernel) (pa_cons (pv 2) pa_nil))) (fun _ _ => rfl)) pe_int (fun _ _ => rfl)))) pss_nil)
      (pss_cons (ps_set (i := 7) scLaw.nd rfl (Or.inl rfl) (pe_callTy call_list_of (by rfl) T.list (by decide +kernel) (pa_cons (pv 2) pa_nil)))
      (pss_cons (ps_set (i := 8) scLaw.nd rfl (Or.inl rfl) (pe_call GS hr (by rfl) gS FS.kp bS .nil pass0 (pa_cons (pv 7) (pa_cons (pv 1) pa_nil))))
      (pss_cons (ps_set (i := 9) scLaw.nd rfl (Or.inl rfl) (pe_lst (pa_cons (pv 2) pa_nil)))
      (pss_cut (ps_if (pt_cmpR op_gt (pe_callB call_len_seq (by rfl) T.len (by decide +kernel) (pa_cons (pv 2) pa_nil)) (pv 1) (nomark _)) (pss_cons (ps_set (i := 10) scLaw.nd rfl (Or.inl rfl) (pe_op op_fdiv (pe_op op_add (pe_callB call_len_seq (by rfl) T.len (by decide +kernel) (pa_cons (pv 2) pa_nil)) pe_int) pe_int))
      (pss_one (ps_set (i := 9) scLaw.nd rfl (Or.inl rfl) (pe_lst (pa_cons (pe_slice sl_list (pv 2) po_none (po_some (pv 10))) (pa_cons (pe_slice sl_list (pv 2) (po_some (pv 10)) po_none) pa_nil)))))) pss_nil)
      (pss_cons (ps_if (PW.pt (pw_or (pt_not (pt_val (pe_callB call_isi (by rfl) T.isinstance (by decide +kernel) (pa_cons (pv 8) (pa_cons (pe_bltn (v := .ty "list") (u := .type "list") (by rfl) T.list (by decide +kernel) rfl) pa_nil))))) (pw_or (pt_cmpR (op_neD hr.units) (pv 8) (pv 9) (nomark _)) (pw_or1 (pt_cmpR (op_neD hr.units) (pv 7) (pv 2) (nomark _)))))) (pss_one (ps_ret pe_bl)) pss_nil)
      (pss_cons (ps_expr (pe_bm PySem.F.plainAttrs_list PySem.F.slot_list_append PySem.F.type_list_append mt_append (pe_ix ix_list (pv 8) pe_int (fun _ _ => rfl)) (pa_cons (pe_tup (pa_cons (pe_tup (pa_cons pe_int (pa_cons pe_int (pa_cons pe_int pa_nil)))) (pa_cons pe_int pa_nil))) pa_nil)))
      (pss_cons (ps_set (i := 11) scLaw.nd rfl (Or.inl rfl) (pe_callB call_len_seq (by rfl) T.len (by decide +kernel) (pa_cons (pe_lc (own := [("item", 13)]) (g := gName 13) rfl scLaw.nd (pi_list (pv 2)) (blkOk_by (own := [("item", 13)]) (N := ["script", "most", "items", "key", "turn", "cell", "asked", "given", "parts", "due", "half", "less", "upto", "item"]) (sc := defScope sLaw) (by decide +kernel)) (fun _ _ _ _ _ => pg_name (i := 13) scLaw.nd rfl (Or.inl rfl)) (fun _ _ _ _ _ => (pts_one (pt_cmpR (r := rLtT K) (op_ltT hr.units0) (pe_ix (r := rIxT K) ix_tup (pv 13) pe_int (fun _ _ => rfl)) (pv 6) (nomark _)))) (fun _ _ _ _ _ => (pv 13))) pa_nil)))
      (pss_cons (ps_if (PW.pt (pw_or (pt_cmpR (op_neD hr.units) (pv 7) (pv 2) (nomark _)) (pw_or1 (pt_cmpR op_ne (pe_call GP hr (by rfl) gP FP.kp bP .nil pass0 (pa_cons (pv 7) (pa_cons (pv 6) pa_nil))) (pv 11) (nomark _))))) (pss_one (ps_ret pe_bl)) pss_nil)
      (pss_cons (ps_if (pt_cmpR (op_eqD hr.units) (pv 2) (pe_lst pa_nil) (nomark _)) (pss_one (ps_ret pe_bl)) pss_nil)
      (pss_cons (ps_set (i := 12) scLaw.nd rfl (Or.inl rfl) (pe_callB call_len_seq (by rfl) T.len (by decide +kernel) (pa_cons (pe_lc (own := [("item", 13)]) (g := gName 13) rfl scLaw.nd (pi_list (pv 2)) (blkOk_by (own := [("item", 13)]) (N := ["script", "most", "items", "key", "turn", "cell", "asked", "given", "parts", "due", "half", "less", "upto", "item"]) (sc := defScope sLaw) (by decide +kernel)) (fun _ _ _ _ _ => pg_name (i := 13) scLaw.nd rfl (Or.inl rfl)) (fun _ _ _ _ _ => (pts_one (pt_cmpR (r := rLeT K) (op_leT hr.units0) (pe_ix (r := rIxT K) ix_tup (pv 13) pe_int (fun _ _ => rfl)) (pv 6) (nomark _)))) (fun _ _ _ _ _ => (pv 13))) pa_nil)))
      (pss_one (ps_ret (pe_and (pe_cmpR op_eq (pe_call GH hr (by rfl) gH FH.kp bH .nil pass0 (pa_cons (pv 7) (pa_cons (pv 6) pa_nil))) (pe_callB (call_max2 rfl) (by rfl) T.max (by decide +kernel) (pa_cons (pe_op op_sub (pv 12) pe_int) (pa_cons pe_int pa_nil))) (nomark _)) (pe_one (pe_cmpR (op_eqD hr.units) (pv 7) (pv 2) (nomark _)))))))))))))))))))))), ?_⟩
    have cc : ∀ {H1 : Hp} {z : Int} {σ : L2.St} {tk : TE} (j : Nat), Ex H H1 → z = (j : Int) → σ[0]? = some (some (.ref a)) → Ev tk σ H1 (.int z) → Ev (tCall (spCell K) [] E0 (tCons (tVar 0) (tCons tk tNil))) σ H1 (.int (cellv ns j)) :=
      fun j e ez h0 hk => ev_call (ea_cons (ev_var h0) (ea_cons hk ea_nil)) (sv_cell (ex_l e hS) ez)
    -- most
    have bm : 4 ≤ 4 + cellv ns 0 % 2 ∧ 4 + cellv ns 0 % 2 ≤ 5 := by omega
    refine q_asg (ev_op ev_c (ev_op (cc 0 (Ex.refl _) rfl rfl ev_c) ev_c (rv_I (by show (0 : Int) < 2; decide))) rv_I0) fun H1 e1 => ?_
    generalize 4 + cellv ns 0 % 2 = m at bm
    -- items, key
    refine q_asgL (el_lst ea_nil (by decide)) fun la H2 hla e2 h2 => ?_
    refine q_asgU (eu_tup (ea_cons (ev_op (ev_op (cc 0 (e1.trans e2) rfl rfl ev_c) ev_c (rv_I ⟨by decide, by decide⟩)) ev_c (rv_I (by show (0 : Int) < 3; decide))) (ea_cons ev_c (ea_cons ev_c ea_nil))) (by simp)) fun ka H3 hka e3 h3 => ?_
    have hla0 : H la = none := fresh_back e1 hla
    have n0 : 0 < 2 * m + 1 := by omega
    have n1 := Int.emod_lt_of_pos (cellv ns 0 / 6) n0
    have n2 := Int.emod_nonneg (cellv ns 0 / 6) (show 2 * m + 1 ≠ 0 by omega)
    refine q_forR1 (n := cellv ns 0 / 6 % (2 * m + 1)) (ea_cons (ev_op (ev_op (cc 0 ((e1.trans e2).trans e3) rfl rfl ev_c) ev_c (rv_I ⟨by decide, by decide⟩)) (ev_op (ev_op ev_c (ev_var rfl) (rv_I (.inl ⟨by decide, by decide⟩))) ev_c rv_I0) (rv_I n0)) ea_nil) ⟨n2, by omega⟩
      (fun i σ' H' => ∃ ka y4 y5, σ' = [some (.ref a), some (.int m), some (.ref la), some (.ref ka), y4, y5, none, none, none, none, none, none, none, none] ∧ LI K H la ka i H')
      (fun H4 e4 => ⟨ka, none, none, rfl, ((e1.trans e2).trans e3).trans e4, [], [], _, _, _, e4 _ _ (e3 _ _ h2), .nil, rfl, st_of (e4 _ _ h3)⟩) ?_ ?_
    · rintro i σ' H' hi ⟨ka, y4, y5, rfl, hL⟩
      have e0 := hL.1
      refine q_asg (cc (2 + i) e0 (by show (2 : Int) + (i : Int) = ((2 + i : Nat) : Int); omega) rfl (ev_op ev_c (ev_var rfl) rv_I0)) fun H5 e5 => ?_
      generalize hc : cellv ns (2 + i) = c
      have hL5 := hL.ex e5
      obtain ⟨e0', xs, rs, k0, k1, k2, h1, h2, h3, h4⟩ := id hL5
      refine q_cut (M := fun σ2 H6 => ∃ kb, σ2 = [some (.ref a), some (.int m), some (.ref la), some (.ref kb), some (.int (i : Int)), some (.int c), none, none, none, none, none, none, none, none] ∧ LI K H la kb i H6) ?_ ?_
      · have kx : ∀ {H6 : Hp} {σ : L2.St} {j : Nat} {z : Int}, Ex H5 H6 → σ[3]? = some (some (.ref ka)) → [k0, k1, k2][j]? = some z → Ev (tOp (rIxT K) (tVar 3) (tC (.int (j : Int)))) σ H6 (.int z) := fun e h hz =>
          ev_op (ev_var h) ev_c (rv_ixT (ex_t e h4) (atI_nat (by rw [List.getElem?_map, hz]; rfl)))
        have fin : ∀ {kb : Addr} {H6 : Hp} {z0 z1 z2 : Int}, Ex H5 H6 → H6 kb = some (.tup [.int z0, .int z1, .int z2]) → LI K H la kb i H6 := fun e hb =>
          ⟨e0'.trans e, xs, rs, _, _, _, e _ _ h1, h2.mono e, h3, st_of hb⟩
        refine s_if (et_test (ev_op (ev_op (ev_var rfl) ev_c (rv_I (by show (0 : Int) < 3; decide))) ev_c (rv_eq rfl))) (fun _ H6 e6 => ?_) (fun _ H6 e6 => ?_)
        · refine s_asgU (eu_tup (ea_cons (ev_op (kx (j := 0) e6 rfl rfl) ev_c rv_I0) (ea_cons ev_c (ea_cons (ev_op (ev_op (ev_var rfl) ev_c (rv_I ⟨by decide, by decide⟩)) (ev_op ev_c ev_c (rv_I ⟨by decide, by decide, by decide⟩)) (rv_I (by show (0 : Int) < 10 ^ (18 : Int).toNat; decide))) ea_nil))) (by simp)) fun kb H7 _ e7 h7 => ⟨kb, rfl, fin (e6.trans e7) h7⟩
        · refine s_if (et_test (ev_op (ev_op (ev_var rfl) ev_c (rv_I (by show (0 : Int) < 3; decide))) ev_c (rv_eq rfl))) (fun _ H7 e7 => ?_) (fun _ H7 e7 => ?_)
          · refine s_asgU (eu_tup (ea_cons (kx (j := 0) (e6.trans e7) rfl rfl) (ea_cons (ev_op (kx (j := 1) (e6.trans e7) rfl rfl) ev_c rv_I0) (ea_cons ev_c ea_nil))) (by simp)) fun kb H8 _ e8 h8 => ⟨kb, rfl, fin ((e6.trans e7).trans e8) h8⟩
          · refine s_asgU (eu_tup (ea_cons (kx (j := 0) (e6.trans e7) rfl rfl) (ea_cons (kx (j := 1) (e6.trans e7) rfl rfl) (ea_cons (ev_op (ev_op (kx (j := 2) (e6.trans e7) rfl rfl) ev_c rv_I0) (ev_op (ev_op (ev_var rfl) ev_c (rv_I ⟨by decide, by decide⟩)) ev_c (rv_I (by show (0 : Int) < 4; decide))) rv_I0) ea_nil))) (by simp)) fun kb H8 _ e8 h8 => ⟨kb, rfl, fin ((e6.trans e7).trans e8) h8⟩
      · rintro σ2 H6 ⟨kb, rfl, e06, xs, rs, k0, k1, k2, h1, h2, h3, h4⟩
        refine s_appU h1 (ev_var rfl) (eu_tup (ea_cons (ev_var rfl) (ea_cons (ev_var rfl) ea_nil)) (by simp)) (by rw [h2.len, h3]; omega) fun t H7 ht e7 h7 => ?_
        have g1 := e7 _ _ h1
        have tx : TEx H7 (upd H7 la (.lst (xs ++ [.ref t]))) := TEx.upd g1
        refine ⟨kb, _, _, rfl, (e06.trans e7).mut hla0, xs ++ [.ref t], rs ++ [([k0, k1, k2], (i : Int))], k0, k1, k2, upd_same, Rows.snoc (tx.t (st_of h7)) (tx.t (ex_t e7 h4)) ((h2.mono e7).tmono tx), by rw [List.length_append, h3]; rfl, tx.t (ex_t e7 h4)⟩
    · rintro σ' H4 ⟨kb, y4, y5, rfl, hL⟩
      obtain ⟨e4, xs, rs, k0, k1, k2, h1, h2, h3, h4⟩ := hL
      have hrl : rs.length ≤ 11 := by omega
      have hxl := h2.len
      -- asked
      refine q_asgU (eu_tup (ea_cons (ev_op (cc 1 e4 rfl rfl ev_c) ev_c (rv_I (by show (0 : Int) < 4; decide))) (ea_cons (ev_op (ev_op (cc 1 e4 rfl rfl ev_c) ev_c (rv_I ⟨by decide, by decide⟩)) ev_c (rv_I (by show (0 : Int) < 4; decide))) (ea_cons (ev_op (ev_op (cc 1 e4 rfl rfl ev_c) ev_c (rv_I ⟨by decide, by decide⟩)) ev_c (rv_I (by show (0 : Int) < 5; decide))) ea_nil))) (by simp)) fun qa H5 _ e5 h5 => ?_
      refine q_cut (M := fun σ2 H6 => ∃ qa ms, σ2 = [some (.ref a), some (.int m), some (.ref la), some (.ref kb), y4, y5, some (.ref qa), none, none, none, none, none, none, none] ∧ Ex H4 H6 ∧ SqT K H6 qa ((ms : List Int).map V.int)) ?_ ?_
      · have dpE : ∀ {p : Addr} {H6 : Hp}, H6 p = some (.lst []) → Dp K H6 (.ref p) (.list []) := fun h => .lst (sq_of h) .nil
        refine s_when (et_and (et_test (ev_opL (ev_var rfl) (el_lst ea_nil (by decide)) (fun p H6 hp e6 => rv_neDD (.lst (sq_of ((e5.trans e6) _ _ h1)) ((h2.mono (e5.trans e6)).dp)) (dpE hp) (sh_rds rs) (sh_rds []) (by decide)))) (fun _ => et_test (ev_op (ev_op (ev_op (cc 1 (e4.trans e5) rfl rfl ev_c) ev_c (rv_I ⟨by decide, by decide⟩)) ev_c (rv_I (by show (0 : Int) < 2; decide))) ev_c (rv_eq rfl)))) (fun hb H6 e6 => ?_) (fun _ H6 e6 => ?_)
        · have hne : rs ≠ [] := fun z => by
            rw [z] at hb
            have := (Bool.and_eq_true_iff.mp hb).1
            revert this
            decide
          have hpos : 0 < rs.length := List.length_pos_iff.mpr hne
          have m1 := Int.emod_nonneg (cellv ns 1 / 160) (show (xs.length : Int) ≠ 0 by omega)
          have m2 := Int.emod_lt_of_pos (cellv ns 1 / 160) (show (0 : Int) < (xs.length : Int) by omega)
          obtain ⟨j, hj⟩ := Int.eq_ofNat_of_zero_le m1
          have hjl : j < xs.length := by omega
          obtain ⟨t, k, r, hx, _, g1, g2⟩ := h2.at (List.getElem?_eq_getElem hjl)
          refine s_asg (v := .ref k) (ev_op (ev_op (ev_var rfl) (ev_op (ev_op (cc 1 ((e4.trans e5).trans e6) rfl rfl ev_c) ev_c (rv_I ⟨by decide, by decide⟩)) (ev_len (ev_var rfl) (sq_of ((e5.trans e6) _ _ h1))) (rv_I (by show (0 : Int) < (xs.length : Int); omega))) (rv_ixL (sq_of ((e5.trans e6) _ _ h1)) (at_of hj (List.getElem?_eq_getElem hjl)))) ev_c (by
            rw [hx]
            exact rv_ixT (ex_t (e5.trans e6) g1) (atI_nat (j := 0) rfl))) fun H7 e7 => ⟨k, r.1, rfl, (e5.trans e6).trans e7, ex_t ((e5.trans e6).trans e7) g2⟩
        · exact ⟨qa, [_, _, _], rfl, e5.trans e6, ex_t e6 (st_of h5)⟩
      · rintro σ2 H6 ⟨qa, ms, rfl, e46, hq⟩
        have e6 := e4.trans e46
        have i1 := e46 _ _ h1
        have i2 := h2.mono e46
        -- given
        refine q_asgL (el_list (ev_var rfl) (sq_of i1)) fun ga H7 hga e7 h7 => ?_
        -- parts
        refine ⟨.ref ga, rfl, .int m, rfl, ga, xs, m, rfl, sq_of h7, by omega, fun pa H8 vs8 hpa e8 h8 hL8 => ?_⟩
        have j1 := (e7.trans e8) _ _ i1
        have j2 := i2.mono (e7.trans e8)
        generalize hb : decide (¬ (xs.length : Int) ≤ m) = big at hL8
        generalize hn : (xs.length + 1) / 2 = hf at hL8
        have gdp : ∀ {H9 : Hp}, Ex H8 H9 → ∀ {l : List V} {ss : List R}, Rows K H8 l ss → Rows K H9 l ss := fun e _ _ h => h.mono e
        -- the data of the parts
        have pdp : Dp K H8 (.ref pa) (.list ((partsOf big hf rs).map fun l => .list (l.map rd))) := by
          refine .lst (sq_of h8) ?_
          unfold partsOf at hL8 ⊢
          cases big with
          | true =>
            rw [if_pos rfl] at hL8 ⊢
            cases hL8 with
            | cons a1 a2 a3 => cases a3 with
              | cons b1 b2 b3 => cases b3 with
                | nil => exact .cons (.lst (sq_of a2) (j2.take hf).dp) (.cons (.lst (sq_of b2) (j2.drop hf).dp) .nil)
          | false =>
            rw [if_neg Bool.false_ne_true] at hL8 ⊢
            cases hL8 with
            | cons a1 a2 a3 => cases a3 with
              | nil => exact .cons (.lst (sq_of a2) j2.dp) .nil
        have shp : Sh 4 (.list ((partsOf big hf rs).map fun l => .list (l.map rd))) := sh_lst fun d hd => by
          obtain ⟨l, _, rfl⟩ := List.mem_map.mp hd
          exact sh_rds l
        have first : ∃ (g0 : Addr) (ys : List V) (rest : List V), vs8 = .ref g0 :: rest ∧ H7 g0 = none ∧ H8 g0 = some (.lst ys) ∧ ys.length ≤ 100 := by
          unfold partsOf at hL8
          cases big with
          | true =>
            rw [if_pos rfl] at hL8
            cases hL8 with
            | cons a1 a2 a3 => exact ⟨_, _, _, rfl, a1, a2, by rw [List.length_take]; omega⟩
          | false =>
            rw [if_neg Bool.false_ne_true] at hL8
            cases hL8 with
            | cons a1 a2 a3 => exact ⟨_, _, _, rfl, a1, a2, by omega⟩
        clear hL8
        -- due
        refine q_asgL (el_lst (ea_cons (ev_var rfl) ea_nil) (by simp)) fun da H9 hda e9 h9 => ?_
        have l1 := e9 _ _ j1
        refine q_cut (M := fun σ2 H10 => ∃ da y10, σ2 = [some (.ref a), some (.int m), some (.ref la), some (.ref kb), y4, y5, some (.ref qa), some (.ref ga), some (.ref pa), some (.ref da), y10, none, none, none] ∧ Ex H8 H10 ∧ Dp K H10 (.ref da) (.list ((partsOf big hf rs).map fun l => .list (l.map rd)))) ?_ ?_
        · refine s_when (et_test (ev_op (ev_len (ev_var rfl) (sq_of l1)) (ev_var rfl) rv_I0)) (fun hc H10 e10 => ?_) (fun hc H10 e10 => ?_)
          · have hc' := of_decide_eq_true hc
            have ebig : big = true := by
              rw [← hb]
              exact decide_eq_true (by omega)
            refine q_asg (v := .int ((hf : Nat) : Int)) (ev_is (ev_op (ev_op (ev_len (ev_var rfl) (sq_of (e10 _ _ l1))) ev_c rv_I0) ev_c (rv_I ⟨by decide, by decide⟩)) (by rw [← hn]; congr 1)) fun H11 e11 => ?_
            have l3 := (e10.trans e11) _ _ l1
            refine ⟨.ref la, rfl, _, rfl, _, rfl, la, xs, rfl, sq_of l3, fun y hy => ?_⟩
            have e12 : Ex H11 (upd H11 y (.lst (cutV xs none (some ((hf : Nat) : Int))))) := Ex.new hy
            refine ⟨.ref la, rfl, _, rfl, _, rfl, la, xs, rfl, sq_of (e12 _ _ l3), fun z hz => ⟨by show 2 ≤ sizeLine; decide, fun p hp => ?_⟩⟩
            have e13 := Ex.new (o := .lst (cutV xs (some ((hf : Nat) : Int)) none)) hz
            have nyz : y ≠ z := fun e => by
              rw [← e, upd_same] at hz
              cases hz
            have nzp : z ≠ p := fun e => by
              rw [← e, upd_same] at hp
              cases hp
            have nyp : y ≠ p := fun e => by
              rw [← e, upd_ne nyz, upd_same] at hp
              cases hp
            have eAll := ((((e9.trans e10).trans e11).trans e12).trans e13).trans (Ex.new (o := .lst [.ref y, .ref z]) hp)
            refine ⟨p, _, rfl, eAll, .lst (sq_of upd_same) ?_⟩
            rw [ebig]
            unfold partsOf
            rw [if_pos rfl]
            refine .cons (.lst (sq_of ((upd_ne nyp).trans ((upd_ne nyz).trans upd_same))) ?_) (.cons (.lst (sq_of ((upd_ne nzp).trans upd_same)) ?_) .nil)
            · have z := ((j2.mono eAll).take hf).dp
              rw [← cut_lo xs] at z
              exact z
            · have z := ((j2.mono eAll).drop hf).dp
              rw [← cut_hi xs] at z
              exact z
          · have hc' := of_decide_eq_false hc
            have ebig : big = false := by
              rw [← hb]
              exact decide_eq_false (by omega)
            refine ⟨da, none, rfl, e9.trans e10, .lst (sq_of (e10 _ _ h9)) ?_⟩
            rw [ebig]
            unfold partsOf
            rw [if_neg Bool.false_ne_true]
            exact .cons (.lst (sq_of (e10 _ _ l1)) (j2.mono (e9.trans e10)).dp) .nil
        · rintro σ2 H10 ⟨da, y10, rfl, e10, dDue⟩
          have m1 := e10 _ _ j1
          have m2 := j2.mono e10
          have mg7 := (e8.trans e10) _ _ h7
          -- not isinstance(parts, list) or parts != due or given != items
          refine q_when (b := false) (et_is (et_or (et_not (et_B (ev_cb (ea_cons (ev_var rfl) (ea_cons ev_c ea_nil)) (z := .bl true) (fun H11 e11 Q' q' => ⟨.ref pa, .ty "list", .type "list", .type "list", true, rfl, .ty "list", .base (.lst ((e10.trans e11) _ _ h8)), kit_ty rfl, q' _ (Ex.refl _)⟩)))) (fun _ => et_or (et_test (ev_op (ev_var rfl) (ev_var rfl) (rv_neD (dp_mono e10 _ pdp) dDue shp (by decide)))) (fun _ => et_test (ev_op (ev_var rfl) (ev_var rfl) (rv_neD (.lst (sq_of mg7) m2.dp) (.lst (sq_of m1) m2.dp) (sh_rds rs) (by decide)))))) rfl) (fun z => by cases z) (fun _ H11 e11 => ?_)
          -- parts[0].append(..)
          obtain ⟨g0, ys, vr, rfl, g07, g08, hys⟩ := first
          have nga : ga ≠ g0 := fun z => by
            rw [← z, h7] at g07
            cases g07
          have nla : la ≠ g0 := fun z => by
            rw [← z, e7 _ _ i1] at g07
            cases g07
          have g11 := (e10.trans e11) _ _ g08
          refine ⟨.ref pa, rfl, pa, _, 0, .ref g0, rfl, rfl, sq_of ((e10.trans e11) _ _ h8), atI_nat (j := 0) rfl, .inl ⟨rfl, _, sq_of g11⟩, by show 3 ≤ sizeLine; decide, fun t1 ht1 => ⟨by show 2 ≤ sizeLine; decide, fun t2 ht2 => ?_⟩⟩
          have f1 := Ex.new (o := .tup [.int 9, .int 9, .int 9]) ht1
          have f2 := Ex.new (o := .tup [.ref t1, .int 9]) ht2
          have g13 := (f1.trans f2) _ _ g11
          refine ⟨g0, ys, _, rfl, rfl, g13, Nat.lt_of_le_of_lt hys (by decide), ?_⟩
          have tx := TEx.upd (ys := ys ++ [.ref t2]) g13
          have e13 := (e10.trans e11).trans (f1.trans f2)
          generalize hHH : upd (upd (upd H11 t1 (.tup [.int 9, .int 9, .int 9])) t2 (.tup [.ref t1, .int 9])) g0 (.lst (ys ++ [.ref t2])) = HH at tx
          have n1 : HH la = some (.lst xs) := by
            rw [← hHH, upd_ne nla]
            exact e13 _ _ j1
          have n2 : Rows K HH xs rs := (j2.mono e13).tmono tx
          have n3 : HH ga = some (.lst xs) := by
            rw [← hHH, upd_ne nga]
            exact (e8.trans e13) _ _ h7
          have n4 : SqT K HH qa (ms.map V.int) := tx.t (ex_t ((e7.trans e8).trans e13) hq)
          show tSeq _ _ _ _ HH
          clear hHH
          -- less
          refine q_asg (v := .int ((cntLt rs ms : Nat) : Int)) (ev_is (ev_lenN (el_lcL (fun i => HT.lexLt (rs.getD i ([], 0)).1 ms) (fun i => xs.getD i .non) (ev_var rfl) (sq_of n1) (by omega) (fun _ => rfl) (fun i x H1 e1 hx => ?_) (fun i x H1 e1 hx _ => ?_))) ?_) fun H14 e14 => ?_
          · obtain ⟨t, k, r, rfl, hr', p1, p2⟩ := n2.at hx
            rw [getD_of hr']
            exact et_test (ev_op (ev_op (ev_var rfl) ev_c (rv_ixT (ex_t e1 p1) (atI_nat (j := 0) rfl))) (ev_var rfl) (rv_ltT (ex_t e1 p2) (ex_t e1 n4)))
          · rw [getD_of hx]
            exact ev_var rfl
          · rw [given_length, hxl]
            rfl
          -- given != items or place_of(given, asked) != less
          refine q_when (b := false) (et_is (et_or (et_test (ev_op (ev_var rfl) (ev_var rfl) (rv_neD (.lst (sq_of (e14 _ _ n3)) (n2.mono e14).dp) (.lst (sq_of (e14 _ _ n1)) (n2.mono e14).dp) (sh_rds rs) (by decide)))) (fun _ => et_test (ev_op (ev_call (vs := [.ref ga, .ref qa]) (z := .int ((cntLt rs ms : Nat) : Int)) (ea_cons (ev_var rfl) (ea_cons (ev_var rfl) ea_nil)) (fun H15 e15 Q' q' E' => ⟨ga, qa, xs, rs, ms, rfl, sq_of ((e14.trans e15) _ _ n3), n2.mono (e14.trans e15), by omega, ex_t (e14.trans e15) n4, q'⟩)) (ev_var rfl) (rv_ne rfl)))) (by simp)) (fun z => by cases z) (fun _ H15 e15 => ?_)
          have e15' := e14.trans e15
          -- items == []
          have dpE : ∀ {p : Addr} {H6 : Hp}, H6 p = some (.lst []) → Dp K H6 (.ref p) (.list []) := fun h => .lst (sq_of h) .nil
          refine q_when (et_test (ev_opL (ev_var rfl) (el_lst ea_nil (by decide)) (fun p H6 hp e6 => rv_eqDD (.lst (sq_of ((e15'.trans e6) _ _ n1)) ((n2.mono (e15'.trans e6)).dp)) (dpE hp) (sh_rds rs) (sh_rds []) (by decide)))) (fun _ H16 e16 => s_ret ev_c fun _ _ => q _) (fun _ H16 e16 => ?_)
          have e16' := e15'.trans e16
          -- upto
          refine q_asg (v := .int ((cntLe rs ms : Nat) : Int)) (ev_is (ev_lenN (el_lcL (fun i => leV (rs.getD i ([], 0)).1 ms) (fun i => xs.getD i .non) (ev_var rfl) (sq_of (e16' _ _ n1)) (by omega) (fun _ => rfl) (fun i x H1 e1 hx => ?_) (fun i x H1 e1 hx _ => ?_))) ?_) fun H17 e17 => ?_
          · obtain ⟨t, k, r, rfl, hr', p1, p2⟩ := (n2.mono e16').at hx
            rw [getD_of hr']
            exact et_test (ev_op (ev_op (ev_var rfl) ev_c (rv_ixT (ex_t e1 p1) (atI_nat (j := 0) rfl))) (ev_var rfl) (rv_leT (ex_t e1 p2) (ex_t (e16'.trans e1) n4)))
          · rw [getD_of hx]
            exact ev_var rfl
          · rw [given_length, hxl]
            rfl
          have e17' := e16'.trans e17
          refine s_ret (ev_is (ev_andV (ev_op (ev_call (vs := [.ref ga, .ref qa]) (z := .int (if 0 > ((cntLe rs ms : Nat) : Int) - 1 then 0 else ((cntLe rs ms : Nat) : Int) - 1)) (ea_cons (ev_var rfl) (ea_cons (ev_var rfl) ea_nil)) (fun H18 e18 Q' q' E' => ⟨ga, qa, xs, rs, ms, rfl, sq_of ((e17'.trans e18) _ _ n3), n2.mono (e17'.trans e18), by omega, ex_t (e17'.trans e18) n4, q'⟩)) (ev_max2 (ev_op (ev_var rfl) ev_c rv_I0) ev_c) (rv_eq rfl)) (fun _ => ev_op (ev_var rfl) (ev_var rfl) (rv_eqD (.lst (sq_of (e17' _ _ n3)) (n2.mono e17').dp) (.lst (sq_of (e17' _ _ n1)) (n2.mono e17').dp) (sh_rds rs) (by decide)))) (show _ = V.bl true by simp)) fun H18 _ => q H18
end
end K12

set_option Elab.async false
set_option linter.all false
set_option maxRecDepth 100000
set_option maxHeartbeats 4000000
namespace K12
open PySem PySem.Spec PyProof.Rows L2 Evl LK
theorem all_mk {l : PySem.W.OpenLaw} {w : World} {K : PySem.W.Frag} {h : Heap} {mg : Str → Option Value} {fa f1 f2 f3 f4 f5 : Addr} (X : K.In h) (G : h.Ns mainGlobals mg) (hfa : mg "law" = some (.ref fa))
    {od1 an1 od2 an2 od3 an3 od4 an4 od5 an5 : Option Addr} {sl1 sl2 sl3 sl4 sl5 : Array (Option Value)} {oc1 kV1 dc1 pm1 cd1 ct1 oc2 kV2 dc2 pm2 cd2 ct2 oc3 kV3 dc3 pm3 cd3 ct3 oc4 kV4 dc4 pm4 cd4 ct4 oc5 kV5 dc5 pm5 cd5 ct5 : Value}
    (a1 : PySem.W.nsIn K mainGlobals "split_items" = some (some (.ref f1))) (l1 : K.lookup f1 = some ⟨oc1, od1, .func (PySem.W.fnOf "split_items" "split_items" (defArgs sSplit) (defBody sSplit) (defScope sSplit) .none kV1 dc1 pm1 an1 cd1 ct1), sl1⟩) (c1 : PySem.W.codeIn K cd1 "split_items" = true) (k1 : PySem.W.keepIn K (.ref f1) = true)
    (a2 : PySem.W.nsIn K mainGlobals "place_of" = some (some (.ref f2))) (l2 : K.lookup f2 = some ⟨oc2, od2, .func (PySem.W.fnOf "place_of" "place_of" (defArgs sPlace) (defBody sPlace) (defScope sPlace) .none kV2 dc2 pm2 an2 cd2 ct2), sl2⟩) (c2 : PySem.W.codeIn K cd2 "place_of" = true) (k2 : PySem.W.keepIn K (.ref f2) = true)
    (a3 : PySem.W.nsIn K mainGlobals "child_of" = some (some (.ref f3))) (l3 : K.lookup f3 = some ⟨oc3, od3, .func (PySem.W.fnOf "child_of" "child_of" (defArgs sChild) (defBody sChild) (defScope sChild) .none kV3 dc3 pm3 an3 cd3 ct3), sl3⟩) (c3 : PySem.W.codeIn K cd3 "child_of" = true) (k3 : PySem.W.keepIn K (.ref f3) = true)
    (a4 : PySem.W.nsIn K mainGlobals "_law_cell" = some (some (.ref f4))) (l4 : K.lookup f4 = some ⟨oc4, od4, .func (PySem.W.fnOf "_law_cell" "_law_cell" (defArgs sCell) (defBody sCell) (defScope sCell) .none kV4 dc4 pm4 an4 cd4 ct4), sl4⟩) (c4 : PySem.W.codeIn K cd4 "_law_cell" = true) (k4 : PySem.W.keepIn K (.ref f4) = true)
    (a5 : PySem.W.nsIn K mainGlobals "law" = some (some (.ref f5))) (l5 : K.lookup f5 = some ⟨oc5, od5, .func (PySem.W.fnOf "law" "law" (defArgs sLaw) (defBody sLaw) (defScope sLaw) .none kV5 dc5 pm5 an5 cd5 ct5), sl5⟩) (c5 : PySem.W.codeIn K cd5 "law" = true) (k5 : PySem.W.keepIn K (.ref f5) = true)
    (z1 : PySem.W.nsIn K mainGlobals "len" = some none) (z2 : PySem.W.nsIn K mainGlobals "list" = some none) (z3 : PySem.W.nsIn K mainGlobals "max" = some none) (z4 : PySem.W.nsIn K mainGlobals "range" = some none) (z5 : PySem.W.nsIn K mainGlobals "isinstance" = some none) :
    ∃ fd : FuncData, (∀ (s : Shared) (v : Value), BindsTo s fd ⟨[v], []⟩ [("script", v)]) ∧ ∀ base : Heap, K.In base → base.Ns mainGlobals mg → FnOk l.prog w K mg base CX0 2 fa fd ["script"] (spLaw K) := by
  have e := hfa.symm.trans (PySem.W.mg_of X G a5)
  cases e
  have F1 := fun_mk (st := sSplit) l1 c1 k1
  have F2 := fun_mk (st := sPlace) l2 c2 k2
  have F3 := fun_mk (st := sChild) l3 c3 k3
  have F4 := fun_mk (st := sCell) l4 c4 k4
  have F5 := fun_mk (st := sLaw) l5 c5 k5
  have b1 := F1.binds (ps := ["items", "most"]) fun _ _ _ _ _ _ us hl => match us, hl with | [_, _], _ => rfl
  have b2 := F2.binds (ps := ["items", "key"]) fun _ _ _ _ _ _ us hl => match us, hl with | [_, _], _ => rfl
  have b3 := F3.binds (ps := ["items", "key"]) fun _ _ _ _ _ _ us hl => match us, hl with | [_, _], _ => rfl
  have b4 := F4.binds (ps := ["script", "k"]) fun _ _ _ _ _ _ us hl => match us, hl with | [_, _], _ => rfl
  have T : Txt mg := ⟨PySem.W.mg_none_of X G z1, PySem.W.mg_none_of X G z2, PySem.W.mg_none_of X G z3, PySem.W.mg_none_of X G z4, PySem.W.mg_none_of X G z5⟩
  exact ⟨PySem.W.fnOf "law" "law" (defArgs sLaw) (defBody sLaw) (defScope sLaw) .none kV5 dc5 pm5 an5 cd5 ct5, fun s v => .of_eq rfl, fun base _ _ => ok_law F5 F4 F1 F2 F3 T b4 b1 b2 b3 (PySem.W.mg_of X G a4) (PySem.W.mg_of X G a1) (PySem.W.mg_of X G a2) (PySem.W.mg_of X G a3)⟩
end K12
open PySem PySem.W PyProof.Rows
set_option maxHeartbeats 0 in
theorem PySem.Challenge.cw_laminae_k12_places_and_parts_holds : PySem.Challenge.rw_laminae_k12_places_and_parts.Holds := by
  w_on; o_law; k_head; (case hw => w_witness2)
  k_fill
  refine L2.walk_of (l := PySem.Challenge.rw_laminae_k12_places_and_parts) (n := 63) (k := 2) (x := "script") (CX := fun _ => L2.CX0) (sp := fun w => K12.spLaw _) rfl (by decide) rfl ⟨rfl, by decide, by decide⟩ (fun w h Y => PySem.W.kIn_of Y) ?F (fun _ _ a ns hl _ hS => ⟨a, ns, rfl, hS, hl, fun _ => rfl⟩) (fun _ _ _ _ _ h => h)
  case F =>
    intro w mg fa h KX G hmg
    refine' K12.all_mk KX G hmg ?a1 ?l1 ?c1 ?k1 ?a2 ?l2 ?c2 ?k2 ?a3 ?l3 ?c3 ?k3 ?a4 ?l4 ?c4 ?k4 ?a5 ?l5 ?c5 ?k5 ?z1 ?z2 ?z3 ?z4 ?z5
    (case a1 => k_is); (case l1 => k_is); (case c1 => k_is); (case k1 => k_is); (case a2 => k_is); (case l2 => k_is); (case c2 => k_is); (case k2 => k_is); (case a3 => k_is); (case l3 => k_is); (case c3 => k_is); (case k3 => k_is); (case a4 => k_is); (case l4 => k_is); (case c4 => k_is); (case k4 => k_is); (case a5 => k_is); (case l5 => k_is); (case c5 => k_is); (case k5 => k_is); (case z1 => k_is); (case z2 => k_is); (case z3 => k_is); (case z4 => k_is); (case z5 => k_is)

