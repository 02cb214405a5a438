/- The document's tables: a variable, a choice. Conditions: at most 20 variables. -/
import Derived.Test.YtfohjlepknnleaaBdOa
namespace Go.Proofs.Ytfohjlepknnleaa.Bd
open Go.ChangeShapes Go.WideShapes Go.ChangeAt Go.RowKit Go.IntWalk
set_option linter.unusedVariables false
set_option linter.unusedSimpArgs false

set_option maxRecDepth 100000 in
set_option maxHeartbeats 1600000 in
theorem rvar_any (w : World) (vars j : Nat) (hv : vars ≤ 20) (hj : j < vars) :
    Calls Try.prog 26 #[.int .i64 (vars : Int), .int .i64 (j : Int)] w (MadeB w (tabD vars (fun r => r j))) := by
  obtain ⟨n, hn⟩ : ∃ n, 2 ^ vars = n := ⟨_, rfl⟩
  have hn20 : n ≤ 1048576 := by rw [← hn]; exact Nat.pow_le_pow_right (by omega) hv
  have hw : wrap64 ((2 : Int) ^ vars) = (n : Int) := by
    have : ((2 : Int) ^ vars) = ((2 ^ vars : Nat) : Int) := by simp
    rw [this, hn]
    exact wrap64_in _ ⟨by omega, by omega⟩
  have hmk := run_make_row' (P := Try.prog) 29 4 (.bool false) 1 Try.underlying29 infoB rfl .i64 .i64 n (by omega) (by omega)
  obtain ⟨w1, hw1⟩ : ∃ W, w.alloc (.cells (madeCells #[.bool false] n) 4) = W := ⟨_, rfl⟩
  obtain ⟨hr1, hb1⟩ := RowB.made (fun k => rowF vars k j) hw1
  have hL : (tabD vars (fun r => r j)) = fillR n (fun k => rowF vars k j) n := by rw [fillR_all]; unfold tabD; rw [hn]
  have HDG : Hid (∀ W k, k < n → Calls Try.prog 44 #[.int .i64 (k : Int), .int .i64 (j : Int), .int .i64 (vars : Int)] W (fun e w' => e = .returned (.bool (rowF vars k j)) ∧ w' = W)) := Lib.hid (fun W k hk => digit_any W vars k j (by omega) hj (by rw [hn]; exact hk))
  have HR1 := Lib.hid hr1
  have HB1 := Lib.hid hb1
  have HW1 := Lib.hid hw1
  rw [hL]
  clear hr1 hb1 hw1 hL hn hj
  go_enter Try.func26, Try.ntmps26
  go_wp2_with fail
  rw [HW1.out, hw]
  clear hw
  go_loopw [6] (fun vi wr => ∃ i : Nat, i ≤ n ∧ vi = .int .i64 (i : Int) ∧ RowB wr w.heap.size (fillR n (fun k => rowF vars k j) i) ∧ Below w.heap.size w wr) (fun vi _ => n - intV vi)
  case atStart => exact ⟨0, Nat.zero_le _, rfl, HR1.out, HB1.out⟩
  case round =>
    obtain ⟨i, hi, rfl, hr, hb⟩ := hrel
    by_cases hin : i < n
    · obtain ⟨x, qa, qf⟩ : ∃ x, wr.cell? ⟨w.heap.size, i, none⟩ = some (.bool x) ∧ wr.frozen? ⟨w.heap.size, i, none⟩ = false := ⟨_, hr.at (i := i) (by rw [fillR_len]; exact hin)⟩
      have HE : Hid (RowB (wr.setCell ⟨w.heap.size, i, none⟩ (.bool (rowF vars i j))) w.heap.size (fillR n (fun k => rowF vars k j) (i + 1)) ∧ Below w.heap.size w (wr.setCell ⟨w.heap.size, i, none⟩ (.bool (rowF vars i j)))) := Lib.hid ⟨by rw [← fillR_set hin]; exact hr.set i _, hb.setCell (Nat.le_refl _) _⟩
      have HC := Lib.hid (HDG.out wr i hin)
      clear hr hb
      go_wp2_with fail
      refine HC.out.mono ?_
      rintro e w' ⟨rfl, hw'⟩
      subst hw'
      go_wp2_with fail
      go_roundw
      case rel => exact ⟨i + 1, by omega, by go_num, HE.out.1, HE.out.2⟩
      case measure => simp [intV]; omega
    · obtain rfl : i = n := by omega
      have HE : Hid (RowB wr w.heap.size (fillR i (fun k => rowF vars k j) i) ∧ Below w.heap.size w wr) := Lib.hid ⟨hr, hb⟩
      clear hr hb
      go_wp2_with fail
      refine bodyPost_ret (v := .slice (some ⟨w.heap.size, 0, none⟩) i i) (by simp [results, Try.results26, go_sem]) rfl ⟨by rw [fillR_len], HE.out.1, HE.out.2⟩

/-- The choice, row by row. -/
def iteL (l1 l2 l3 : List Bool) (k : Nat) : Bool := if l1.getD k false then l2.getD k false else l3.getD k false
theorem BoolsAt.get {w : World} {v : Value} {l : List Bool} {n i : Nat} (h : BoolsAt w v l) (hn : l.length = n) (hi : i < n) : ∃ g o c, v = .slice (some ⟨g, o, none⟩) n c ∧ w.cell? ⟨g, o + i, none⟩ = some (.bool (l.getD i false)) := by
  obtain ⟨A, c, rfl, h2⟩ := h
  have hx : l[i]? = some (l.getD i false) := by rw [List.getD_eq_getElem?_getD, List.getElem?_eq_getElem (by omega)]; rfl
  obtain ⟨g, o, rfl, h3⟩ := h2 i _ hx
  exact ⟨g, o, c, by rw [hn], h3⟩
theorem BoolsAt.form {w : World} {v : Value} {l : List Bool} (h : BoolsAt w v l) : ∃ A c, v = .slice A l.length c := by
  obtain ⟨A, c, rfl, h2⟩ := h
  exact ⟨A, c, rfl⟩

set_option maxRecDepth 100000 in
set_option maxHeartbeats 1600000 in
theorem rite_any (w : World) (v1 v2 v3 : Value) (l1 l2 l3 : List Bool) (n : Nat) (hn20 : n ≤ 1048576) (a1 : BoolsAt w v1 l1) (a2 : BoolsAt w v2 l2) (a3 : BoolsAt w v3 l3) (e1 : l1.length = n) (e2 : l2.length = n) (e3 : l3.length = n) :
    Calls Try.prog 27 #[v1, v2, v3] w (MadeB w ((List.range n).map (iteL l1 l2 l3))) := by
  have hmk := run_make_row' (P := Try.prog) 29 4 (.bool false) 1 Try.underlying29 infoB rfl .i64 .i64 n (by omega) (by omega)
  obtain ⟨w1, hw1⟩ : ∃ W, w.alloc (.cells (madeCells #[.bool false] n) 4) = W := ⟨_, rfl⟩
  obtain ⟨hr1, hb1⟩ := RowB.made (iteL l1 l2 l3) hw1
  have hL : (List.range n).map (iteL l1 l2 l3) = fillR n (iteL l1 l2 l3) n := (fillR_all _ _).symm
  have HA : Hid (∀ W, Below w.heap.size w W → BoolsAt W v1 l1 ∧ BoolsAt W v2 l2 ∧ BoolsAt W v3 l3) := Lib.hid (fun W hb => ⟨a1.below hb, a2.below hb, a3.below hb⟩)
  have HL := Lib.hid (And.intro e1 (And.intro e2 e3))
  obtain ⟨A1, c1, rfl⟩ := a1.form
  obtain ⟨A2, c2, rfl⟩ := a2.form
  obtain ⟨A3, c3, rfl⟩ := a3.form
  rw [e1, e2, e3] at HA
  rw [e1, e2, e3]
  have HR1 := Lib.hid hr1
  have HB1 := Lib.hid hb1
  have HW1 := Lib.hid hw1
  rw [hL]
  clear hr1 hb1 hw1 hL a1 a2 a3 e1 e2 e3
  go_enter Try.func27, Try.ntmps27
  go_wp2_with fail
  rw [HW1.out]
  go_loopw [8] (fun vi wr => ∃ i : Nat, i ≤ n ∧ vi = .int .i64 (i : Int) ∧ RowB wr w.heap.size (fillR n (iteL l1 l2 l3) i) ∧ Below w.heap.size w wr) (fun vi _ => n - intV vi)
  case atStart => exact ⟨0, Nat.zero_le _, rfl, HR1.out, HB1.out⟩
  case round =>
    obtain ⟨i, hi, rfl, hr, hb⟩ := hrel
    by_cases hin : i < n
    · obtain ⟨x, qa, qf⟩ : ∃ x, wr.cell? ⟨w.heap.size, i, none⟩ = some (.bool x) ∧ wr.frozen? ⟨w.heap.size, i, none⟩ = false := ⟨_, hr.at (i := i) (by rw [fillR_len]; exact hin)⟩
      have HE : Hid (RowB (wr.setCell ⟨w.heap.size, i, none⟩ (.bool (iteL l1 l2 l3 i))) w.heap.size (fillR n (iteL l1 l2 l3) (i + 1)) ∧ Below w.heap.size w (wr.setCell ⟨w.heap.size, i, none⟩ (.bool (iteL l1 l2 l3 i)))) := Lib.hid ⟨by rw [← fillR_set hin]; exact hr.set i _, hb.setCell (Nat.le_refl _) _⟩
      obtain ⟨b1, b2, b3⟩ := HA.out wr hb
      obtain ⟨e1, e2, e3⟩ := HL.out
      obtain ⟨g1, o1, _, h1, q1⟩ := b1.get e1 hin
      obtain ⟨g2, o2, _, h2, q2⟩ := b2.get e2 hin
      obtain ⟨g3, o3, _, h3, q3⟩ := b3.get e3 hin
      injection h1 with h1 _ _
      injection h2 with h2 _ _
      injection h3 with h3 _ _
      subst h1 h2 h3
      obtain ⟨x1, hx1⟩ : ∃ x, l1.getD i false = x := ⟨_, rfl⟩
      obtain ⟨x2, hx2⟩ : ∃ x, l2.getD i false = x := ⟨_, rfl⟩
      obtain ⟨x3, hx3⟩ : ∃ x, l3.getD i false = x := ⟨_, rfl⟩
      have hit : iteL l1 l2 l3 i = if x1 then x2 else x3 := by unfold iteL; rw [hx1, hx2, hx3]
      rw [hit] at HE
      rw [hx1] at q1
      rw [hx2] at q2
      rw [hx3] at q3
      clear hr hb b1 b2 b3 e1 e2 e3 hx1 hx2 hx3 hit
      cases x1 <;> cases x2 <;> cases x3 <;> (
        go_wp2_with fail
        go_roundw
        case rel => exact ⟨i + 1, by omega, by go_num, HE.out.1, HE.out.2⟩
        case measure => simp [intV]; omega)
    · obtain rfl : i = n := by omega
      have HE : Hid (RowB wr w.heap.size (fillR i (iteL l1 l2 l3) i) ∧ Below w.heap.size w wr) := Lib.hid ⟨hr, hb⟩
      clear hr hb
      go_wp2_with fail
      refine bodyPost_ret (v := .slice (some ⟨w.heap.size, 0, none⟩) i i) (by simp [results, Try.results27, go_sem]) rfl ⟨by rw [fillR_len], HE.out.1, HE.out.2⟩
end Go.Proofs.Ytfohjlepknnleaa.Bd
