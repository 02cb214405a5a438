/- The document's own answers of layer num (package bailmentref01) are what the plain functions of NumM say; they leave memory alone but for draws. Conditions: none. -/
import Derived.Test.YtcphjehjdhgheaaNtA
import Derived.Test.YtcphjehjdhgheaaNumE
import Derived.Deep.QuietTactic
import Derived.BigQuiet
namespace Go.Proofs.Ytcphjehjdhgheaa.Num
open Go.ChangeShapes Go.WideShapes Go.ChangeAt Go.RowKit
set_option linter.unusedVariables false

theorem ops_cases (op : Int) : op = 26 ∨ op = 6 ∨ op = 7 ∨ op = 8 ∨ op = 9 ∨ op = 10 ∨ op = 11 ∨ op = 12 ∨ op = 13 ∨ op = 14 ∨ op = 15 ∨ op = 16 ∨ op = 17 ∨ op = 18 ∨ op = 4 ∨ op = 5 ∨
    (op ≠ 26 ∧ op ≠ 6 ∧ op ≠ 7 ∧ op ≠ 8 ∧ op ≠ 9 ∧ op ≠ 10 ∧ op ≠ 11 ∧ op ≠ 12 ∧ op ≠ 13 ∧ op ≠ 14 ∧ op ≠ 15 ∧ op ≠ 16 ∧ op ≠ 17 ∧ op ≠ 18 ∧ op ≠ 4 ∧ op ≠ 5) := by omega


theorem mul_bd {a b : Int} (ha : -2147483648 ≤ a ∧ a ≤ 2147483647) (hb : -2147483648 ≤ b ∧ b ≤ 2147483647) : -4611686018427387904 ≤ a * b ∧ a * b ≤ 4611686018427387904 := by
  have h1 : a.natAbs ≤ 2147483648 := by omega
  have h2 : b.natAbs ≤ 2147483648 := by omega
  have h3 : (a * b).natAbs ≤ 2147483648 * 2147483648 := by rw [Int.natAbs_mul]; exact Nat.mul_le_mul h1 h2
  omega
theorem div_bd {a b : Int} (ha : -2147483648 ≤ a ∧ a ≤ 2147483647) : -2147483648 ≤ a.tdiv b ∧ a.tdiv b ≤ 2147483648 := by
  have h3 : (a.tdiv b).natAbs ≤ a.natAbs := by rw [Int.natAbs_tdiv]; exact Nat.div_le_self _ _
  omega
theorem mod_bd {a b : Int} (ha : -2147483648 ≤ a ∧ a ≤ 2147483647) : -2147483648 ≤ a.tmod b ∧ a.tmod b ≤ 2147483648 := by
  have h3 : (a.tmod b).natAbs ≤ a.natAbs := by rw [Int.natAbs_tmod]; exact Nat.mod_le _ _
  omega
theorem taken_none {op a b c : Int} (h : op ≠ 26 ∧ op ≠ 6 ∧ op ≠ 7 ∧ op ≠ 8 ∧ op ≠ 9 ∧ op ≠ 10 ∧ op ≠ 11 ∧ op ≠ 12 ∧ op ≠ 13 ∧ op ≠ 14 ∧ op ≠ 15 ∧ op ≠ 16 ∧ op ≠ 17 ∧ op ≠ 18 ∧ op ≠ 4 ∧ op ≠ 5) : takenB (opN op) a b c = false := by
  have e : opN op = -1 := by unfold opN; rw [if_neg (by omega), if_neg (by omega), if_neg (by omega)]
  rw [e]; rfl
theorem taken_two {a b c : Int} (h : takenB 2 a b c = true) : (-2147483648 ≤ a ∧ a ≤ 2147483647) ∧ (-2147483648 ≤ b ∧ b ≤ 2147483647) := by
  simp [takenB] at h; exact ⟨fit_iff.1 h.2, fit_iff.1 h.1⟩

theorem taken_one {a b c : Int} (h : takenB 1 a b c = true) : (-2147483648 ≤ a ∧ a ≤ 2147483647) := by
  simp [takenB] at h; exact fit_iff.1 h


theorem refFits_any (n : Int) (w : World) :
    Calls Try.prog 98 #[.int .i64 n] w fun e w' => e = .returned (.bool (fitB n)) ∧ w = w' := by
  by_cases h1 : -2147483648 ≤ n
  · by_cases h2 : n ≤ 2147483647
    · rw [fit_yes ⟨h1, h2⟩]
      go_enter Try.func98, Try.ntmps98
      go_wp2
      go_ret
      exact ⟨rfl, rfl⟩
    · rw [fit_no (fun h => h2 h.2)]
      go_enter Try.func98, Try.ntmps98
      go_wp2
      go_ret
      exact ⟨rfl, rfl⟩
  · rw [fit_no (fun h => h1 h.1)]
    go_enter Try.func98, Try.ntmps98
    go_wp2
    go_ret
    exact ⟨rfl, rfl⟩

theorem refTruth_any (b : Bool) (w : World) :
    Calls Try.prog 131 #[.bool b] w fun e w' => e = .returned (.int .i64 (bn b)) ∧ w = w' := by
  cases b
  all_goals
    go_enter Try.func131, Try.ntmps131
    go_wp2
    go_ret
    exact ⟨rfl, rfl⟩

theorem refOver_any (n : Int) (w : World) :
    Calls Try.prog 132 #[.int .i64 n] w fun e w' => e = .returned (.tuple #[.int .i64 (over n).1, .int .i64 (over n).2]) ∧ w = w' := by
  rcases Bool.eq_false_or_eq_true (fitB n) with h | h
  all_goals
    unfold over; rw [h]
    go_enter Try.func132, Try.ntmps132
    go_wp2_with (go_at_call 98; refine (refFits_any _ _).mono ?_; rintro e w' ⟨rfl, rfl⟩)
    go_ret2
    exact ⟨rfl, rfl⟩

def absI (n : Int) : Int := n.natAbs

theorem refSize_any (n : Int) (w : World) (h : -2147483648 ≤ n ∧ n ≤ 2147483647) :
    Calls Try.prog 139 #[.int .i64 n] w fun e w' => e = .returned (.int .i64 (absI n)) ∧ w' = w := by
  obtain ⟨h1, h2⟩ := h
  by_cases h0 : n < 0
  · have e : absI n = -n := by unfold absI; omega
    rw [e]
    go_enter Try.func139, Try.ntmps139
    go_wp2
    go_ret
    exact ⟨rfl, rfl⟩
  · have e : absI n = n := by unfold absI; omega
    rw [e]
    go_enter Try.func139, Try.ntmps139
    go_wp2
    go_ret
    exact ⟨rfl, rfl⟩

theorem refOperands_any (op : Int) (w : World) :
    Calls Try.prog 106 #[.int .i64 op] w fun e w' => e = .returned (.int .i64 (opN op)) ∧ w = w' := by
  have hc : op = 4 ∨ op = 5 ∨ op = 26 ∨ (op ≠ 4 ∧ op ≠ 5 ∧ op ≠ 26 ∧ (6 ≤ op ∧ op ≤ 18)) ∨ (op ≠ 4 ∧ op ≠ 5 ∧ op ≠ 26 ∧ 6 ≤ op ∧ ¬ op ≤ 18) ∨ (op ≠ 4 ∧ op ≠ 5 ∧ op ≠ 26 ∧ ¬ 6 ≤ op) := by omega
  rcases hc with rfl | rfl | rfl | ⟨h1, h2, h3, h4, h5⟩ | ⟨h1, h2, h3, h4, h5⟩ | ⟨h1, h2, h3, h4⟩
  case inr.inr.inr.inl =>
    have e : opN op = 2 := by unfold opN; rw [if_neg h3, if_pos (by omega)]
    rw [e]
    go_enter Try.func106, Try.ntmps106
    go_wp2
    go_ret
    exact ⟨rfl, rfl⟩
  case inr.inr.inr.inr.inl =>
    have e : opN op = -1 := by unfold opN; rw [if_neg h3, if_neg (by omega), if_neg (by omega)]
    rw [e]
    go_enter Try.func106, Try.ntmps106
    go_wp2
    go_ret
    exact ⟨rfl, rfl⟩
  case inr.inr.inr.inr.inr =>
    have e : opN op = -1 := by unfold opN; rw [if_neg h3, if_neg (by omega), if_neg (by omega)]
    rw [e]
    go_enter Try.func106, Try.ntmps106
    go_wp2
    go_ret
    exact ⟨rfl, rfl⟩
  all_goals
    go_enter Try.func106, Try.ntmps106
    go_wp2
    go_ret
    exact ⟨rfl, rfl⟩

theorem refParts_any (a b : Int) (w : World) (ha : -2147483648 ≤ a ∧ a ≤ 2147483647) (hb : -2147483648 ≤ b ∧ b ≤ 2147483647) (h0 : b ≠ 0) :
    Calls Try.prog 133 #[.int .i64 a, .int .i64 b] w fun e w' => e = .returned (.tuple #[.int .i64 (absI a / absI b), .int .i64 (absI a % absI b)]) ∧ ∃ n, w' = w.drewN n := by
  have ha0 : 0 ≤ absI a := by unfold absI; omega
  have ha1 : absI a ≤ 2147483648 := by unfold absI; omega
  have hb0 : 0 < absI b := by unfold absI; omega
  have hb1 : absI b ≤ 2147483648 := by unfold absI; omega
  have hbz : absI b ≠ 0 := by omega
  go_enter Try.func133, Try.ntmps133
  go_wp2
  go_quiet ((go_at_call 139; exact Calls.quiet_of_same (refSize_any _ _ (by omega))))
  go_wp2
  go_ret2
  exact ⟨rfl, _, rfl⟩

theorem absI_pos {a : Int} (h : ¬ a < 0) : absI a = a := by unfold absI; omega
theorem absI_neg {a : Int} (h : a < 0) : absI a = -a := by unfold absI; omega
theorem tdiv_signs (a b : Int) : (¬ a < 0 ∧ ¬ b < 0 → absI a / absI b = a.tdiv b) ∧ (a < 0 ∧ ¬ b < 0 → -(absI a / absI b) = a.tdiv b) ∧ (¬ a < 0 ∧ b < 0 → -(absI a / absI b) = a.tdiv b) ∧ (a < 0 ∧ b < 0 → absI a / absI b = a.tdiv b) := by
  refine ⟨fun h => ?_, fun h => ?_, fun h => ?_, fun h => ?_⟩
  · rw [absI_pos h.1, absI_pos h.2, Int.tdiv_eq_ediv_of_nonneg (by omega)]
  · rw [absI_neg h.1, absI_pos h.2, ← Int.tdiv_eq_ediv_of_nonneg (by omega), Int.neg_tdiv, Int.neg_neg]
  · rw [absI_pos h.1, absI_neg h.2, ← Int.tdiv_eq_ediv_of_nonneg (by omega), Int.tdiv_neg, Int.neg_neg]
  · rw [absI_neg h.1, absI_neg h.2, ← Int.tdiv_eq_ediv_of_nonneg (by omega), Int.neg_tdiv, Int.tdiv_neg, Int.neg_neg]
theorem mod_fits {a b : Int} (ga : -2147483648 ≤ a ∧ a ≤ 2147483647) (gb : -2147483648 ≤ b ∧ b ≤ 2147483647) (h0 : b ≠ 0) : -2147483648 ≤ a.tmod b ∧ a.tmod b ≤ 2147483647 := by
  have h1 := mod_bd (b := b) ga
  have h2 : (a.tmod b).natAbs < b.natAbs := by
    rw [Int.natAbs_tmod]
    exact Nat.mod_lt _ (by omega)
  omega
theorem tmod_signs (a b : Int) : (¬ a < 0 → absI a % absI b = a.tmod b) ∧ (a < 0 → -(absI a % absI b) = a.tmod b) := by
  have hb : absI b = b ∨ absI b = -b := by unfold absI; omega
  refine ⟨fun h => ?_, fun h => ?_⟩
  · rw [absI_pos h]
    rcases hb with e | e <;> rw [e, ← Int.tmod_eq_emod_of_nonneg (by omega)]
    rw [Int.tmod_neg]
  · rw [absI_neg h]
    rcases hb with e | e <;> rw [e, ← Int.tmod_eq_emod_of_nonneg (by omega), Int.neg_tmod]
    · rw [Int.neg_neg]
    · rw [Int.tmod_neg, Int.neg_neg]
end Go.Proofs.Ytcphjehjdhgheaa.Num
