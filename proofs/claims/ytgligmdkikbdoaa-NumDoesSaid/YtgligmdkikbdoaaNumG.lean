/- The document's own answers of layer num (package bailmentref01) are what the plain functions of NumM say; they leave memory alone but for draws. Conditions: none. -/
import Derived.Test.YtgligmdkikbdoaaNumD
import Derived.Test.YtgligmdkikbdoaaNumE
import Derived.Deep.QuietTactic
import Derived.BigQuiet
namespace Go.Proofs.Ytgligmdkikbdoaa.Num
open Go.ChangeShapes Go.WideShapes Go.ChangeAt Go.RowKit
set_option linter.unusedVariables false

theorem refFits_any (n : Int) (w : World) :
    Calls Try.prog 18 #[.int .i64 n] w fun e w' => e = .returned (.bool (fitB n)) ∧ w = w' := by
  by_cases h1 : -2147483648 ≤ n
  · by_cases h2 : n ≤ 2147483647
    · rw [fit_yes ⟨h1, h2⟩]
      go_enter Try.func18, Try.ntmps18
      go_wp2
      go_ret
      exact ⟨rfl, rfl⟩
    · rw [fit_no (fun h => h2 h.2)]
      go_enter Try.func18, Try.ntmps18
      go_wp2
      go_ret
      exact ⟨rfl, rfl⟩
  · rw [fit_no (fun h => h1 h.1)]
    go_enter Try.func18, Try.ntmps18
    go_wp2
    go_ret
    exact ⟨rfl, rfl⟩

theorem refTruth_any (b : Bool) (w : World) :
    Calls Try.prog 38 #[.bool b] w fun e w' => e = .returned (.int .i64 (bn b)) ∧ w = w' := by
  cases b
  all_goals
    go_enter Try.func38, Try.ntmps38
    go_wp2
    go_ret
    exact ⟨rfl, rfl⟩

theorem refOver_any (n : Int) (w : World) :
    Calls Try.prog 39 #[.int .i64 n] w fun e w' => e = .returned (.tuple #[.int .i64 (over n).1, .int .i64 (over n).2]) ∧ w = w' := by
  rcases Bool.eq_false_or_eq_true (fitB n) with h | h
  all_goals
    unfold over; rw [h]
    go_enter Try.func39, Try.ntmps39
    go_wp2_with (go_at_call 18; refine (refFits_any _ _).mono ?_; rintro e w' ⟨rfl, rfl⟩)
    go_ret2
    exact ⟨rfl, rfl⟩

def absI (n : Int) : Int := n.natAbs

theorem refSize_any (n : Int) (w : World) (h : -2147483648 ≤ n ∧ n ≤ 2147483647) :
    Calls Try.prog 55 #[.int .i64 n] w fun e w' => e = .returned (.int .i64 (absI n)) ∧ w' = w := by
  obtain ⟨h1, h2⟩ := h
  by_cases h0 : n < 0
  · have e : absI n = -n := by unfold absI; omega
    rw [e]
    go_enter Try.func55, Try.ntmps55
    go_wp2
    go_ret
    exact ⟨rfl, rfl⟩
  · have e : absI n = n := by unfold absI; omega
    rw [e]
    go_enter Try.func55, Try.ntmps55
    go_wp2
    go_ret
    exact ⟨rfl, rfl⟩

theorem refOperands_any (op : Int) (w : World) :
    Calls Try.prog 20 #[.int .i64 op] w fun e w' => e = .returned (.int .i64 (opN op)) ∧ w = w' := by
  have hc : op = 4 ∨ op = 5 ∨ op = 26 ∨ (op ≠ 4 ∧ op ≠ 5 ∧ op ≠ 26 ∧ (6 ≤ op ∧ op ≤ 18)) ∨ (op ≠ 4 ∧ op ≠ 5 ∧ op ≠ 26 ∧ 6 ≤ op ∧ ¬ op ≤ 18) ∨ (op ≠ 4 ∧ op ≠ 5 ∧ op ≠ 26 ∧ ¬ 6 ≤ op) := by omega
  rcases hc with rfl | rfl | rfl | ⟨h1, h2, h3, h4, h5⟩ | ⟨h1, h2, h3, h4, h5⟩ | ⟨h1, h2, h3, h4⟩
  case inr.inr.inr.inl =>
    have e : opN op = 2 := by unfold opN; rw [if_neg h3, if_pos (by omega)]
    rw [e]
    go_enter Try.func20, Try.ntmps20
    go_wp2
    go_ret
    exact ⟨rfl, rfl⟩
  case inr.inr.inr.inr.inl =>
    have e : opN op = -1 := by unfold opN; rw [if_neg h3, if_neg (by omega), if_neg (by omega)]
    rw [e]
    go_enter Try.func20, Try.ntmps20
    go_wp2
    go_ret
    exact ⟨rfl, rfl⟩
  case inr.inr.inr.inr.inr =>
    have e : opN op = -1 := by unfold opN; rw [if_neg h3, if_neg (by omega), if_neg (by omega)]
    rw [e]
    go_enter Try.func20, Try.ntmps20
    go_wp2
    go_ret
    exact ⟨rfl, rfl⟩
  all_goals
    go_enter Try.func20, Try.ntmps20
    go_wp2
    go_ret
    exact ⟨rfl, rfl⟩

theorem refParts_any (a b : Int) (w : World) (ha : -2147483648 ≤ a ∧ a ≤ 2147483647) (hb : -2147483648 ≤ b ∧ b ≤ 2147483647) (h0 : b ≠ 0) :
    Calls Try.prog 40 #[.int .i64 a, .int .i64 b] w fun e w' => e = .returned (.tuple #[.int .i64 (absI a / absI b), .int .i64 (absI a % absI b)]) ∧ ∃ n, w' = w.drewN n := by
  have ha0 : 0 ≤ absI a := by unfold absI; omega
  have ha1 : absI a ≤ 2147483648 := by unfold absI; omega
  have hb0 : 0 < absI b := by unfold absI; omega
  have hb1 : absI b ≤ 2147483648 := by unfold absI; omega
  have hbz : absI b ≠ 0 := by omega
  go_enter Try.func40, Try.ntmps40
  go_wp2
  go_quiet ((go_at_call 55; exact Calls.quiet_of_same (refSize_any _ _ (by omega))))
  go_wp2
  go_ret2
  exact ⟨rfl, _, rfl⟩

theorem absI_pos {a : Int} (h : ¬ a < 0) : absI a = a := by unfold absI; omega
theorem absI_neg {a : Int} (h : a < 0) : absI a = -a := by unfold absI; omega
theorem tdiv_signs (a b : Int) : (¬ a < 0 ∧ ¬ b < 0 → absI a / absI b = a.tdiv b) ∧ (a < 0 ∧ ¬ b < 0 → -(absI a / absI b) = a.tdiv b) ∧ (¬ a < 0 ∧ b < 0 → -(absI a / absI b) = a.tdiv b) ∧ (a < 0 ∧ b < 0 → absI a / absI b = a.tdiv b) := by
  refine ⟨fun h => ?_, fun h => ?_, fun h => ?_, fun h => ?_⟩
  · rw [absI_pos h.1, absI_pos h.2, Int.tdiv_eq_ediv_of_nonneg (by omega)]
  · rw [absI_neg h.1, absI_pos h.2, ← Int.tdiv_eq_ediv_of_nonneg (by omega), Int.neg_tdiv, Int.neg_neg]
  · rw [absI_pos h.1, absI_neg h.2, ← Int.tdiv_eq_ediv_of_nonneg (by omega), Int.tdiv_neg, Int.neg_neg]
  · rw [absI_neg h.1, absI_neg h.2, ← Int.tdiv_eq_ediv_of_nonneg (by omega), Int.neg_tdiv, Int.tdiv_neg, Int.neg_neg]
theorem mod_fits {a b : Int} (ga : -2147483648 ≤ a ∧ a ≤ 2147483647) (gb : -2147483648 ≤ b ∧ b ≤ 2147483647) (h0 : b ≠ 0) : -2147483648 ≤ a.tmod b ∧ a.tmod b ≤ 2147483647 := by
  have h1 := mod_bd (b := b) ga
  have h2 : (a.tmod b).natAbs < b.natAbs := by
    rw [Int.natAbs_tmod]
    exact Nat.mod_lt _ (by omega)
  omega
theorem tmod_signs (a b : Int) : (¬ a < 0 → absI a % absI b = a.tmod b) ∧ (a < 0 → -(absI a % absI b) = a.tmod b) := by
  have hb : absI b = b ∨ absI b = -b := by unfold absI; omega
  refine ⟨fun h => ?_, fun h => ?_⟩
  · rw [absI_pos h]
    rcases hb with e | e <;> rw [e, ← Int.tmod_eq_emod_of_nonneg (by omega)]
    rw [Int.tmod_neg]
  · rw [absI_neg h]
    rcases hb with e | e <;> rw [e, ← Int.tmod_eq_emod_of_nonneg (by omega), Int.neg_tmod]
    · rw [Int.neg_neg]
    · rw [Int.tmod_neg, Int.neg_neg]
end Go.Proofs.Ytgligmdkikbdoaa.Num
