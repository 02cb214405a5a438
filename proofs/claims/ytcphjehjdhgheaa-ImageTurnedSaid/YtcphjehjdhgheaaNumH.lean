/- What single operators make of operands that fit, case by case. Conditions: the operands have 32 bits. The document's own answers of layer num (package bailmentref01) are what the plain functions of NumM say; they leave memory alone but for draws. Conditions: none. The document's own answer 'Do' of layer num (package bailmentref01) is what the plain function doN says; it leaves memory alone but for draws. Conditions: none. -/
import Derived.Test.YtcphjehjdhgheaaNkM
import Derived.Test.YtcphjehjdhgheaaNtB
import Derived.Deep.QuietTactic
import Derived.BigQuiet
namespace Go.Proofs.Ytcphjehjdhgheaa.Num

theorem tk2 {op a b c : Int} (h : opN op = 2) (fa : fitB a = true) (fb : fitB b = true) : takenB (opN op) a b c = true := by rw [h]; simp [takenB, fa, fb]
theorem tk1 {op a b c : Int} (h : opN op = 1) (fa : fitB a = true) : takenB (opN op) a b c = true := by rw [h]; simp [takenB, fa]
theorem tk2_no {op a b c : Int} (h : opN op = 2) (f : fitB a = false ∨ fitB b = false) : doN op a b c = (0, 1) := by
  have : takenB (opN op) a b c = false := by rw [h]; rcases f with f | f <;> simp [takenB, f]
  simp [doN, this]

theorem do_lt {a b : Int} (fa : fitB a = true) (fb : fitB b = true) : doN 12 a b 0 = (bn (decide (a < b)), 0) := by
  have h := tk2 (op := 12) (c := 0) rfl fa fb; simp [doN, h, cmpB]
theorem do_le {a b : Int} (fa : fitB a = true) (fb : fitB b = true) : doN 13 a b 0 = (bn (decide (a ≤ b)), 0) := by
  have h := tk2 (op := 13) (c := 0) rfl fa fb; simp [doN, h, cmpB]
theorem do_eq {a b : Int} (fa : fitB a = true) (fb : fitB b = true) : doN 10 a b 0 = (bn (a == b), 0) := by
  have h := tk2 (op := 10) (c := 0) rfl fa fb; simp [doN, h, cmpB]
theorem do_ne {a b : Int} (fa : fitB a = true) (fb : fitB b = true) : doN 11 a b 0 = (bn (a != b), 0) := by
  have h := tk2 (op := 11) (c := 0) rfl fa fb; simp [doN, h, cmpB]
theorem lt_of {a b : Int} (fa : fitB a = true) (fb : fitB b = true) : (a < b ∧ doN 12 a b 0 = (1, 0)) ∨ (¬ a < b ∧ doN 12 a b 0 = (0, 0)) := by
  rw [do_lt fa fb]; by_cases h : a < b <;> simp [h, bn]
theorem eq_of {a b : Int} (fa : fitB a = true) (fb : fitB b = true) : (a = b ∧ doN 10 a b 0 = (1, 0)) ∨ (¬ a = b ∧ doN 10 a b 0 = (0, 0)) := by
  rw [do_eq fa fb]; by_cases h : a = b <;> simp [h, bn]
theorem le_of {a b : Int} (fa : fitB a = true) (fb : fitB b = true) : (a ≤ b ∧ doN 13 a b 0 = (1, 0)) ∨ (¬ a ≤ b ∧ doN 13 a b 0 = (0, 0)) := by
  rw [do_le fa fb]; by_cases h : a ≤ b <;> simp [h, bn]
theorem ne_of {a b : Int} (fa : fitB a = true) (fb : fitB b = true) : (a ≠ b ∧ doN 11 a b 0 = (1, 0)) ∨ (a = b ∧ doN 11 a b 0 = (0, 0)) := by
  rw [do_ne fa fb]; by_cases h : a = b <;> simp [h, bn]

/-- The operators by truth. -/
theorem do_join {op a b : Int} (h : opN op = 2) (h2 : op = 6 ∨ op = 7 ∨ op = 8 ∨ op = 9) (fa : fitB a = true) (fb : fitB b = true) : doN op a b 0 = (bn (joinB op (a != 0) (b != 0)), 0) := by
  have ht := tk2 (c := 0) h fa fb
  rcases h2 with rfl | rfl | rfl | rfl <;> simp [doN, ht]
theorem do_not {a : Int} (fa : fitB a = true) : doN 4 a 0 0 = (bn (a == 0), 0) := by
  have ht := tk1 (op := 4) (b := 0) (c := 0) rfl fa
  by_cases h : a = 0
  · subst h; simp [doN, ht, joinB]
  · have h1 : (a != 0) = true := by simp [h]
    have h2 : (a == 0) = false := by simp [h]
    simp only [h2]
    simp [doN, ht, joinB, bn, h]
theorem do_if {a b c : Int} (fa : fitB a = true) (fb : fitB b = true) (fc : fitB c = true) : doN 26 a b c = (if a ≠ 0 then b else c, 0) := by
  have ht : takenB (opN 26) a b c = true := by show takenB 3 a b c = true; simp [takenB, fa, fb, fc]
  by_cases h : a = 0
  · subst h; simp [doN, ht]
  · simp [doN, ht, h]
theorem do_reck {op a b c : Int} (h : opN op = 2) (h2 : op = 14 ∨ op = 15 ∨ op = 16 ∨ op = 17 ∨ op = 18) (fa : fitB a = true) (fb : fitB b = true) : doN op a b c = reck op a b := by
  have ht := tk2 (c := c) h fa fb
  rcases h2 with rfl | rfl | rfl | rfl | rfl <;> simp [doN, ht]
theorem do_neg {a b c : Int} (fa : fitB a = true) : doN 5 a b c = over (-a) := by
  have ht := tk1 (op := 5) (b := b) (c := c) rfl fa
  simp [doN, ht, reck]
end Go.Proofs.Ytcphjehjdhgheaa.Num

namespace Go.Proofs.Ytcphjehjdhgheaa.Num
open Go.ChangeShapes Go.WideShapes Go.ChangeAt Go.RowKit
set_option linter.unusedVariables false

theorem ops_cases (op : Int) : op = 26 ∨ op = 6 ∨ op = 7 ∨ op = 8 ∨ op = 9 ∨ op = 10 ∨ op = 11 ∨ op = 12 ∨ op = 13 ∨ op = 14 ∨ op = 15 ∨ op = 16 ∨ op = 17 ∨ op = 18 ∨ op = 4 ∨ op = 5 ∨
    (op ≠ 26 ∧ op ≠ 6 ∧ op ≠ 7 ∧ op ≠ 8 ∧ op ≠ 9 ∧ op ≠ 10 ∧ op ≠ 11 ∧ op ≠ 12 ∧ op ≠ 13 ∧ op ≠ 14 ∧ op ≠ 15 ∧ op ≠ 16 ∧ op ≠ 17 ∧ op ≠ 18 ∧ op ≠ 4 ∧ op ≠ 5) := by omega


theorem mul_bd {a b : Int} (ha : -2147483648 ≤ a ∧ a ≤ 2147483647) (hb : -2147483648 ≤ b ∧ b ≤ 2147483647) : -4611686018427387904 ≤ a * b ∧ a * b ≤ 4611686018427387904 := by
  have h1 : a.natAbs ≤ 2147483648 := by omega
  have h2 : b.natAbs ≤ 2147483648 := by omega
  have h3 : (a * b).natAbs ≤ 2147483648 * 2147483648 := by rw [Int.natAbs_mul]; exact Nat.mul_le_mul h1 h2
  omega
theorem div_bd {a b : Int} (ha : -2147483648 ≤ a ∧ a ≤ 2147483647) : -2147483648 ≤ a.tdiv b ∧ a.tdiv b ≤ 2147483648 := by
  have h3 : (a.tdiv b).natAbs ≤ a.natAbs := by rw [Int.natAbs_tdiv]; exact Nat.div_le_self _ _
  omega
theorem mod_bd {a b : Int} (ha : -2147483648 ≤ a ∧ a ≤ 2147483647) : -2147483648 ≤ a.tmod b ∧ a.tmod b ≤ 2147483648 := by
  have h3 : (a.tmod b).natAbs ≤ a.natAbs := by rw [Int.natAbs_tmod]; exact Nat.mod_le _ _
  omega
theorem taken_none {op a b c : Int} (h : op ≠ 26 ∧ op ≠ 6 ∧ op ≠ 7 ∧ op ≠ 8 ∧ op ≠ 9 ∧ op ≠ 10 ∧ op ≠ 11 ∧ op ≠ 12 ∧ op ≠ 13 ∧ op ≠ 14 ∧ op ≠ 15 ∧ op ≠ 16 ∧ op ≠ 17 ∧ op ≠ 18 ∧ op ≠ 4 ∧ op ≠ 5) : takenB (opN op) a b c = false := by
  have e : opN op = -1 := by unfold opN; rw [if_neg (by omega), if_neg (by omega), if_neg (by omega)]
  rw [e]; rfl
theorem taken_two {a b c : Int} (h : takenB 2 a b c = true) : (-2147483648 ≤ a ∧ a ≤ 2147483647) ∧ (-2147483648 ≤ b ∧ b ≤ 2147483647) := by
  simp [takenB] at h; exact ⟨fit_iff.1 h.2, fit_iff.1 h.1⟩

theorem taken_one {a b c : Int} (h : takenB 1 a b c = true) : (-2147483648 ≤ a ∧ a ≤ 2147483647) := by
  simp [takenB] at h; exact fit_iff.1 h


theorem refFits_any (n : Int) (w : World) :
    Calls Try.prog 98 #[.int .i64 n] w fun e w' => e = .returned (.bool (fitB n)) ∧ w = w' := by
  by_cases h1 : -2147483648 ≤ n
  · by_cases h2 : n ≤ 2147483647
    · rw [fit_yes ⟨h1, h2⟩]
      go_enter Try.func98, Try.ntmps98
      go_wp2
      go_ret
      exact ⟨rfl, rfl⟩
    · rw [fit_no (fun h => h2 h.2)]
      go_enter Try.func98, Try.ntmps98
      go_wp2
      go_ret
      exact ⟨rfl, rfl⟩
  · rw [fit_no (fun h => h1 h.1)]
    go_enter Try.func98, Try.ntmps98
    go_wp2
    go_ret
    exact ⟨rfl, rfl⟩

theorem refTruth_any (b : Bool) (w : World) :
    Calls Try.prog 131 #[.bool b] w fun e w' => e = .returned (.int .i64 (bn b)) ∧ w = w' := by
  cases b
  all_goals
    go_enter Try.func131, Try.ntmps131
    go_wp2
    go_ret
    exact ⟨rfl, rfl⟩

theorem refOver_any (n : Int) (w : World) :
    Calls Try.prog 132 #[.int .i64 n] w fun e w' => e = .returned (.tuple #[.int .i64 (over n).1, .int .i64 (over n).2]) ∧ w = w' := by
  rcases Bool.eq_false_or_eq_true (fitB n) with h | h
  all_goals
    unfold over; rw [h]
    go_enter Try.func132, Try.ntmps132
    go_wp2_with (go_at_call 98; refine (refFits_any _ _).mono ?_; rintro e w' ⟨rfl, rfl⟩)
    go_ret2
    exact ⟨rfl, rfl⟩

def absI (n : Int) : Int := n.natAbs

theorem refSize_any (n : Int) (w : World) (h : -2147483648 ≤ n ∧ n ≤ 2147483647) :
    Calls Try.prog 139 #[.int .i64 n] w fun e w' => e = .returned (.int .i64 (absI n)) ∧ w' = w := by
  obtain ⟨h1, h2⟩ := h
  by_cases h0 : n < 0
  · have e : absI n = -n := by unfold absI; omega
    rw [e]
    go_enter Try.func139, Try.ntmps139
    go_wp2
    go_ret
    exact ⟨rfl, rfl⟩
  · have e : absI n = n := by unfold absI; omega
    rw [e]
    go_enter Try.func139, Try.ntmps139
    go_wp2
    go_ret
    exact ⟨rfl, rfl⟩

theorem refOperands_any (op : Int) (w : World) :
    Calls Try.prog 106 #[.int .i64 op] w fun e w' => e = .returned (.int .i64 (opN op)) ∧ w = w' := by
  have hc : op = 4 ∨ op = 5 ∨ op = 26 ∨ (op ≠ 4 ∧ op ≠ 5 ∧ op ≠ 26 ∧ (6 ≤ op ∧ op ≤ 18)) ∨ (op ≠ 4 ∧ op ≠ 5 ∧ op ≠ 26 ∧ 6 ≤ op ∧ ¬ op ≤ 18) ∨ (op ≠ 4 ∧ op ≠ 5 ∧ op ≠ 26 ∧ ¬ 6 ≤ op) := by omega
  rcases hc with rfl | rfl | rfl | ⟨h1, h2, h3, h4, h5⟩ | ⟨h1, h2, h3, h4, h5⟩ | ⟨h1, h2, h3, h4⟩
  case inr.inr.inr.inl =>
    have e : opN op = 2 := by unfold opN; rw [if_neg h3, if_pos (by omega)]
    rw [e]
    go_enter Try.func106, Try.ntmps106
    go_wp2
    go_ret
    exact ⟨rfl, rfl⟩
  case inr.inr.inr.inr.inl =>
    have e : opN op = -1 := by unfold opN; rw [if_neg h3, if_neg (by omega), if_neg (by omega)]
    rw [e]
    go_enter Try.func106, Try.ntmps106
    go_wp2
    go_ret
    exact ⟨rfl, rfl⟩
  case inr.inr.inr.inr.inr =>
    have e : opN op = -1 := by unfold opN; rw [if_neg h3, if_neg (by omega), if_neg (by omega)]
    rw [e]
    go_enter Try.func106, Try.ntmps106
    go_wp2
    go_ret
    exact ⟨rfl, rfl⟩
  all_goals
    go_enter Try.func106, Try.ntmps106
    go_wp2
    go_ret
    exact ⟨rfl, rfl⟩

theorem refParts_any (a b : Int) (w : World) (ha : -2147483648 ≤ a ∧ a ≤ 2147483647) (hb : -2147483648 ≤ b ∧ b ≤ 2147483647) (h0 : b ≠ 0) :
    Calls Try.prog 133 #[.int .i64 a, .int .i64 b] w fun e w' => e = .returned (.tuple #[.int .i64 (absI a / absI b), .int .i64 (absI a % absI b)]) ∧ ∃ n, w' = w.drewN n := by
  have ha0 : 0 ≤ absI a := by unfold absI; omega
  have ha1 : absI a ≤ 2147483648 := by unfold absI; omega
  have hb0 : 0 < absI b := by unfold absI; omega
  have hb1 : absI b ≤ 2147483648 := by unfold absI; omega
  have hbz : absI b ≠ 0 := by omega
  go_enter Try.func133, Try.ntmps133
  go_wp2
  go_quiet ((go_at_call 139; exact Calls.quiet_of_same (refSize_any _ _ (by omega))))
  go_wp2
  go_ret2
  exact ⟨rfl, _, rfl⟩

theorem absI_pos {a : Int} (h : ¬ a < 0) : absI a = a := by unfold absI; omega
theorem absI_neg {a : Int} (h : a < 0) : absI a = -a := by unfold absI; omega
theorem tdiv_signs (a b : Int) : (¬ a < 0 ∧ ¬ b < 0 → absI a / absI b = a.tdiv b) ∧ (a < 0 ∧ ¬ b < 0 → -(absI a / absI b) = a.tdiv b) ∧ (¬ a < 0 ∧ b < 0 → -(absI a / absI b) = a.tdiv b) ∧ (a < 0 ∧ b < 0 → absI a / absI b = a.tdiv b) := by
  refine ⟨fun h => ?_, fun h => ?_, fun h => ?_, fun h => ?_⟩
  · rw [absI_pos h.1, absI_pos h.2, Int.tdiv_eq_ediv_of_nonneg (by omega)]
  · rw [absI_neg h.1, absI_pos h.2, ← Int.tdiv_eq_ediv_of_nonneg (by omega), Int.neg_tdiv, Int.neg_neg]
  · rw [absI_pos h.1, absI_neg h.2, ← Int.tdiv_eq_ediv_of_nonneg (by omega), Int.tdiv_neg, Int.neg_neg]
  · rw [absI_neg h.1, absI_neg h.2, ← Int.tdiv_eq_ediv_of_nonneg (by omega), Int.neg_tdiv, Int.tdiv_neg, Int.neg_neg]
theorem mod_fits {a b : Int} (ga : -2147483648 ≤ a ∧ a ≤ 2147483647) (gb : -2147483648 ≤ b ∧ b ≤ 2147483647) (h0 : b ≠ 0) : -2147483648 ≤ a.tmod b ∧ a.tmod b ≤ 2147483647 := by
  have h1 := mod_bd (b := b) ga
  have h2 : (a.tmod b).natAbs < b.natAbs := by
    rw [Int.natAbs_tmod]
    exact Nat.mod_lt _ (by omega)
  omega
theorem tmod_signs (a b : Int) : (¬ a < 0 → absI a % absI b = a.tmod b) ∧ (a < 0 → -(absI a % absI b) = a.tmod b) := by
  have hb : absI b = b ∨ absI b = -b := by unfold absI; omega
  refine ⟨fun h => ?_, fun h => ?_⟩
  · rw [absI_pos h]
    rcases hb with e | e <;> rw [e, ← Int.tmod_eq_emod_of_nonneg (by omega)]
    rw [Int.tmod_neg]
  · rw [absI_neg h]
    rcases hb with e | e <;> rw [e, ← Int.tmod_eq_emod_of_nonneg (by omega), Int.neg_tmod]
    · rw [Int.neg_neg]
    · rw [Int.tmod_neg, Int.neg_neg]
end Go.Proofs.Ytcphjehjdhgheaa.Num

namespace Go.Proofs.Ytcphjehjdhgheaa.Num
open Go.ChangeShapes Go.WideShapes Go.ChangeAt Go.RowKit
set_option linter.unusedVariables false

set_option maxRecDepth 100000 in
set_option maxHeartbeats 2000000 in
theorem ref_no (op a b c : Int) (w : World) (h : takenB (opN op) a b c = false) :
    Calls Try.prog 99 #[.int .i64 op, .int .i64 a, .int .i64 b, .int .i64 c] w fun e w' => e = .returned (.tuple #[.int .i64 0, .int .i64 1]) ∧ ∃ n, w' = w.drewN n := by
  have hk : opN op = -1 ∨ opN op = 1 ∨ opN op = 2 ∨ opN op = 3 := by unfold opN; omega
  rcases hk with hk | hk | hk | hk
  · clear h
    go_enter Try.func99, Try.ntmps99
    go_wp2_with (first | (go_at_call 106; refine (refOperands_any _ _).mono ?_; rintro e w' ⟨rfl, rfl⟩) | (go_at_call 98; refine (refFits_any _ _).mono ?_; rintro e w' ⟨rfl, rfl⟩) | (go_at_call 131; refine (refTruth_any _ _).mono ?_; rintro e w' ⟨rfl, rfl⟩) | (go_at_call 132; refine (refOver_any _ _).mono ?_; rintro e w' ⟨rfl, rfl⟩))
    go_ret2
    exact ⟨rfl, 0, rfl⟩
  · rw [hk] at h
    have fa : fitB a = false := by simpa [takenB] using h
    clear h
    go_enter Try.func99, Try.ntmps99
    go_wp2_with (first | (go_at_call 106; refine (refOperands_any _ _).mono ?_; rintro e w' ⟨rfl, rfl⟩) | (go_at_call 98; refine (refFits_any _ _).mono ?_; rintro e w' ⟨rfl, rfl⟩) | (go_at_call 131; refine (refTruth_any _ _).mono ?_; rintro e w' ⟨rfl, rfl⟩) | (go_at_call 132; refine (refOver_any _ _).mono ?_; rintro e w' ⟨rfl, rfl⟩))
    go_ret2
    exact ⟨rfl, 0, rfl⟩
  · rw [hk] at h
    rcases Bool.eq_false_or_eq_true (fitB a) with fa | fa
    · have fb : fitB b = false := by simpa [takenB, fa] using h
      clear h
      go_enter Try.func99, Try.ntmps99
      go_wp2_with (first | (go_at_call 106; refine (refOperands_any _ _).mono ?_; rintro e w' ⟨rfl, rfl⟩) | (go_at_call 98; refine (refFits_any _ _).mono ?_; rintro e w' ⟨rfl, rfl⟩) | (go_at_call 131; refine (refTruth_any _ _).mono ?_; rintro e w' ⟨rfl, rfl⟩) | (go_at_call 132; refine (refOver_any _ _).mono ?_; rintro e w' ⟨rfl, rfl⟩))
      go_ret2
      exact ⟨rfl, 0, rfl⟩
    · clear h
      go_enter Try.func99, Try.ntmps99
      go_wp2_with (first | (go_at_call 106; refine (refOperands_any _ _).mono ?_; rintro e w' ⟨rfl, rfl⟩) | (go_at_call 98; refine (refFits_any _ _).mono ?_; rintro e w' ⟨rfl, rfl⟩) | (go_at_call 131; refine (refTruth_any _ _).mono ?_; rintro e w' ⟨rfl, rfl⟩) | (go_at_call 132; refine (refOver_any _ _).mono ?_; rintro e w' ⟨rfl, rfl⟩))
      go_ret2
      exact ⟨rfl, 0, rfl⟩
  · rw [hk] at h
    rcases Bool.eq_false_or_eq_true (fitB a) with fa | fa
    · rcases Bool.eq_false_or_eq_true (fitB b) with fb | fb
      · have fc : fitB c = false := by simpa [takenB, fa, fb] using h
        clear h
        go_enter Try.func99, Try.ntmps99
        go_wp2_with (first | (go_at_call 106; refine (refOperands_any _ _).mono ?_; rintro e w' ⟨rfl, rfl⟩) | (go_at_call 98; refine (refFits_any _ _).mono ?_; rintro e w' ⟨rfl, rfl⟩) | (go_at_call 131; refine (refTruth_any _ _).mono ?_; rintro e w' ⟨rfl, rfl⟩) | (go_at_call 132; refine (refOver_any _ _).mono ?_; rintro e w' ⟨rfl, rfl⟩))
        go_ret2
        exact ⟨rfl, 0, rfl⟩
      · clear h
        go_enter Try.func99, Try.ntmps99
        go_wp2_with (first | (go_at_call 106; refine (refOperands_any _ _).mono ?_; rintro e w' ⟨rfl, rfl⟩) | (go_at_call 98; refine (refFits_any _ _).mono ?_; rintro e w' ⟨rfl, rfl⟩) | (go_at_call 131; refine (refTruth_any _ _).mono ?_; rintro e w' ⟨rfl, rfl⟩) | (go_at_call 132; refine (refOver_any _ _).mono ?_; rintro e w' ⟨rfl, rfl⟩))
        go_ret2
        exact ⟨rfl, 0, rfl⟩
    · clear h
      go_enter Try.func99, Try.ntmps99
      go_wp2_with (first | (go_at_call 106; refine (refOperands_any _ _).mono ?_; rintro e w' ⟨rfl, rfl⟩) | (go_at_call 98; refine (refFits_any _ _).mono ?_; rintro e w' ⟨rfl, rfl⟩) | (go_at_call 131; refine (refTruth_any _ _).mono ?_; rintro e w' ⟨rfl, rfl⟩) | (go_at_call 132; refine (refOver_any _ _).mono ?_; rintro e w' ⟨rfl, rfl⟩))
      go_ret2
      exact ⟨rfl, 0, rfl⟩

set_option maxRecDepth 100000 in
set_option maxHeartbeats 4000000 in
theorem refDo_any (op a b c : Int) (w : World) :
    Calls Try.prog 99 #[.int .i64 op, .int .i64 a, .int .i64 b, .int .i64 c] w fun e w' => e = .returned (.tuple #[.int .i64 (doN op a b c).1, .int .i64 (doN op a b c).2]) ∧ ∃ n, w' = w.drewN n := by
  rcases Bool.eq_false_or_eq_true (takenB (opN op) a b c) with ht | ht
  · rcases ops_cases op with rfl | rfl | rfl | rfl | rfl | rfl | rfl | rfl | rfl | rfl | rfl | rfl | rfl | rfl | rfl | rfl | hno
    · have h3 : takenB 3 a b c = true := ht
      simp [takenB] at h3
      obtain ⟨⟨fc, fb⟩, fa⟩ := h3
      have k : opN 26 = 3 := rfl
      by_cases h0 : a = 0
      · subst h0
        have hd : doN 26 0 b c = (c, 0) := by simp [doN, ht]
        rw [hd]
        clear hd ht
        go_enter Try.func99, Try.ntmps99
        go_wp2_with (first | (go_at_call 106; refine (refOperands_any _ _).mono ?_; rintro e w' ⟨rfl, rfl⟩) | (go_at_call 98; refine (refFits_any _ _).mono ?_; rintro e w' ⟨rfl, rfl⟩) | (go_at_call 131; refine (refTruth_any _ _).mono ?_; rintro e w' ⟨rfl, rfl⟩) | (go_at_call 132; refine (refOver_any _ _).mono ?_; rintro e w' ⟨rfl, rfl⟩))
        go_ret2
        exact ⟨rfl, 0, rfl⟩
      · have hd : doN 26 a b c = (b, 0) := by simp [doN, ht, h0]
        rw [hd]
        clear hd ht
        go_enter Try.func99, Try.ntmps99
        go_wp2_with (first | (go_at_call 106; refine (refOperands_any _ _).mono ?_; rintro e w' ⟨rfl, rfl⟩) | (go_at_call 98; refine (refFits_any _ _).mono ?_; rintro e w' ⟨rfl, rfl⟩) | (go_at_call 131; refine (refTruth_any _ _).mono ?_; rintro e w' ⟨rfl, rfl⟩) | (go_at_call 132; refine (refOver_any _ _).mono ?_; rintro e w' ⟨rfl, rfl⟩))
        go_ret2
        exact ⟨rfl, 0, rfl⟩
    · obtain ⟨ga, gb⟩ := taken_two ht
      have fa := fit_yes ga
      have fb := fit_yes gb
      have k : opN 6 = 2 := rfl
      have hd : doN 6 a b c = (bn (joinB 6 (a != 0) (b != 0)), 0) := by simp [doN, ht]
      rw [hd]
      clear hd ht ga gb
      by_cases ha : a = 0 <;> by_cases hb : b = 0
      · subst ha; subst hb
        go_enter Try.func99, Try.ntmps99
        go_wp2_with (first | (go_at_call 106; refine (refOperands_any _ _).mono ?_; rintro e w' ⟨rfl, rfl⟩) | (go_at_call 98; refine (refFits_any _ _).mono ?_; rintro e w' ⟨rfl, rfl⟩) | (go_at_call 131; refine (refTruth_any _ _).mono ?_; rintro e w' ⟨rfl, rfl⟩) | (go_at_call 132; refine (refOver_any _ _).mono ?_; rintro e w' ⟨rfl, rfl⟩))
        go_ret2
        exact ⟨rfl, 0, rfl⟩
      · subst ha
        have kb := bne_iff_ne.2 hb
        rw [kb]
        go_enter Try.func99, Try.ntmps99
        go_wp2_with (first | (go_at_call 106; refine (refOperands_any _ _).mono ?_; rintro e w' ⟨rfl, rfl⟩) | (go_at_call 98; refine (refFits_any _ _).mono ?_; rintro e w' ⟨rfl, rfl⟩) | (go_at_call 131; refine (refTruth_any _ _).mono ?_; rintro e w' ⟨rfl, rfl⟩) | (go_at_call 132; refine (refOver_any _ _).mono ?_; rintro e w' ⟨rfl, rfl⟩))
        go_ret2
        exact ⟨rfl, 0, rfl⟩
      · subst hb
        have ka := bne_iff_ne.2 ha
        have ka2 := beq_eq_false_iff_ne.2 ha
        rw [ka]
        go_enter Try.func99, Try.ntmps99
        go_wp2_with (first | (go_at_call 106; refine (refOperands_any _ _).mono ?_; rintro e w' ⟨rfl, rfl⟩) | (go_at_call 98; refine (refFits_any _ _).mono ?_; rintro e w' ⟨rfl, rfl⟩) | (go_at_call 131; refine (refTruth_any _ _).mono ?_; rintro e w' ⟨rfl, rfl⟩) | (go_at_call 132; refine (refOver_any _ _).mono ?_; rintro e w' ⟨rfl, rfl⟩))
        go_ret2
        exact ⟨rfl, 0, rfl⟩
      · have ka := bne_iff_ne.2 ha
        have ka2 := beq_eq_false_iff_ne.2 ha
        have kb := bne_iff_ne.2 hb
        rw [ka, kb]
        go_enter Try.func99, Try.ntmps99
        go_wp2_with (first | (go_at_call 106; refine (refOperands_any _ _).mono ?_; rintro e w' ⟨rfl, rfl⟩) | (go_at_call 98; refine (refFits_any _ _).mono ?_; rintro e w' ⟨rfl, rfl⟩) | (go_at_call 131; refine (refTruth_any _ _).mono ?_; rintro e w' ⟨rfl, rfl⟩) | (go_at_call 132; refine (refOver_any _ _).mono ?_; rintro e w' ⟨rfl, rfl⟩))
        go_ret2
        exact ⟨rfl, 0, rfl⟩
    · obtain ⟨ga, gb⟩ := taken_two ht
      have fa := fit_yes ga
      have fb := fit_yes gb
      have k : opN 7 = 2 := rfl
      have hd : doN 7 a b c = (bn (joinB 7 (a != 0) (b != 0)), 0) := by simp [doN, ht]
      rw [hd]
      clear hd ht ga gb
      by_cases ha : a = 0 <;> by_cases hb : b = 0
      · subst ha; subst hb
        go_enter Try.func99, Try.ntmps99
        go_wp2_with (first | (go_at_call 106; refine (refOperands_any _ _).mono ?_; rintro e w' ⟨rfl, rfl⟩) | (go_at_call 98; refine (refFits_any _ _).mono ?_; rintro e w' ⟨rfl, rfl⟩) | (go_at_call 131; refine (refTruth_any _ _).mono ?_; rintro e w' ⟨rfl, rfl⟩) | (go_at_call 132; refine (refOver_any _ _).mono ?_; rintro e w' ⟨rfl, rfl⟩))
        go_ret2
        exact ⟨rfl, 0, rfl⟩
      · subst ha
        have kb := bne_iff_ne.2 hb
        rw [kb]
        go_enter Try.func99, Try.ntmps99
        go_wp2_with (first | (go_at_call 106; refine (refOperands_any _ _).mono ?_; rintro e w' ⟨rfl, rfl⟩) | (go_at_call 98; refine (refFits_any _ _).mono ?_; rintro e w' ⟨rfl, rfl⟩) | (go_at_call 131; refine (refTruth_any _ _).mono ?_; rintro e w' ⟨rfl, rfl⟩) | (go_at_call 132; refine (refOver_any _ _).mono ?_; rintro e w' ⟨rfl, rfl⟩))
        go_ret2
        exact ⟨rfl, 0, rfl⟩
      · subst hb
        have ka := bne_iff_ne.2 ha
        have ka2 := beq_eq_false_iff_ne.2 ha
        rw [ka]
        go_enter Try.func99, Try.ntmps99
        go_wp2_with (first | (go_at_call 106; refine (refOperands_any _ _).mono ?_; rintro e w' ⟨rfl, rfl⟩) | (go_at_call 98; refine (refFits_any _ _).mono ?_; rintro e w' ⟨rfl, rfl⟩) | (go_at_call 131; refine (refTruth_any _ _).mono ?_; rintro e w' ⟨rfl, rfl⟩) | (go_at_call 132; refine (refOver_any _ _).mono ?_; rintro e w' ⟨rfl, rfl⟩))
        go_ret2
        exact ⟨rfl, 0, rfl⟩
      · have ka := bne_iff_ne.2 ha
        have ka2 := beq_eq_false_iff_ne.2 ha
        have kb := bne_iff_ne.2 hb
        rw [ka, kb]
        go_enter Try.func99, Try.ntmps99
        go_wp2_with (first | (go_at_call 106; refine (refOperands_any _ _).mono ?_; rintro e w' ⟨rfl, rfl⟩) | (go_at_call 98; refine (refFits_any _ _).mono ?_; rintro e w' ⟨rfl, rfl⟩) | (go_at_call 131; refine (refTruth_any _ _).mono ?_; rintro e w' ⟨rfl, rfl⟩) | (go_at_call 132; refine (refOver_any _ _).mono ?_; rintro e w' ⟨rfl, rfl⟩))
        go_ret2
        exact ⟨rfl, 0, rfl⟩
    · obtain ⟨ga, gb⟩ := taken_two ht
      have fa := fit_yes ga
      have fb := fit_yes gb
      have k : opN 8 = 2 := rfl
      have hd : doN 8 a b c = (bn (joinB 8 (a != 0) (b != 0)), 0) := by simp [doN, ht]
      rw [hd]
      clear hd ht ga gb
      by_cases ha : a = 0 <;> by_cases hb : b = 0
      · subst ha; subst hb
        go_enter Try.func99, Try.ntmps99
        go_wp2_with (first | (go_at_call 106; refine (refOperands_any _ _).mono ?_; rintro e w' ⟨rfl, rfl⟩) | (go_at_call 98; refine (refFits_any _ _).mono ?_; rintro e w' ⟨rfl, rfl⟩) | (go_at_call 131; refine (refTruth_any _ _).mono ?_; rintro e w' ⟨rfl, rfl⟩) | (go_at_call 132; refine (refOver_any _ _).mono ?_; rintro e w' ⟨rfl, rfl⟩))
        go_ret2
        exact ⟨rfl, 0, rfl⟩
      · subst ha
        have kb := bne_iff_ne.2 hb
        rw [kb]
        go_enter Try.func99, Try.ntmps99
        go_wp2_with (first | (go_at_call 106; refine (refOperands_any _ _).mono ?_; rintro e w' ⟨rfl, rfl⟩) | (go_at_call 98; refine (refFits_any _ _).mono ?_; rintro e w' ⟨rfl, rfl⟩) | (go_at_call 131; refine (refTruth_any _ _).mono ?_; rintro e w' ⟨rfl, rfl⟩) | (go_at_call 132; refine (refOver_any _ _).mono ?_; rintro e w' ⟨rfl, rfl⟩))
        go_ret2
        exact ⟨rfl, 0, rfl⟩
      · subst hb
        have ka := bne_iff_ne.2 ha
        have ka2 := beq_eq_false_iff_ne.2 ha
        rw [ka]
        go_enter Try.func99, Try.ntmps99
        go_wp2_with (first | (go_at_call 106; refine (refOperands_any _ _).mono ?_; rintro e w' ⟨rfl, rfl⟩) | (go_at_call 98; refine (refFits_any _ _).mono ?_; rintro e w' ⟨rfl, rfl⟩) | (go_at_call 131; refine (refTruth_any _ _).mono ?_; rintro e w' ⟨rfl, rfl⟩) | (go_at_call 132; refine (refOver_any _ _).mono ?_; rintro e w' ⟨rfl, rfl⟩))
        go_ret2
        exact ⟨rfl, 0, rfl⟩
      · have ka := bne_iff_ne.2 ha
        have ka2 := beq_eq_false_iff_ne.2 ha
        have kb := bne_iff_ne.2 hb
        rw [ka, kb]
        go_enter Try.func99, Try.ntmps99
        go_wp2_with (first | (go_at_call 106; refine (refOperands_any _ _).mono ?_; rintro e w' ⟨rfl, rfl⟩) | (go_at_call 98; refine (refFits_any _ _).mono ?_; rintro e w' ⟨rfl, rfl⟩) | (go_at_call 131; refine (refTruth_any _ _).mono ?_; rintro e w' ⟨rfl, rfl⟩) | (go_at_call 132; refine (refOver_any _ _).mono ?_; rintro e w' ⟨rfl, rfl⟩))
        go_ret2
        exact ⟨rfl, 0, rfl⟩
    · obtain ⟨ga, gb⟩ := taken_two ht
      have fa := fit_yes ga
      have fb := fit_yes gb
      have k : opN 9 = 2 := rfl
      have hd : doN 9 a b c = (bn (joinB 9 (a != 0) (b != 0)), 0) := by simp [doN, ht]
      rw [hd]
      clear hd ht ga gb
      by_cases ha : a = 0 <;> by_cases hb : b = 0
      · subst ha; subst hb
        go_enter Try.func99, Try.ntmps99
        go_wp2_with (first | (go_at_call 106; refine (refOperands_any _ _).mono ?_; rintro e w' ⟨rfl, rfl⟩) | (go_at_call 98; refine (refFits_any _ _).mono ?_; rintro e w' ⟨rfl, rfl⟩) | (go_at_call 131; refine (refTruth_any _ _).mono ?_; rintro e w' ⟨rfl, rfl⟩) | (go_at_call 132; refine (refOver_any _ _).mono ?_; rintro e w' ⟨rfl, rfl⟩))
        go_ret2
        exact ⟨rfl, 0, rfl⟩
      · subst ha
        have kb := bne_iff_ne.2 hb
        rw [kb]
        go_enter Try.func99, Try.ntmps99
        go_wp2_with (first | (go_at_call 106; refine (refOperands_any _ _).mono ?_; rintro e w' ⟨rfl, rfl⟩) | (go_at_call 98; refine (refFits_any _ _).mono ?_; rintro e w' ⟨rfl, rfl⟩) | (go_at_call 131; refine (refTruth_any _ _).mono ?_; rintro e w' ⟨rfl, rfl⟩) | (go_at_call 132; refine (refOver_any _ _).mono ?_; rintro e w' ⟨rfl, rfl⟩))
        go_ret2
        exact ⟨rfl, 0, rfl⟩
      · subst hb
        have ka := bne_iff_ne.2 ha
        have ka2 := beq_eq_false_iff_ne.2 ha
        rw [ka]
        go_enter Try.func99, Try.ntmps99
        go_wp2_with (first | (go_at_call 106; refine (refOperands_any _ _).mono ?_; rintro e w' ⟨rfl, rfl⟩) | (go_at_call 98; refine (refFits_any _ _).mono ?_; rintro e w' ⟨rfl, rfl⟩) | (go_at_call 131; refine (refTruth_any _ _).mono ?_; rintro e w' ⟨rfl, rfl⟩) | (go_at_call 132; refine (refOver_any _ _).mono ?_; rintro e w' ⟨rfl, rfl⟩))
        go_ret2
        exact ⟨rfl, 0, rfl⟩
      · have ka := bne_iff_ne.2 ha
        have ka2 := beq_eq_false_iff_ne.2 ha
        have kb := bne_iff_ne.2 hb
        rw [ka, kb]
        go_enter Try.func99, Try.ntmps99
        go_wp2_with (first | (go_at_call 106; refine (refOperands_any _ _).mono ?_; rintro e w' ⟨rfl, rfl⟩) | (go_at_call 98; refine (refFits_any _ _).mono ?_; rintro e w' ⟨rfl, rfl⟩) | (go_at_call 131; refine (refTruth_any _ _).mono ?_; rintro e w' ⟨rfl, rfl⟩) | (go_at_call 132; refine (refOver_any _ _).mono ?_; rintro e w' ⟨rfl, rfl⟩))
        go_ret2
        exact ⟨rfl, 0, rfl⟩
    · obtain ⟨ga, gb⟩ := taken_two ht
      have fa := fit_yes ga
      have fb := fit_yes gb
      have k : opN 10 = 2 := rfl
      have hd : doN 10 a b c = (bn (cmpB 10 a b), 0) := by simp [doN, ht]
      rw [hd]
      clear hd ht ga gb
      go_enter Try.func99, Try.ntmps99
      go_wp2_with (first | (go_at_call 106; refine (refOperands_any _ _).mono ?_; rintro e w' ⟨rfl, rfl⟩) | (go_at_call 98; refine (refFits_any _ _).mono ?_; rintro e w' ⟨rfl, rfl⟩) | (go_at_call 131; refine (refTruth_any _ _).mono ?_; rintro e w' ⟨rfl, rfl⟩) | (go_at_call 132; refine (refOver_any _ _).mono ?_; rintro e w' ⟨rfl, rfl⟩))
      go_ret2
      exact ⟨rfl, 0, rfl⟩
    · obtain ⟨ga, gb⟩ := taken_two ht
      have fa := fit_yes ga
      have fb := fit_yes gb
      have k : opN 11 = 2 := rfl
      have hd : doN 11 a b c = (bn (cmpB 11 a b), 0) := by simp [doN, ht]
      rw [hd]
      clear hd ht ga gb
      go_enter Try.func99, Try.ntmps99
      go_wp2_with (first | (go_at_call 106; refine (refOperands_any _ _).mono ?_; rintro e w' ⟨rfl, rfl⟩) | (go_at_call 98; refine (refFits_any _ _).mono ?_; rintro e w' ⟨rfl, rfl⟩) | (go_at_call 131; refine (refTruth_any _ _).mono ?_; rintro e w' ⟨rfl, rfl⟩) | (go_at_call 132; refine (refOver_any _ _).mono ?_; rintro e w' ⟨rfl, rfl⟩))
      go_ret2
      exact ⟨rfl, 0, rfl⟩
    · obtain ⟨ga, gb⟩ := taken_two ht
      have fa := fit_yes ga
      have fb := fit_yes gb
      have k : opN 12 = 2 := rfl
      have hd : doN 12 a b c = (bn (cmpB 12 a b), 0) := by simp [doN, ht]
      rw [hd]
      clear hd ht ga gb
      go_enter Try.func99, Try.ntmps99
      go_wp2_with (first | (go_at_call 106; refine (refOperands_any _ _).mono ?_; rintro e w' ⟨rfl, rfl⟩) | (go_at_call 98; refine (refFits_any _ _).mono ?_; rintro e w' ⟨rfl, rfl⟩) | (go_at_call 131; refine (refTruth_any _ _).mono ?_; rintro e w' ⟨rfl, rfl⟩) | (go_at_call 132; refine (refOver_any _ _).mono ?_; rintro e w' ⟨rfl, rfl⟩))
      go_ret2
      exact ⟨rfl, 0, rfl⟩
    · obtain ⟨ga, gb⟩ := taken_two ht
      have fa := fit_yes ga
      have fb := fit_yes gb
      have k : opN 13 = 2 := rfl
      have hd : doN 13 a b c = (bn (cmpB 13 a b), 0) := by simp [doN, ht]
      rw [hd]
      clear hd ht ga gb
      go_enter Try.func99, Try.ntmps99
      go_wp2_with (first | (go_at_call 106; refine (refOperands_any _ _).mono ?_; rintro e w' ⟨rfl, rfl⟩) | (go_at_call 98; refine (refFits_any _ _).mono ?_; rintro e w' ⟨rfl, rfl⟩) | (go_at_call 131; refine (refTruth_any _ _).mono ?_; rintro e w' ⟨rfl, rfl⟩) | (go_at_call 132; refine (refOver_any _ _).mono ?_; rintro e w' ⟨rfl, rfl⟩))
      go_ret2
      exact ⟨rfl, 0, rfl⟩
    · obtain ⟨ga, gb⟩ := taken_two ht
      have fa := fit_yes ga
      have fb := fit_yes gb
      have k : opN 14 = 2 := rfl
      have hd : doN 14 a b c = over (a + b) := by simp [doN, ht, reck]
      rw [hd]
      obtain ⟨mb1, mb2⟩ := mul_bd ga gb
      obtain ⟨ga1, ga2⟩ := ga
      obtain ⟨gb1, gb2⟩ := gb
      clear hd ht
      go_enter Try.func99, Try.ntmps99
      go_wp2_with (first | (go_at_call 106; refine (refOperands_any _ _).mono ?_; rintro e w' ⟨rfl, rfl⟩) | (go_at_call 98; refine (refFits_any _ _).mono ?_; rintro e w' ⟨rfl, rfl⟩) | (go_at_call 131; refine (refTruth_any _ _).mono ?_; rintro e w' ⟨rfl, rfl⟩) | (go_at_call 132; refine (refOver_any _ _).mono ?_; rintro e w' ⟨rfl, rfl⟩))
      go_ret2
      exact ⟨rfl, 0, rfl⟩
    · obtain ⟨ga, gb⟩ := taken_two ht
      have fa := fit_yes ga
      have fb := fit_yes gb
      have k : opN 15 = 2 := rfl
      have hd : doN 15 a b c = over (a - b) := by simp [doN, ht, reck]
      rw [hd]
      obtain ⟨mb1, mb2⟩ := mul_bd ga gb
      obtain ⟨ga1, ga2⟩ := ga
      obtain ⟨gb1, gb2⟩ := gb
      clear hd ht
      go_enter Try.func99, Try.ntmps99
      go_wp2_with (first | (go_at_call 106; refine (refOperands_any _ _).mono ?_; rintro e w' ⟨rfl, rfl⟩) | (go_at_call 98; refine (refFits_any _ _).mono ?_; rintro e w' ⟨rfl, rfl⟩) | (go_at_call 131; refine (refTruth_any _ _).mono ?_; rintro e w' ⟨rfl, rfl⟩) | (go_at_call 132; refine (refOver_any _ _).mono ?_; rintro e w' ⟨rfl, rfl⟩))
      go_ret2
      exact ⟨rfl, 0, rfl⟩
    · obtain ⟨ga, gb⟩ := taken_two ht
      have fa := fit_yes ga
      have fb := fit_yes gb
      have k : opN 16 = 2 := rfl
      have hd : doN 16 a b c = over (a * b) := by simp [doN, ht, reck]
      rw [hd]
      obtain ⟨mb1, mb2⟩ := mul_bd ga gb
      obtain ⟨ga1, ga2⟩ := ga
      obtain ⟨gb1, gb2⟩ := gb
      clear hd ht
      go_enter Try.func99, Try.ntmps99
      go_wp2_with (first | (go_at_call 106; refine (refOperands_any _ _).mono ?_; rintro e w' ⟨rfl, rfl⟩) | (go_at_call 98; refine (refFits_any _ _).mono ?_; rintro e w' ⟨rfl, rfl⟩) | (go_at_call 131; refine (refTruth_any _ _).mono ?_; rintro e w' ⟨rfl, rfl⟩) | (go_at_call 132; refine (refOver_any _ _).mono ?_; rintro e w' ⟨rfl, rfl⟩))
      go_ret2
      exact ⟨rfl, 0, rfl⟩
    · obtain ⟨ga, gb⟩ := taken_two ht
      have fa := fit_yes ga
      have fb := fit_yes gb
      have k : opN 17 = 2 := rfl
      by_cases h0 : b = 0
      · subst h0
        have hd : doN 17 a 0 c = (0, 3) := by simp [doN, ht, reck]
        rw [hd]
        clear hd ht ga gb
        go_enter Try.func99, Try.ntmps99
        go_wp2_with (first | (go_at_call 106; refine (refOperands_any _ _).mono ?_; rintro e w' ⟨rfl, rfl⟩) | (go_at_call 98; refine (refFits_any _ _).mono ?_; rintro e w' ⟨rfl, rfl⟩) | (go_at_call 131; refine (refTruth_any _ _).mono ?_; rintro e w' ⟨rfl, rfl⟩) | (go_at_call 132; refine (refOver_any _ _).mono ?_; rintro e w' ⟨rfl, rfl⟩))
        go_ret2
        exact ⟨rfl, 0, rfl⟩
      · have HP := Lib.hid (refParts_any a b w ga gb h0)
        have hq0 : 0 ≤ absI a / absI b := Int.ediv_nonneg (by unfold absI; omega) (by unfold absI; omega)
        have hq1 : absI a / absI b ≤ 2147483648 := Int.le_trans (Int.ediv_le_self _ (by unfold absI; omega)) (by unfold absI; omega)
        have hr0 : 0 ≤ absI a % absI b := Int.emod_nonneg _ (by unfold absI; omega)
        have hr1 : absI a % absI b ≤ 2147483648 := Int.le_trans (Int.le_of_lt (Int.emod_lt_of_pos _ (by unfold absI; omega))) (by unfold absI; omega)
        have hd : doN 17 a b c = over (a.tdiv b) := by simp [doN, ht, reck, h0]
        rw [hd]
        obtain ⟨t1, t2, t3, t4⟩ := tdiv_signs a b
        by_cases ha : a < 0 <;> by_cases hb : b < 0
        · have la : decide (a < 0) = true := by simpa using ha
          have lb : decide (b < 0) = true := by simpa using hb
          rw [← t4 ⟨ha, hb⟩]
          clear hd ht ga gb t1 t2 t3 t4 hr0 hr1
          go_enter Try.func99, Try.ntmps99
          go_wp2_with (first | (go_at_call 106; refine (refOperands_any _ _).mono ?_; rintro e w' ⟨rfl, rfl⟩) | (go_at_call 98; refine (refFits_any _ _).mono ?_; rintro e w' ⟨rfl, rfl⟩) | (go_at_call 131; refine (refTruth_any _ _).mono ?_; rintro e w' ⟨rfl, rfl⟩) | (go_at_call 132; refine (refOver_any _ _).mono ?_; rintro e w' ⟨rfl, rfl⟩) | (go_at_call 133; refine HP.out.mono ?_; rintro e w' ⟨rfl, n, rfl⟩))
          go_ret2
          exact ⟨rfl, _, rfl⟩
        · have la : decide (a < 0) = true := by simpa using ha
          have lb : decide (b < 0) = false := by simpa using hb
          rw [← t2 ⟨ha, hb⟩]
          clear hd ht ga gb t1 t2 t3 t4 hr0 hr1
          go_enter Try.func99, Try.ntmps99
          go_wp2_with (first | (go_at_call 106; refine (refOperands_any _ _).mono ?_; rintro e w' ⟨rfl, rfl⟩) | (go_at_call 98; refine (refFits_any _ _).mono ?_; rintro e w' ⟨rfl, rfl⟩) | (go_at_call 131; refine (refTruth_any _ _).mono ?_; rintro e w' ⟨rfl, rfl⟩) | (go_at_call 132; refine (refOver_any _ _).mono ?_; rintro e w' ⟨rfl, rfl⟩) | (go_at_call 133; refine HP.out.mono ?_; rintro e w' ⟨rfl, n, rfl⟩))
          go_ret2
          exact ⟨rfl, _, rfl⟩
        · have la : decide (a < 0) = false := by simpa using ha
          have lb : decide (b < 0) = true := by simpa using hb
          rw [← t3 ⟨ha, hb⟩]
          clear hd ht ga gb t1 t2 t3 t4 hr0 hr1
          go_enter Try.func99, Try.ntmps99
          go_wp2_with (first | (go_at_call 106; refine (refOperands_any _ _).mono ?_; rintro e w' ⟨rfl, rfl⟩) | (go_at_call 98; refine (refFits_any _ _).mono ?_; rintro e w' ⟨rfl, rfl⟩) | (go_at_call 131; refine (refTruth_any _ _).mono ?_; rintro e w' ⟨rfl, rfl⟩) | (go_at_call 132; refine (refOver_any _ _).mono ?_; rintro e w' ⟨rfl, rfl⟩) | (go_at_call 133; refine HP.out.mono ?_; rintro e w' ⟨rfl, n, rfl⟩))
          go_ret2
          exact ⟨rfl, _, rfl⟩
        · have la : decide (a < 0) = false := by simpa using ha
          have lb : decide (b < 0) = false := by simpa using hb
          rw [← t1 ⟨ha, hb⟩]
          clear hd ht ga gb t1 t2 t3 t4 hr0 hr1
          go_enter Try.func99, Try.ntmps99
          go_wp2_with (first | (go_at_call 106; refine (refOperands_any _ _).mono ?_; rintro e w' ⟨rfl, rfl⟩) | (go_at_call 98; refine (refFits_any _ _).mono ?_; rintro e w' ⟨rfl, rfl⟩) | (go_at_call 131; refine (refTruth_any _ _).mono ?_; rintro e w' ⟨rfl, rfl⟩) | (go_at_call 132; refine (refOver_any _ _).mono ?_; rintro e w' ⟨rfl, rfl⟩) | (go_at_call 133; refine HP.out.mono ?_; rintro e w' ⟨rfl, n, rfl⟩))
          go_ret2
          exact ⟨rfl, _, rfl⟩
    · obtain ⟨ga, gb⟩ := taken_two ht
      have fa := fit_yes ga
      have fb := fit_yes gb
      have k : opN 18 = 2 := rfl
      by_cases h0 : b = 0
      · subst h0
        have hd : doN 18 a 0 c = (0, 3) := by simp [doN, ht, reck]
        rw [hd]
        clear hd ht ga gb
        go_enter Try.func99, Try.ntmps99
        go_wp2_with (first | (go_at_call 106; refine (refOperands_any _ _).mono ?_; rintro e w' ⟨rfl, rfl⟩) | (go_at_call 98; refine (refFits_any _ _).mono ?_; rintro e w' ⟨rfl, rfl⟩) | (go_at_call 131; refine (refTruth_any _ _).mono ?_; rintro e w' ⟨rfl, rfl⟩) | (go_at_call 132; refine (refOver_any _ _).mono ?_; rintro e w' ⟨rfl, rfl⟩))
        go_ret2
        exact ⟨rfl, 0, rfl⟩
      · have HP := Lib.hid (refParts_any a b w ga gb h0)
        have hq0 : 0 ≤ absI a / absI b := Int.ediv_nonneg (by unfold absI; omega) (by unfold absI; omega)
        have hq1 : absI a / absI b ≤ 2147483648 := Int.le_trans (Int.ediv_le_self _ (by unfold absI; omega)) (by unfold absI; omega)
        have hr0 : 0 ≤ absI a % absI b := Int.emod_nonneg _ (by unfold absI; omega)
        have hr1 : absI a % absI b ≤ 2147483648 := Int.le_trans (Int.le_of_lt (Int.emod_lt_of_pos _ (by unfold absI; omega))) (by unfold absI; omega)
        have hf : fitB (a.tmod b) = true := fit_yes (mod_fits ga gb h0)
        have hd : doN 18 a b c = (a.tmod b, 0) := by simp [doN, ht, reck, h0, over, hf]
        rw [hd]
        obtain ⟨t1, t2⟩ := tmod_signs a b
        by_cases ha : a < 0
        · rw [← t2 ha]
          clear hd ht ga gb t1 t2 hf hq0 hq1
          go_enter Try.func99, Try.ntmps99
          go_wp2_with (first | (go_at_call 106; refine (refOperands_any _ _).mono ?_; rintro e w' ⟨rfl, rfl⟩) | (go_at_call 98; refine (refFits_any _ _).mono ?_; rintro e w' ⟨rfl, rfl⟩) | (go_at_call 131; refine (refTruth_any _ _).mono ?_; rintro e w' ⟨rfl, rfl⟩) | (go_at_call 132; refine (refOver_any _ _).mono ?_; rintro e w' ⟨rfl, rfl⟩) | (go_at_call 133; refine HP.out.mono ?_; rintro e w' ⟨rfl, n, rfl⟩))
          go_ret2
          exact ⟨rfl, _, rfl⟩
        · rw [← t1 ha]
          clear hd ht ga gb t1 t2 hf hq0 hq1
          go_enter Try.func99, Try.ntmps99
          go_wp2_with (first | (go_at_call 106; refine (refOperands_any _ _).mono ?_; rintro e w' ⟨rfl, rfl⟩) | (go_at_call 98; refine (refFits_any _ _).mono ?_; rintro e w' ⟨rfl, rfl⟩) | (go_at_call 131; refine (refTruth_any _ _).mono ?_; rintro e w' ⟨rfl, rfl⟩) | (go_at_call 132; refine (refOver_any _ _).mono ?_; rintro e w' ⟨rfl, rfl⟩) | (go_at_call 133; refine HP.out.mono ?_; rintro e w' ⟨rfl, n, rfl⟩))
          go_ret2
          exact ⟨rfl, _, rfl⟩
    · have fa := fit_yes (taken_one ht)
      have k : opN 4 = 1 := rfl
      have hd : doN 4 a b c = (bn (a == 0), 0) := by
        by_cases h : a = 0
        · subst h; simp [doN, ht, joinB]
        · have h2 : (a == 0) = false := by simp [h]
          rw [h2]; simp [doN, ht, joinB, bn, h]
      rw [hd]
      clear hd ht
      go_enter Try.func99, Try.ntmps99
      go_wp2_with (first | (go_at_call 106; refine (refOperands_any _ _).mono ?_; rintro e w' ⟨rfl, rfl⟩) | (go_at_call 98; refine (refFits_any _ _).mono ?_; rintro e w' ⟨rfl, rfl⟩) | (go_at_call 131; refine (refTruth_any _ _).mono ?_; rintro e w' ⟨rfl, rfl⟩) | (go_at_call 132; refine (refOver_any _ _).mono ?_; rintro e w' ⟨rfl, rfl⟩))
      go_ret2
      exact ⟨rfl, 0, rfl⟩
    · obtain ⟨ga1, ga2⟩ := taken_one ht
      have fa := fit_yes (taken_one ht)
      have k : opN 5 = 1 := rfl
      have hd : doN 5 a b c = over (-a) := by simp [doN, ht, reck]
      rw [hd]
      clear hd ht
      go_enter Try.func99, Try.ntmps99
      go_wp2_with (first | (go_at_call 106; refine (refOperands_any _ _).mono ?_; rintro e w' ⟨rfl, rfl⟩) | (go_at_call 98; refine (refFits_any _ _).mono ?_; rintro e w' ⟨rfl, rfl⟩) | (go_at_call 131; refine (refTruth_any _ _).mono ?_; rintro e w' ⟨rfl, rfl⟩) | (go_at_call 132; refine (refOver_any _ _).mono ?_; rintro e w' ⟨rfl, rfl⟩))
      go_ret2
      exact ⟨rfl, 0, rfl⟩
    · rw [taken_none hno] at ht; cases ht
  · have hd : doN op a b c = (0, 1) := by simp [doN, ht]
    rw [hd]
    exact ref_no op a b c w ht
end Go.Proofs.Ytcphjehjdhgheaa.Num
