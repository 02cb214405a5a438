/- The document's own answer 'Do' of layer num (package bailmentref01) is what the plain function doN says; it leaves memory alone but for draws. Conditions: none. -/
import Derived.Test.YtcphjehjdhgheaaNumG
namespace Go.Proofs.Ytcphjehjdhgheaa.Num
open Go.ChangeShapes Go.WideShapes Go.ChangeAt Go.RowKit
set_option linter.unusedVariables false

set_option maxRecDepth 100000 in
set_option maxHeartbeats 2000000 in
theorem ref_no (op a b c : Int) (w : World) (h : takenB (opN op) a b c = false) :
    Calls Try.prog 99 #[.int .i64 op, .int .i64 a, .int .i64 b, .int .i64 c] w fun e w' => e = .returned (.tuple #[.int .i64 0, .int .i64 1]) ∧ ∃ n, w' = w.drewN n := by
  have hk : opN op = -1 ∨ opN op = 1 ∨ opN op = 2 ∨ opN op = 3 := by unfold opN; omega
  rcases hk with hk | hk | hk | hk
  · clear h
    go_enter Try.func99, Try.ntmps99
    go_wp2_with (first | (go_at_call 106; refine (refOperands_any _ _).mono ?_; rintro e w' ⟨rfl, rfl⟩) | (go_at_call 98; refine (refFits_any _ _).mono ?_; rintro e w' ⟨rfl, rfl⟩) | (go_at_call 131; refine (refTruth_any _ _).mono ?_; rintro e w' ⟨rfl, rfl⟩) | (go_at_call 132; refine (refOver_any _ _).mono ?_; rintro e w' ⟨rfl, rfl⟩))
    go_ret2
    exact ⟨rfl, 0, rfl⟩
  · rw [hk] at h
    have fa : fitB a = false := by simpa [takenB] using h
    clear h
    go_enter Try.func99, Try.ntmps99
    go_wp2_with (first | (go_at_call 106; refine (refOperands_any _ _).mono ?_; rintro e w' ⟨rfl, rfl⟩) | (go_at_call 98; refine (refFits_any _ _).mono ?_; rintro e w' ⟨rfl, rfl⟩) | (go_at_call 131; refine (refTruth_any _ _).mono ?_; rintro e w' ⟨rfl, rfl⟩) | (go_at_call 132; refine (refOver_any _ _).mono ?_; rintro e w' ⟨rfl, rfl⟩))
    go_ret2
    exact ⟨rfl, 0, rfl⟩
  · rw [hk] at h
    rcases Bool.eq_false_or_eq_true (fitB a) with fa | fa
    · have fb : fitB b = false := by simpa [takenB, fa] using h
      clear h
      go_enter Try.func99, Try.ntmps99
      go_wp2_with (first | (go_at_call 106; refine (refOperands_any _ _).mono ?_; rintro e w' ⟨rfl, rfl⟩) | (go_at_call 98; refine (refFits_any _ _).mono ?_; rintro e w' ⟨rfl, rfl⟩) | (go_at_call 131; refine (refTruth_any _ _).mono ?_; rintro e w' ⟨rfl, rfl⟩) | (go_at_call 132; refine (refOver_any _ _).mono ?_; rintro e w' ⟨rfl, rfl⟩))
      go_ret2
      exact ⟨rfl, 0, rfl⟩
    · clear h
      go_enter Try.func99, Try.ntmps99
      go_wp2_with (first | (go_at_call 106; refine (refOperands_any _ _).mono ?_; rintro e w' ⟨rfl, rfl⟩) | (go_at_call 98; refine (refFits_any _ _).mono ?_; rintro e w' ⟨rfl, rfl⟩) | (go_at_call 131; refine (refTruth_any _ _).mono ?_; rintro e w' ⟨rfl, rfl⟩) | (go_at_call 132; refine (refOver_any _ _).mono ?_; rintro e w' ⟨rfl, rfl⟩))
      go_ret2
      exact ⟨rfl, 0, rfl⟩
  · rw [hk] at h
    rcases Bool.eq_false_or_eq_true (fitB a) with fa | fa
    · rcases Bool.eq_false_or_eq_true (fitB b) with fb | fb
      · have fc : fitB c = false := by simpa [takenB, fa, fb] using h
        clear h
        go_enter Try.func99, Try.ntmps99
        go_wp2_with (first | (go_at_call 106; refine (refOperands_any _ _).mono ?_; rintro e w' ⟨rfl, rfl⟩) | (go_at_call 98; refine (refFits_any _ _).mono ?_; rintro e w' ⟨rfl, rfl⟩) | (go_at_call 131; refine (refTruth_any _ _).mono ?_; rintro e w' ⟨rfl, rfl⟩) | (go_at_call 132; refine (refOver_any _ _).mono ?_; rintro e w' ⟨rfl, rfl⟩))
        go_ret2
        exact ⟨rfl, 0, rfl⟩
      · clear h
        go_enter Try.func99, Try.ntmps99
        go_wp2_with (first | (go_at_call 106; refine (refOperands_any _ _).mono ?_; rintro e w' ⟨rfl, rfl⟩) | (go_at_call 98; refine (refFits_any _ _).mono ?_; rintro e w' ⟨rfl, rfl⟩) | (go_at_call 131; refine (refTruth_any _ _).mono ?_; rintro e w' ⟨rfl, rfl⟩) | (go_at_call 132; refine (refOver_any _ _).mono ?_; rintro e w' ⟨rfl, rfl⟩))
        go_ret2
        exact ⟨rfl, 0, rfl⟩
    · clear h
      go_enter Try.func99, Try.ntmps99
      go_wp2_with (first | (go_at_call 106; refine (refOperands_any _ _).mono ?_; rintro e w' ⟨rfl, rfl⟩) | (go_at_call 98; refine (refFits_any _ _).mono ?_; rintro e w' ⟨rfl, rfl⟩) | (go_at_call 131; refine (refTruth_any _ _).mono ?_; rintro e w' ⟨rfl, rfl⟩) | (go_at_call 132; refine (refOver_any _ _).mono ?_; rintro e w' ⟨rfl, rfl⟩))
      go_ret2
      exact ⟨rfl, 0, rfl⟩

set_option maxRecDepth 100000 in
set_option maxHeartbeats 4000000 in
theorem refDo_any (op a b c : Int) (w : World) :
    Calls Try.prog 99 #[.int .i64 op, .int .i64 a, .int .i64 b, .int .i64 c] w fun e w' => e = .returned (.tuple #[.int .i64 (doN op a b c).1, .int .i64 (doN op a b c).2]) ∧ ∃ n, w' = w.drewN n := by
  rcases Bool.eq_false_or_eq_true (takenB (opN op) a b c) with ht | ht
  · rcases ops_cases op with rfl | rfl | rfl | rfl | rfl | rfl | rfl | rfl | rfl | rfl | rfl | rfl | rfl | rfl | rfl | rfl | hno
    · have h3 : takenB 3 a b c = true := ht
      simp [takenB] at h3
      obtain ⟨⟨fc, fb⟩, fa⟩ := h3
      have k : opN 26 = 3 := rfl
      by_cases h0 : a = 0
      · subst h0
        have hd : doN 26 0 b c = (c, 0) := by simp [doN, ht]
        rw [hd]
        clear hd ht
        go_enter Try.func99, Try.ntmps99
        go_wp2_with (first | (go_at_call 106; refine (refOperands_any _ _).mono ?_; rintro e w' ⟨rfl, rfl⟩) | (go_at_call 98; refine (refFits_any _ _).mono ?_; rintro e w' ⟨rfl, rfl⟩) | (go_at_call 131; refine (refTruth_any _ _).mono ?_; rintro e w' ⟨rfl, rfl⟩) | (go_at_call 132; refine (refOver_any _ _).mono ?_; rintro e w' ⟨rfl, rfl⟩))
        go_ret2
        exact ⟨rfl, 0, rfl⟩
      · have hd : doN 26 a b c = (b, 0) := by simp [doN, ht, h0]
        rw [hd]
        clear hd ht
        go_enter Try.func99, Try.ntmps99
        go_wp2_with (first | (go_at_call 106; refine (refOperands_any _ _).mono ?_; rintro e w' ⟨rfl, rfl⟩) | (go_at_call 98; refine (refFits_any _ _).mono ?_; rintro e w' ⟨rfl, rfl⟩) | (go_at_call 131; refine (refTruth_any _ _).mono ?_; rintro e w' ⟨rfl, rfl⟩) | (go_at_call 132; refine (refOver_any _ _).mono ?_; rintro e w' ⟨rfl, rfl⟩))
        go_ret2
        exact ⟨rfl, 0, rfl⟩
    · obtain ⟨ga, gb⟩ := taken_two ht
      have fa := fit_yes ga
      have fb := fit_yes gb
      have k : opN 6 = 2 := rfl
      have hd : doN 6 a b c = (bn (joinB 6 (a != 0) (b != 0)), 0) := by simp [doN, ht]
      rw [hd]
      clear hd ht ga gb
      by_cases ha : a = 0 <;> by_cases hb : b = 0
      · subst ha; subst hb
        go_enter Try.func99, Try.ntmps99
        go_wp2_with (first | (go_at_call 106; refine (refOperands_any _ _).mono ?_; rintro e w' ⟨rfl, rfl⟩) | (go_at_call 98; refine (refFits_any _ _).mono ?_; rintro e w' ⟨rfl, rfl⟩) | (go_at_call 131; refine (refTruth_any _ _).mono ?_; rintro e w' ⟨rfl, rfl⟩) | (go_at_call 132; refine (refOver_any _ _).mono ?_; rintro e w' ⟨rfl, rfl⟩))
        go_ret2
        exact ⟨rfl, 0, rfl⟩
      · subst ha
        have kb := bne_iff_ne.2 hb
        rw [kb]
        go_enter Try.func99, Try.ntmps99
        go_wp2_with (first | (go_at_call 106; refine (refOperands_any _ _).mono ?_; rintro e w' ⟨rfl, rfl⟩) | (go_at_call 98; refine (refFits_any _ _).mono ?_; rintro e w' ⟨rfl, rfl⟩) | (go_at_call 131; refine (refTruth_any _ _).mono ?_; rintro e w' ⟨rfl, rfl⟩) | (go_at_call 132; refine (refOver_any _ _).mono ?_; rintro e w' ⟨rfl, rfl⟩))
        go_ret2
        exact ⟨rfl, 0, rfl⟩
      · subst hb
        have ka := bne_iff_ne.2 ha
        have ka2 := beq_eq_false_iff_ne.2 ha
        rw [ka]
        go_enter Try.func99, Try.ntmps99
        go_wp2_with (first | (go_at_call 106; refine (refOperands_any _ _).mono ?_; rintro e w' ⟨rfl, rfl⟩) | (go_at_call 98; refine (refFits_any _ _).mono ?_; rintro e w' ⟨rfl, rfl⟩) | (go_at_call 131; refine (refTruth_any _ _).mono ?_; rintro e w' ⟨rfl, rfl⟩) | (go_at_call 132; refine (refOver_any _ _).mono ?_; rintro e w' ⟨rfl, rfl⟩))
        go_ret2
        exact ⟨rfl, 0, rfl⟩
      · have ka := bne_iff_ne.2 ha
        have ka2 := beq_eq_false_iff_ne.2 ha
        have kb := bne_iff_ne.2 hb
        rw [ka, kb]
        go_enter Try.func99, Try.ntmps99
        go_wp2_with (first | (go_at_call 106; refine (refOperands_any _ _).mono ?_; rintro e w' ⟨rfl, rfl⟩) | (go_at_call 98; refine (refFits_any _ _).mono ?_; rintro e w' ⟨rfl, rfl⟩) | (go_at_call 131; refine (refTruth_any _ _).mono ?_; rintro e w' ⟨rfl, rfl⟩) | (go_at_call 132; refine (refOver_any _ _).mono ?_; rintro e w' ⟨rfl, rfl⟩))
        go_ret2
        exact ⟨rfl, 0, rfl⟩
    · obtain ⟨ga, gb⟩ := taken_two ht
      have fa := fit_yes ga
      have fb := fit_yes gb
      have k : opN 7 = 2 := rfl
      have hd : doN 7 a b c = (bn (joinB 7 (a != 0) (b != 0)), 0) := by simp [doN, ht]
      rw [hd]
      clear hd ht ga gb
      by_cases ha : a = 0 <;> by_cases hb : b = 0
      · subst ha; subst hb
        go_enter Try.func99, Try.ntmps99
        go_wp2_with (first | (go_at_call 106; refine (refOperands_any _ _).mono ?_; rintro e w' ⟨rfl, rfl⟩) | (go_at_call 98; refine (refFits_any _ _).mono ?_; rintro e w' ⟨rfl, rfl⟩) | (go_at_call 131; refine (refTruth_any _ _).mono ?_; rintro e w' ⟨rfl, rfl⟩) | (go_at_call 132; refine (refOver_any _ _).mono ?_; rintro e w' ⟨rfl, rfl⟩))
        go_ret2
        exact ⟨rfl, 0, rfl⟩
      · subst ha
        have kb := bne_iff_ne.2 hb
        rw [kb]
        go_enter Try.func99, Try.ntmps99
        go_wp2_with (first | (go_at_call 106; refine (refOperands_any _ _).mono ?_; rintro e w' ⟨rfl, rfl⟩) | (go_at_call 98; refine (refFits_any _ _).mono ?_; rintro e w' ⟨rfl, rfl⟩) | (go_at_call 131; refine (refTruth_any _ _).mono ?_; rintro e w' ⟨rfl, rfl⟩) | (go_at_call 132; refine (refOver_any _ _).mono ?_; rintro e w' ⟨rfl, rfl⟩))
        go_ret2
        exact ⟨rfl, 0, rfl⟩
      · subst hb
        have ka := bne_iff_ne.2 ha
        have ka2 := beq_eq_false_iff_ne.2 ha
        rw [ka]
        go_enter Try.func99, Try.ntmps99
        go_wp2_with (first | (go_at_call 106; refine (refOperands_any _ _).mono ?_; rintro e w' ⟨rfl, rfl⟩) | (go_at_call 98; refine (refFits_any _ _).mono ?_; rintro e w' ⟨rfl, rfl⟩) | (go_at_call 131; refine (refTruth_any _ _).mono ?_; rintro e w' ⟨rfl, rfl⟩) | (go_at_call 132; refine (refOver_any _ _).mono ?_; rintro e w' ⟨rfl, rfl⟩))
        go_ret2
        exact ⟨rfl, 0, rfl⟩
      · have ka := bne_iff_ne.2 ha
        have ka2 := beq_eq_false_iff_ne.2 ha
        have kb := bne_iff_ne.2 hb
        rw [ka, kb]
        go_enter Try.func99, Try.ntmps99
        go_wp2_with (first | (go_at_call 106; refine (refOperands_any _ _).mono ?_; rintro e w' ⟨rfl, rfl⟩) | (go_at_call 98; refine (refFits_any _ _).mono ?_; rintro e w' ⟨rfl, rfl⟩) | (go_at_call 131; refine (refTruth_any _ _).mono ?_; rintro e w' ⟨rfl, rfl⟩) | (go_at_call 132; refine (refOver_any _ _).mono ?_; rintro e w' ⟨rfl, rfl⟩))
        go_ret2
        exact ⟨rfl, 0, rfl⟩
    · obtain ⟨ga, gb⟩ := taken_two ht
      have fa := fit_yes ga
      have fb := fit_yes gb
      have k : opN 8 = 2 := rfl
      have hd : doN 8 a b c = (bn (joinB 8 (a != 0) (b != 0)), 0) := by simp [doN, ht]
      rw [hd]
      clear hd ht ga gb
      by_cases ha : a = 0 <;> by_cases hb : b = 0
      · subst ha; subst hb
        go_enter Try.func99, Try.ntmps99
        go_wp2_with (first | (go_at_call 106; refine (refOperands_any _ _).mono ?_; rintro e w' ⟨rfl, rfl⟩) | (go_at_call 98; refine (refFits_any _ _).mono ?_; rintro e w' ⟨rfl, rfl⟩) | (go_at_call 131; refine (refTruth_any _ _).mono ?_; rintro e w' ⟨rfl, rfl⟩) | (go_at_call 132; refine (refOver_any _ _).mono ?_; rintro e w' ⟨rfl, rfl⟩))
        go_ret2
        exact ⟨rfl, 0, rfl⟩
      · subst ha
        have kb := bne_iff_ne.2 hb
        rw [kb]
        go_enter Try.func99, Try.ntmps99
        go_wp2_with (first | (go_at_call 106; refine (refOperands_any _ _).mono ?_; rintro e w' ⟨rfl, rfl⟩) | (go_at_call 98; refine (refFits_any _ _).mono ?_; rintro e w' ⟨rfl, rfl⟩) | (go_at_call 131; refine (refTruth_any _ _).mono ?_; rintro e w' ⟨rfl, rfl⟩) | (go_at_call 132; refine (refOver_any _ _).mono ?_; rintro e w' ⟨rfl, rfl⟩))
        go_ret2
        exact ⟨rfl, 0, rfl⟩
      · subst hb
        have ka := bne_iff_ne.2 ha
        have ka2 := beq_eq_false_iff_ne.2 ha
        rw [ka]
        go_enter Try.func99, Try.ntmps99
        go_wp2_with (first | (go_at_call 106; refine (refOperands_any _ _).mono ?_; rintro e w' ⟨rfl, rfl⟩) | (go_at_call 98; refine (refFits_any _ _).mono ?_; rintro e w' ⟨rfl, rfl⟩) | (go_at_call 131; refine (refTruth_any _ _).mono ?_; rintro e w' ⟨rfl, rfl⟩) | (go_at_call 132; refine (refOver_any _ _).mono ?_; rintro e w' ⟨rfl, rfl⟩))
        go_ret2
        exact ⟨rfl, 0, rfl⟩
      · have ka := bne_iff_ne.2 ha
        have ka2 := beq_eq_false_iff_ne.2 ha
        have kb := bne_iff_ne.2 hb
        rw [ka, kb]
        go_enter Try.func99, Try.ntmps99
        go_wp2_with (first | (go_at_call 106; refine (refOperands_any _ _).mono ?_; rintro e w' ⟨rfl, rfl⟩) | (go_at_call 98; refine (refFits_any _ _).mono ?_; rintro e w' ⟨rfl, rfl⟩) | (go_at_call 131; refine (refTruth_any _ _).mono ?_; rintro e w' ⟨rfl, rfl⟩) | (go_at_call 132; refine (refOver_any _ _).mono ?_; rintro e w' ⟨rfl, rfl⟩))
        go_ret2
        exact ⟨rfl, 0, rfl⟩
    · obtain ⟨ga, gb⟩ := taken_two ht
      have fa := fit_yes ga
      have fb := fit_yes gb
      have k : opN 9 = 2 := rfl
      have hd : doN 9 a b c = (bn (joinB 9 (a != 0) (b != 0)), 0) := by simp [doN, ht]
      rw [hd]
      clear hd ht ga gb
      by_cases ha : a = 0 <;> by_cases hb : b = 0
      · subst ha; subst hb
        go_enter Try.func99, Try.ntmps99
        go_wp2_with (first | (go_at_call 106; refine (refOperands_any _ _).mono ?_; rintro e w' ⟨rfl, rfl⟩) | (go_at_call 98; refine (refFits_any _ _).mono ?_; rintro e w' ⟨rfl, rfl⟩) | (go_at_call 131; refine (refTruth_any _ _).mono ?_; rintro e w' ⟨rfl, rfl⟩) | (go_at_call 132; refine (refOver_any _ _).mono ?_; rintro e w' ⟨rfl, rfl⟩))
        go_ret2
        exact ⟨rfl, 0, rfl⟩
      · subst ha
        have kb := bne_iff_ne.2 hb
        rw [kb]
        go_enter Try.func99, Try.ntmps99
        go_wp2_with (first | (go_at_call 106; refine (refOperands_any _ _).mono ?_; rintro e w' ⟨rfl, rfl⟩) | (go_at_call 98; refine (refFits_any _ _).mono ?_; rintro e w' ⟨rfl, rfl⟩) | (go_at_call 131; refine (refTruth_any _ _).mono ?_; rintro e w' ⟨rfl, rfl⟩) | (go_at_call 132; refine (refOver_any _ _).mono ?_; rintro e w' ⟨rfl, rfl⟩))
        go_ret2
        exact ⟨rfl, 0, rfl⟩
      · subst hb
        have ka := bne_iff_ne.2 ha
        have ka2 := beq_eq_false_iff_ne.2 ha
        rw [ka]
        go_enter Try.func99, Try.ntmps99
        go_wp2_with (first | (go_at_call 106; refine (refOperands_any _ _).mono ?_; rintro e w' ⟨rfl, rfl⟩) | (go_at_call 98; refine (refFits_any _ _).mono ?_; rintro e w' ⟨rfl, rfl⟩) | (go_at_call 131; refine (refTruth_any _ _).mono ?_; rintro e w' ⟨rfl, rfl⟩) | (go_at_call 132; refine (refOver_any _ _).mono ?_; rintro e w' ⟨rfl, rfl⟩))
        go_ret2
        exact ⟨rfl, 0, rfl⟩
      · have ka := bne_iff_ne.2 ha
        have ka2 := beq_eq_false_iff_ne.2 ha
        have kb := bne_iff_ne.2 hb
        rw [ka, kb]
        go_enter Try.func99, Try.ntmps99
        go_wp2_with (first | (go_at_call 106; refine (refOperands_any _ _).mono ?_; rintro e w' ⟨rfl, rfl⟩) | (go_at_call 98; refine (refFits_any _ _).mono ?_; rintro e w' ⟨rfl, rfl⟩) | (go_at_call 131; refine (refTruth_any _ _).mono ?_; rintro e w' ⟨rfl, rfl⟩) | (go_at_call 132; refine (refOver_any _ _).mono ?_; rintro e w' ⟨rfl, rfl⟩))
        go_ret2
        exact ⟨rfl, 0, rfl⟩
    · obtain ⟨ga, gb⟩ := taken_two ht
      have fa := fit_yes ga
      have fb := fit_yes gb
      have k : opN 10 = 2 := rfl
      have hd : doN 10 a b c = (bn (cmpB 10 a b), 0) := by simp [doN, ht]
      rw [hd]
      clear hd ht ga gb
      go_enter Try.func99, Try.ntmps99
      go_wp2_with (first | (go_at_call 106; refine (refOperands_any _ _).mono ?_; rintro e w' ⟨rfl, rfl⟩) | (go_at_call 98; refine (refFits_any _ _).mono ?_; rintro e w' ⟨rfl, rfl⟩) | (go_at_call 131; refine (refTruth_any _ _).mono ?_; rintro e w' ⟨rfl, rfl⟩) | (go_at_call 132; refine (refOver_any _ _).mono ?_; rintro e w' ⟨rfl, rfl⟩))
      go_ret2
      exact ⟨rfl, 0, rfl⟩
    · obtain ⟨ga, gb⟩ := taken_two ht
      have fa := fit_yes ga
      have fb := fit_yes gb
      have k : opN 11 = 2 := rfl
      have hd : doN 11 a b c = (bn (cmpB 11 a b), 0) := by simp [doN, ht]
      rw [hd]
      clear hd ht ga gb
      go_enter Try.func99, Try.ntmps99
      go_wp2_with (first | (go_at_call 106; refine (refOperands_any _ _).mono ?_; rintro e w' ⟨rfl, rfl⟩) | (go_at_call 98; refine (refFits_any _ _).mono ?_; rintro e w' ⟨rfl, rfl⟩) | (go_at_call 131; refine (refTruth_any _ _).mono ?_; rintro e w' ⟨rfl, rfl⟩) | (go_at_call 132; refine (refOver_any _ _).mono ?_; rintro e w' ⟨rfl, rfl⟩))
      go_ret2
      exact ⟨rfl, 0, rfl⟩
    · obtain ⟨ga, gb⟩ := taken_two ht
      have fa := fit_yes ga
      have fb := fit_yes gb
      have k : opN 12 = 2 := rfl
      have hd : doN 12 a b c = (bn (cmpB 12 a b), 0) := by simp [doN, ht]
      rw [hd]
      clear hd ht ga gb
      go_enter Try.func99, Try.ntmps99
      go_wp2_with (first | (go_at_call 106; refine (refOperands_any _ _).mono ?_; rintro e w' ⟨rfl, rfl⟩) | (go_at_call 98; refine (refFits_any _ _).mono ?_; rintro e w' ⟨rfl, rfl⟩) | (go_at_call 131; refine (refTruth_any _ _).mono ?_; rintro e w' ⟨rfl, rfl⟩) | (go_at_call 132; refine (refOver_any _ _).mono ?_; rintro e w' ⟨rfl, rfl⟩))
      go_ret2
      exact ⟨rfl, 0, rfl⟩
    · obtain ⟨ga, gb⟩ := taken_two ht
      have fa := fit_yes ga
      have fb := fit_yes gb
      have k : opN 13 = 2 := rfl
      have hd : doN 13 a b c = (bn (cmpB 13 a b), 0) := by simp [doN, ht]
      rw [hd]
      clear hd ht ga gb
      go_enter Try.func99, Try.ntmps99
      go_wp2_with (first | (go_at_call 106; refine (refOperands_any _ _).mono ?_; rintro e w' ⟨rfl, rfl⟩) | (go_at_call 98; refine (refFits_any _ _).mono ?_; rintro e w' ⟨rfl, rfl⟩) | (go_at_call 131; refine (refTruth_any _ _).mono ?_; rintro e w' ⟨rfl, rfl⟩) | (go_at_call 132; refine (refOver_any _ _).mono ?_; rintro e w' ⟨rfl, rfl⟩))
      go_ret2
      exact ⟨rfl, 0, rfl⟩
    · obtain ⟨ga, gb⟩ := taken_two ht
      have fa := fit_yes ga
      have fb := fit_yes gb
      have k : opN 14 = 2 := rfl
      have hd : doN 14 a b c = over (a + b) := by simp [doN, ht, reck]
      rw [hd]
      obtain ⟨mb1, mb2⟩ := mul_bd ga gb
      obtain ⟨ga1, ga2⟩ := ga
      obtain ⟨gb1, gb2⟩ := gb
      clear hd ht
      go_enter Try.func99, Try.ntmps99
      go_wp2_with (first | (go_at_call 106; refine (refOperands_any _ _).mono ?_; rintro e w' ⟨rfl, rfl⟩) | (go_at_call 98; refine (refFits_any _ _).mono ?_; rintro e w' ⟨rfl, rfl⟩) | (go_at_call 131; refine (refTruth_any _ _).mono ?_; rintro e w' ⟨rfl, rfl⟩) | (go_at_call 132; refine (refOver_any _ _).mono ?_; rintro e w' ⟨rfl, rfl⟩))
      go_ret2
      exact ⟨rfl, 0, rfl⟩
    · obtain ⟨ga, gb⟩ := taken_two ht
      have fa := fit_yes ga
      have fb := fit_yes gb
      have k : opN 15 = 2 := rfl
      have hd : doN 15 a b c = over (a - b) := by simp [doN, ht, reck]
      rw [hd]
      obtain ⟨mb1, mb2⟩ := mul_bd ga gb
      obtain ⟨ga1, ga2⟩ := ga
      obtain ⟨gb1, gb2⟩ := gb
      clear hd ht
      go_enter Try.func99, Try.ntmps99
      go_wp2_with (first | (go_at_call 106; refine (refOperands_any _ _).mono ?_; rintro e w' ⟨rfl, rfl⟩) | (go_at_call 98; refine (refFits_any _ _).mono ?_; rintro e w' ⟨rfl, rfl⟩) | (go_at_call 131; refine (refTruth_any _ _).mono ?_; rintro e w' ⟨rfl, rfl⟩) | (go_at_call 132; refine (refOver_any _ _).mono ?_; rintro e w' ⟨rfl, rfl⟩))
      go_ret2
      exact ⟨rfl, 0, rfl⟩
    · obtain ⟨ga, gb⟩ := taken_two ht
      have fa := fit_yes ga
      have fb := fit_yes gb
      have k : opN 16 = 2 := rfl
      have hd : doN 16 a b c = over (a * b) := by simp [doN, ht, reck]
      rw [hd]
      obtain ⟨mb1, mb2⟩ := mul_bd ga gb
      obtain ⟨ga1, ga2⟩ := ga
      obtain ⟨gb1, gb2⟩ := gb
      clear hd ht
      go_enter Try.func99, Try.ntmps99
      go_wp2_with (first | (go_at_call 106; refine (refOperands_any _ _).mono ?_; rintro e w' ⟨rfl, rfl⟩) | (go_at_call 98; refine (refFits_any _ _).mono ?_; rintro e w' ⟨rfl, rfl⟩) | (go_at_call 131; refine (refTruth_any _ _).mono ?_; rintro e w' ⟨rfl, rfl⟩) | (go_at_call 132; refine (refOver_any _ _).mono ?_; rintro e w' ⟨rfl, rfl⟩))
      go_ret2
      exact ⟨rfl, 0, rfl⟩
    · obtain ⟨ga, gb⟩ := taken_two ht
      have fa := fit_yes ga
      have fb := fit_yes gb
      have k : opN 17 = 2 := rfl
      by_cases h0 : b = 0
      · subst h0
        have hd : doN 17 a 0 c = (0, 3) := by simp [doN, ht, reck]
        rw [hd]
        clear hd ht ga gb
        go_enter Try.func99, Try.ntmps99
        go_wp2_with (first | (go_at_call 106; refine (refOperands_any _ _).mono ?_; rintro e w' ⟨rfl, rfl⟩) | (go_at_call 98; refine (refFits_any _ _).mono ?_; rintro e w' ⟨rfl, rfl⟩) | (go_at_call 131; refine (refTruth_any _ _).mono ?_; rintro e w' ⟨rfl, rfl⟩) | (go_at_call 132; refine (refOver_any _ _).mono ?_; rintro e w' ⟨rfl, rfl⟩))
        go_ret2
        exact ⟨rfl, 0, rfl⟩
      · have HP := Lib.hid (refParts_any a b w ga gb h0)
        have hq0 : 0 ≤ absI a / absI b := Int.ediv_nonneg (by unfold absI; omega) (by unfold absI; omega)
        have hq1 : absI a / absI b ≤ 2147483648 := Int.le_trans (Int.ediv_le_self _ (by unfold absI; omega)) (by unfold absI; omega)
        have hr0 : 0 ≤ absI a % absI b := Int.emod_nonneg _ (by unfold absI; omega)
        have hr1 : absI a % absI b ≤ 2147483648 := Int.le_trans (Int.le_of_lt (Int.emod_lt_of_pos _ (by unfold absI; omega))) (by unfold absI; omega)
        have hd : doN 17 a b c = over (a.tdiv b) := by simp [doN, ht, reck, h0]
        rw [hd]
        obtain ⟨t1, t2, t3, t4⟩ := tdiv_signs a b
        by_cases ha : a < 0 <;> by_cases hb : b < 0
        · have la : decide (a < 0) = true := by simpa using ha
          have lb : decide (b < 0) = true := by simpa using hb
          rw [← t4 ⟨ha, hb⟩]
          clear hd ht ga gb t1 t2 t3 t4 hr0 hr1
          go_enter Try.func99, Try.ntmps99
          go_wp2_with (first | (go_at_call 106; refine (refOperands_any _ _).mono ?_; rintro e w' ⟨rfl, rfl⟩) | (go_at_call 98; refine (refFits_any _ _).mono ?_; rintro e w' ⟨rfl, rfl⟩) | (go_at_call 131; refine (refTruth_any _ _).mono ?_; rintro e w' ⟨rfl, rfl⟩) | (go_at_call 132; refine (refOver_any _ _).mono ?_; rintro e w' ⟨rfl, rfl⟩) | (go_at_call 133; refine HP.out.mono ?_; rintro e w' ⟨rfl, n, rfl⟩))
          go_ret2
          exact ⟨rfl, _, rfl⟩
        · have la : decide (a < 0) = true := by simpa using ha
          have lb : decide (b < 0) = false := by simpa using hb
          rw [← t2 ⟨ha, hb⟩]
          clear hd ht ga gb t1 t2 t3 t4 hr0 hr1
          go_enter Try.func99, Try.ntmps99
          go_wp2_with (first | (go_at_call 106; refine (refOperands_any _ _).mono ?_; rintro e w' ⟨rfl, rfl⟩) | (go_at_call 98; refine (refFits_any _ _).mono ?_; rintro e w' ⟨rfl, rfl⟩) | (go_at_call 131; refine (refTruth_any _ _).mono ?_; rintro e w' ⟨rfl, rfl⟩) | (go_at_call 132; refine (refOver_any _ _).mono ?_; rintro e w' ⟨rfl, rfl⟩) | (go_at_call 133; refine HP.out.mono ?_; rintro e w' ⟨rfl, n, rfl⟩))
          go_ret2
          exact ⟨rfl, _, rfl⟩
        · have la : decide (a < 0) = false := by simpa using ha
          have lb : decide (b < 0) = true := by simpa using hb
          rw [← t3 ⟨ha, hb⟩]
          clear hd ht ga gb t1 t2 t3 t4 hr0 hr1
          go_enter Try.func99, Try.ntmps99
          go_wp2_with (first | (go_at_call 106; refine (refOperands_any _ _).mono ?_; rintro e w' ⟨rfl, rfl⟩) | (go_at_call 98; refine (refFits_any _ _).mono ?_; rintro e w' ⟨rfl, rfl⟩) | (go_at_call 131; refine (refTruth_any _ _).mono ?_; rintro e w' ⟨rfl, rfl⟩) | (go_at_call 132; refine (refOver_any _ _).mono ?_; rintro e w' ⟨rfl, rfl⟩) | (go_at_call 133; refine HP.out.mono ?_; rintro e w' ⟨rfl, n, rfl⟩))
          go_ret2
          exact ⟨rfl, _, rfl⟩
        · have la : decide (a < 0) = false := by simpa using ha
          have lb : decide (b < 0) = false := by simpa using hb
          rw [← t1 ⟨ha, hb⟩]
          clear hd ht ga gb t1 t2 t3 t4 hr0 hr1
          go_enter Try.func99, Try.ntmps99
          go_wp2_with (first | (go_at_call 106; refine (refOperands_any _ _).mono ?_; rintro e w' ⟨rfl, rfl⟩) | (go_at_call 98; refine (refFits_any _ _).mono ?_; rintro e w' ⟨rfl, rfl⟩) | (go_at_call 131; refine (refTruth_any _ _).mono ?_; rintro e w' ⟨rfl, rfl⟩) | (go_at_call 132; refine (refOver_any _ _).mono ?_; rintro e w' ⟨rfl, rfl⟩) | (go_at_call 133; refine HP.out.mono ?_; rintro e w' ⟨rfl, n, rfl⟩))
          go_ret2
          exact ⟨rfl, _, rfl⟩
    · obtain ⟨ga, gb⟩ := taken_two ht
      have fa := fit_yes ga
      have fb := fit_yes gb
      have k : opN 18 = 2 := rfl
      by_cases h0 : b = 0
      · subst h0
        have hd : doN 18 a 0 c = (0, 3) := by simp [doN, ht, reck]
        rw [hd]
        clear hd ht ga gb
        go_enter Try.func99, Try.ntmps99
        go_wp2_with (first | (go_at_call 106; refine (refOperands_any _ _).mono ?_; rintro e w' ⟨rfl, rfl⟩) | (go_at_call 98; refine (refFits_any _ _).mono ?_; rintro e w' ⟨rfl, rfl⟩) | (go_at_call 131; refine (refTruth_any _ _).mono ?_; rintro e w' ⟨rfl, rfl⟩) | (go_at_call 132; refine (refOver_any _ _).mono ?_; rintro e w' ⟨rfl, rfl⟩))
        go_ret2
        exact ⟨rfl, 0, rfl⟩
      · have HP := Lib.hid (refParts_any a b w ga gb h0)
        have hq0 : 0 ≤ absI a / absI b := Int.ediv_nonneg (by unfold absI; omega) (by unfold absI; omega)
        have hq1 : absI a / absI b ≤ 2147483648 := Int.le_trans (Int.ediv_le_self _ (by unfold absI; omega)) (by unfold absI; omega)
        have hr0 : 0 ≤ absI a % absI b := Int.emod_nonneg _ (by unfold absI; omega)
        have hr1 : absI a % absI b ≤ 2147483648 := Int.le_trans (Int.le_of_lt (Int.emod_lt_of_pos _ (by unfold absI; omega))) (by unfold absI; omega)
        have hf : fitB (a.tmod b) = true := fit_yes (mod_fits ga gb h0)
        have hd : doN 18 a b c = (a.tmod b, 0) := by simp [doN, ht, reck, h0, over, hf]
        rw [hd]
        obtain ⟨t1, t2⟩ := tmod_signs a b
        by_cases ha : a < 0
        · rw [← t2 ha]
          clear hd ht ga gb t1 t2 hf hq0 hq1
          go_enter Try.func99, Try.ntmps99
          go_wp2_with (first | (go_at_call 106; refine (refOperands_any _ _).mono ?_; rintro e w' ⟨rfl, rfl⟩) | (go_at_call 98; refine (refFits_any _ _).mono ?_; rintro e w' ⟨rfl, rfl⟩) | (go_at_call 131; refine (refTruth_any _ _).mono ?_; rintro e w' ⟨rfl, rfl⟩) | (go_at_call 132; refine (refOver_any _ _).mono ?_; rintro e w' ⟨rfl, rfl⟩) | (go_at_call 133; refine HP.out.mono ?_; rintro e w' ⟨rfl, n, rfl⟩))
          go_ret2
          exact ⟨rfl, _, rfl⟩
        · rw [← t1 ha]
          clear hd ht ga gb t1 t2 hf hq0 hq1
          go_enter Try.func99, Try.ntmps99
          go_wp2_with (first | (go_at_call 106; refine (refOperands_any _ _).mono ?_; rintro e w' ⟨rfl, rfl⟩) | (go_at_call 98; refine (refFits_any _ _).mono ?_; rintro e w' ⟨rfl, rfl⟩) | (go_at_call 131; refine (refTruth_any _ _).mono ?_; rintro e w' ⟨rfl, rfl⟩) | (go_at_call 132; refine (refOver_any _ _).mono ?_; rintro e w' ⟨rfl, rfl⟩) | (go_at_call 133; refine HP.out.mono ?_; rintro e w' ⟨rfl, n, rfl⟩))
          go_ret2
          exact ⟨rfl, _, rfl⟩
    · have fa := fit_yes (taken_one ht)
      have k : opN 4 = 1 := rfl
      have hd : doN 4 a b c = (bn (a == 0), 0) := by
        by_cases h : a = 0
        · subst h; simp [doN, ht, joinB]
        · have h2 : (a == 0) = false := by simp [h]
          rw [h2]; simp [doN, ht, joinB, bn, h]
      rw [hd]
      clear hd ht
      go_enter Try.func99, Try.ntmps99
      go_wp2_with (first | (go_at_call 106; refine (refOperands_any _ _).mono ?_; rintro e w' ⟨rfl, rfl⟩) | (go_at_call 98; refine (refFits_any _ _).mono ?_; rintro e w' ⟨rfl, rfl⟩) | (go_at_call 131; refine (refTruth_any _ _).mono ?_; rintro e w' ⟨rfl, rfl⟩) | (go_at_call 132; refine (refOver_any _ _).mono ?_; rintro e w' ⟨rfl, rfl⟩))
      go_ret2
      exact ⟨rfl, 0, rfl⟩
    · obtain ⟨ga1, ga2⟩ := taken_one ht
      have fa := fit_yes (taken_one ht)
      have k : opN 5 = 1 := rfl
      have hd : doN 5 a b c = over (-a) := by simp [doN, ht, reck]
      rw [hd]
      clear hd ht
      go_enter Try.func99, Try.ntmps99
      go_wp2_with (first | (go_at_call 106; refine (refOperands_any _ _).mono ?_; rintro e w' ⟨rfl, rfl⟩) | (go_at_call 98; refine (refFits_any _ _).mono ?_; rintro e w' ⟨rfl, rfl⟩) | (go_at_call 131; refine (refTruth_any _ _).mono ?_; rintro e w' ⟨rfl, rfl⟩) | (go_at_call 132; refine (refOver_any _ _).mono ?_; rintro e w' ⟨rfl, rfl⟩))
      go_ret2
      exact ⟨rfl, 0, rfl⟩
    · rw [taken_none hno] at ht; cases ht
  · have hd : doN op a b c = (0, 1) := by simp [doN, ht]
    rw [hd]
    exact ref_no op a b c w ht
end Go.Proofs.Ytcphjehjdhgheaa.Num
