/- 'Do' of layer num returns what the plain function doN says, and leaves memory alone. Conditions: none. -/
import Derived.Test.YtgligmdkikbdoaaNumB
namespace Go.Proofs.Ytgligmdkikbdoaa.Num
open Go.ChangeShapes Go.WideShapes Go.ChangeAt Go.RowKit
set_option linter.unusedVariables false

theorem taken_none {op a b c : Int} (h : op ≠ 26 ∧ op ≠ 6 ∧ op ≠ 7 ∧ op ≠ 8 ∧ op ≠ 9 ∧ op ≠ 10 ∧ op ≠ 11 ∧ op ≠ 12 ∧ op ≠ 13 ∧ op ≠ 14 ∧ op ≠ 15 ∧ op ≠ 16 ∧ op ≠ 17 ∧ op ≠ 18 ∧ op ≠ 4 ∧ op ≠ 5) : takenB (opN op) a b c = false := by
  have e : opN op = -1 := by unfold opN; rw [if_neg (by omega), if_neg (by omega), if_neg (by omega)]
  rw [e]; rfl

theorem taken_two {a b c : Int} (h : takenB 2 a b c = true) : (-2147483648 ≤ a ∧ a ≤ 2147483647) ∧ (-2147483648 ≤ b ∧ b ≤ 2147483647) := by
  simp [takenB] at h; exact ⟨fit_iff.1 h.2, fit_iff.1 h.1⟩

theorem taken_one {a b c : Int} (h : takenB 1 a b c = true) : (-2147483648 ≤ a ∧ a ≤ 2147483647) := by
  simp [takenB] at h; exact fit_iff.1 h

theorem do_any (op a b c : Int) (w : World) :
    Calls Try.prog 15 #[.int .i64 op, .int .i64 a, .int .i64 b, .int .i64 c] w fun e w' => e = .returned (.tuple #[.int .i64 (doN op a b c).1, .int .i64 (doN op a b c).2]) ∧ w = w' := by
  rcases Bool.eq_false_or_eq_true (takenB (opN op) a b c) with ht | ht
  · rcases ops_cases op with rfl | rfl | rfl | rfl | rfl | rfl | rfl | rfl | rfl | rfl | rfl | rfl | rfl | rfl | rfl | rfl | hno
    · rcases Bool.eq_false_or_eq_true (a != 0) with h0 | h0
      · have e : doN 26 a b c = (b, 0) := by simp [doN, ht]; intro h; simp [h] at h0
        rw [e]
        go_enter Try.func15, Try.ntmps15
        go_wp2_with (first | (go_at_call 19; refine (operands_any _ _).mono ?_; rintro e w' ⟨rfl, rfl⟩) | (go_at_call 33; refine (taken_any _ _ _ _ _).mono ?_; rintro e w' ⟨rfl, rfl⟩))
        go_ret2
        exact ⟨rfl, rfl⟩
      · have e : doN 26 a b c = (c, 0) := by
          have h1 : a = 0 := by simpa using h0
          subst h1; simp [doN, ht]
        rw [e]
        go_enter Try.func15, Try.ntmps15
        go_wp2_with (first | (go_at_call 19; refine (operands_any _ _).mono ?_; rintro e w' ⟨rfl, rfl⟩) | (go_at_call 33; refine (taken_any _ _ _ _ _).mono ?_; rintro e w' ⟨rfl, rfl⟩))
        go_ret2
        exact ⟨rfl, rfl⟩
    · have hd : doN 6 a b c = (bn (joinB 6 (a != 0) (b != 0)), 0) := by simp [doN, ht]
      rw [hd]
      clear hd
      go_enter Try.func15, Try.ntmps15
      go_wp2_with (first | (go_at_call 19; refine (operands_any _ _).mono ?_; rintro e w' ⟨rfl, rfl⟩) | (go_at_call 33; refine (taken_any _ _ _ _ _).mono ?_; rintro e w' ⟨rfl, rfl⟩) | (go_at_call 35; refine (number_any _ _).mono ?_; rintro e w' ⟨rfl, rfl⟩) | (go_at_call 36; refine (compared_any _ _ _ _).mono ?_; rintro e w' ⟨rfl, rfl⟩) | (go_at_call 37; refine (joined_any _ _ _ _).mono ?_; rintro e w' ⟨rfl, rfl⟩))
      go_ret2
      exact ⟨rfl, rfl⟩
    · have hd : doN 7 a b c = (bn (joinB 7 (a != 0) (b != 0)), 0) := by simp [doN, ht]
      rw [hd]
      clear hd
      go_enter Try.func15, Try.ntmps15
      go_wp2_with (first | (go_at_call 19; refine (operands_any _ _).mono ?_; rintro e w' ⟨rfl, rfl⟩) | (go_at_call 33; refine (taken_any _ _ _ _ _).mono ?_; rintro e w' ⟨rfl, rfl⟩) | (go_at_call 35; refine (number_any _ _).mono ?_; rintro e w' ⟨rfl, rfl⟩) | (go_at_call 36; refine (compared_any _ _ _ _).mono ?_; rintro e w' ⟨rfl, rfl⟩) | (go_at_call 37; refine (joined_any _ _ _ _).mono ?_; rintro e w' ⟨rfl, rfl⟩))
      go_ret2
      exact ⟨rfl, rfl⟩
    · have hd : doN 8 a b c = (bn (joinB 8 (a != 0) (b != 0)), 0) := by simp [doN, ht]
      rw [hd]
      clear hd
      go_enter Try.func15, Try.ntmps15
      go_wp2_with (first | (go_at_call 19; refine (operands_any _ _).mono ?_; rintro e w' ⟨rfl, rfl⟩) | (go_at_call 33; refine (taken_any _ _ _ _ _).mono ?_; rintro e w' ⟨rfl, rfl⟩) | (go_at_call 35; refine (number_any _ _).mono ?_; rintro e w' ⟨rfl, rfl⟩) | (go_at_call 36; refine (compared_any _ _ _ _).mono ?_; rintro e w' ⟨rfl, rfl⟩) | (go_at_call 37; refine (joined_any _ _ _ _).mono ?_; rintro e w' ⟨rfl, rfl⟩))
      go_ret2
      exact ⟨rfl, rfl⟩
    · have hd : doN 9 a b c = (bn (joinB 9 (a != 0) (b != 0)), 0) := by simp [doN, ht]
      rw [hd]
      clear hd
      go_enter Try.func15, Try.ntmps15
      go_wp2_with (first | (go_at_call 19; refine (operands_any _ _).mono ?_; rintro e w' ⟨rfl, rfl⟩) | (go_at_call 33; refine (taken_any _ _ _ _ _).mono ?_; rintro e w' ⟨rfl, rfl⟩) | (go_at_call 35; refine (number_any _ _).mono ?_; rintro e w' ⟨rfl, rfl⟩) | (go_at_call 36; refine (compared_any _ _ _ _).mono ?_; rintro e w' ⟨rfl, rfl⟩) | (go_at_call 37; refine (joined_any _ _ _ _).mono ?_; rintro e w' ⟨rfl, rfl⟩))
      go_ret2
      exact ⟨rfl, rfl⟩
    · have hd : doN 10 a b c = (bn (cmpB 10 a b), 0) := by simp [doN, ht]
      rw [hd]
      clear hd
      go_enter Try.func15, Try.ntmps15
      go_wp2_with (first | (go_at_call 19; refine (operands_any _ _).mono ?_; rintro e w' ⟨rfl, rfl⟩) | (go_at_call 33; refine (taken_any _ _ _ _ _).mono ?_; rintro e w' ⟨rfl, rfl⟩) | (go_at_call 35; refine (number_any _ _).mono ?_; rintro e w' ⟨rfl, rfl⟩) | (go_at_call 36; refine (compared_any _ _ _ _).mono ?_; rintro e w' ⟨rfl, rfl⟩) | (go_at_call 37; refine (joined_any _ _ _ _).mono ?_; rintro e w' ⟨rfl, rfl⟩))
      go_ret2
      exact ⟨rfl, rfl⟩
    · have hd : doN 11 a b c = (bn (cmpB 11 a b), 0) := by simp [doN, ht]
      rw [hd]
      clear hd
      go_enter Try.func15, Try.ntmps15
      go_wp2_with (first | (go_at_call 19; refine (operands_any _ _).mono ?_; rintro e w' ⟨rfl, rfl⟩) | (go_at_call 33; refine (taken_any _ _ _ _ _).mono ?_; rintro e w' ⟨rfl, rfl⟩) | (go_at_call 35; refine (number_any _ _).mono ?_; rintro e w' ⟨rfl, rfl⟩) | (go_at_call 36; refine (compared_any _ _ _ _).mono ?_; rintro e w' ⟨rfl, rfl⟩) | (go_at_call 37; refine (joined_any _ _ _ _).mono ?_; rintro e w' ⟨rfl, rfl⟩))
      go_ret2
      exact ⟨rfl, rfl⟩
    · have hd : doN 12 a b c = (bn (cmpB 12 a b), 0) := by simp [doN, ht]
      rw [hd]
      clear hd
      go_enter Try.func15, Try.ntmps15
      go_wp2_with (first | (go_at_call 19; refine (operands_any _ _).mono ?_; rintro e w' ⟨rfl, rfl⟩) | (go_at_call 33; refine (taken_any _ _ _ _ _).mono ?_; rintro e w' ⟨rfl, rfl⟩) | (go_at_call 35; refine (number_any _ _).mono ?_; rintro e w' ⟨rfl, rfl⟩) | (go_at_call 36; refine (compared_any _ _ _ _).mono ?_; rintro e w' ⟨rfl, rfl⟩) | (go_at_call 37; refine (joined_any _ _ _ _).mono ?_; rintro e w' ⟨rfl, rfl⟩))
      go_ret2
      exact ⟨rfl, rfl⟩
    · have hd : doN 13 a b c = (bn (cmpB 13 a b), 0) := by simp [doN, ht]
      rw [hd]
      clear hd
      go_enter Try.func15, Try.ntmps15
      go_wp2_with (first | (go_at_call 19; refine (operands_any _ _).mono ?_; rintro e w' ⟨rfl, rfl⟩) | (go_at_call 33; refine (taken_any _ _ _ _ _).mono ?_; rintro e w' ⟨rfl, rfl⟩) | (go_at_call 35; refine (number_any _ _).mono ?_; rintro e w' ⟨rfl, rfl⟩) | (go_at_call 36; refine (compared_any _ _ _ _).mono ?_; rintro e w' ⟨rfl, rfl⟩) | (go_at_call 37; refine (joined_any _ _ _ _).mono ?_; rintro e w' ⟨rfl, rfl⟩))
      go_ret2
      exact ⟨rfl, rfl⟩
    · have hd : doN 14 a b c = reck 14 a b := by simp [doN, ht]
      rw [hd]
      have hbb := taken_two ht
      obtain ⟨ha, hb⟩ := hbb
      have HR := Lib.hid (reckoned_any 14 a b w ha (fun _ => hb) (by omega))
      clear ha hb hd
      go_enter Try.func15, Try.ntmps15
      go_wp2_with (first | (go_at_call 19; refine (operands_any _ _).mono ?_; rintro e w' ⟨rfl, rfl⟩) | (go_at_call 33; refine (taken_any _ _ _ _ _).mono ?_; rintro e w' ⟨rfl, rfl⟩) | (go_at_call 35; refine (number_any _ _).mono ?_; rintro e w' ⟨rfl, rfl⟩) | (go_at_call 36; refine (compared_any _ _ _ _).mono ?_; rintro e w' ⟨rfl, rfl⟩) | (go_at_call 37; refine (joined_any _ _ _ _).mono ?_; rintro e w' ⟨rfl, rfl⟩) | (go_at_call 34; refine HR.out.mono ?_; rintro e w' ⟨rfl, rfl⟩))
      go_ret2
      exact ⟨rfl, rfl⟩
    · have hd : doN 15 a b c = reck 15 a b := by simp [doN, ht]
      rw [hd]
      have hbb := taken_two ht
      obtain ⟨ha, hb⟩ := hbb
      have HR := Lib.hid (reckoned_any 15 a b w ha (fun _ => hb) (by omega))
      clear ha hb hd
      go_enter Try.func15, Try.ntmps15
      go_wp2_with (first | (go_at_call 19; refine (operands_any _ _).mono ?_; rintro e w' ⟨rfl, rfl⟩) | (go_at_call 33; refine (taken_any _ _ _ _ _).mono ?_; rintro e w' ⟨rfl, rfl⟩) | (go_at_call 35; refine (number_any _ _).mono ?_; rintro e w' ⟨rfl, rfl⟩) | (go_at_call 36; refine (compared_any _ _ _ _).mono ?_; rintro e w' ⟨rfl, rfl⟩) | (go_at_call 37; refine (joined_any _ _ _ _).mono ?_; rintro e w' ⟨rfl, rfl⟩) | (go_at_call 34; refine HR.out.mono ?_; rintro e w' ⟨rfl, rfl⟩))
      go_ret2
      exact ⟨rfl, rfl⟩
    · have hd : doN 16 a b c = reck 16 a b := by simp [doN, ht]
      rw [hd]
      have hbb := taken_two ht
      obtain ⟨ha, hb⟩ := hbb
      have HR := Lib.hid (reckoned_any 16 a b w ha (fun _ => hb) (by omega))
      clear ha hb hd
      go_enter Try.func15, Try.ntmps15
      go_wp2_with (first | (go_at_call 19; refine (operands_any _ _).mono ?_; rintro e w' ⟨rfl, rfl⟩) | (go_at_call 33; refine (taken_any _ _ _ _ _).mono ?_; rintro e w' ⟨rfl, rfl⟩) | (go_at_call 35; refine (number_any _ _).mono ?_; rintro e w' ⟨rfl, rfl⟩) | (go_at_call 36; refine (compared_any _ _ _ _).mono ?_; rintro e w' ⟨rfl, rfl⟩) | (go_at_call 37; refine (joined_any _ _ _ _).mono ?_; rintro e w' ⟨rfl, rfl⟩) | (go_at_call 34; refine HR.out.mono ?_; rintro e w' ⟨rfl, rfl⟩))
      go_ret2
      exact ⟨rfl, rfl⟩
    · have hd : doN 17 a b c = reck 17 a b := by simp [doN, ht]
      rw [hd]
      have hbb := taken_two ht
      obtain ⟨ha, hb⟩ := hbb
      have HR := Lib.hid (reckoned_any 17 a b w ha (fun _ => hb) (by omega))
      clear ha hb hd
      go_enter Try.func15, Try.ntmps15
      go_wp2_with (first | (go_at_call 19; refine (operands_any _ _).mono ?_; rintro e w' ⟨rfl, rfl⟩) | (go_at_call 33; refine (taken_any _ _ _ _ _).mono ?_; rintro e w' ⟨rfl, rfl⟩) | (go_at_call 35; refine (number_any _ _).mono ?_; rintro e w' ⟨rfl, rfl⟩) | (go_at_call 36; refine (compared_any _ _ _ _).mono ?_; rintro e w' ⟨rfl, rfl⟩) | (go_at_call 37; refine (joined_any _ _ _ _).mono ?_; rintro e w' ⟨rfl, rfl⟩) | (go_at_call 34; refine HR.out.mono ?_; rintro e w' ⟨rfl, rfl⟩))
      go_ret2
      exact ⟨rfl, rfl⟩
    · have hd : doN 18 a b c = reck 18 a b := by simp [doN, ht]
      rw [hd]
      have hbb := taken_two ht
      obtain ⟨ha, hb⟩ := hbb
      have HR := Lib.hid (reckoned_any 18 a b w ha (fun _ => hb) (by omega))
      clear ha hb hd
      go_enter Try.func15, Try.ntmps15
      go_wp2_with (first | (go_at_call 19; refine (operands_any _ _).mono ?_; rintro e w' ⟨rfl, rfl⟩) | (go_at_call 33; refine (taken_any _ _ _ _ _).mono ?_; rintro e w' ⟨rfl, rfl⟩) | (go_at_call 35; refine (number_any _ _).mono ?_; rintro e w' ⟨rfl, rfl⟩) | (go_at_call 36; refine (compared_any _ _ _ _).mono ?_; rintro e w' ⟨rfl, rfl⟩) | (go_at_call 37; refine (joined_any _ _ _ _).mono ?_; rintro e w' ⟨rfl, rfl⟩) | (go_at_call 34; refine HR.out.mono ?_; rintro e w' ⟨rfl, rfl⟩))
      go_ret2
      exact ⟨rfl, rfl⟩
    · have hd : doN 4 a b c = (bn (joinB 4 (a != 0) (b != 0)), 0) := by simp [doN, ht]
      rw [hd]
      clear hd
      go_enter Try.func15, Try.ntmps15
      go_wp2_with (first | (go_at_call 19; refine (operands_any _ _).mono ?_; rintro e w' ⟨rfl, rfl⟩) | (go_at_call 33; refine (taken_any _ _ _ _ _).mono ?_; rintro e w' ⟨rfl, rfl⟩) | (go_at_call 35; refine (number_any _ _).mono ?_; rintro e w' ⟨rfl, rfl⟩) | (go_at_call 36; refine (compared_any _ _ _ _).mono ?_; rintro e w' ⟨rfl, rfl⟩) | (go_at_call 37; refine (joined_any _ _ _ _).mono ?_; rintro e w' ⟨rfl, rfl⟩))
      go_ret2
      exact ⟨rfl, rfl⟩
    · have hd : doN 5 a b c = reck 5 a b := by simp [doN, ht]
      rw [hd]
      have HR := Lib.hid (reckoned_any 5 a b w (taken_one ht) (fun h => absurd rfl h) (by omega))
      clear hd
      go_enter Try.func15, Try.ntmps15
      go_wp2_with (first | (go_at_call 19; refine (operands_any _ _).mono ?_; rintro e w' ⟨rfl, rfl⟩) | (go_at_call 33; refine (taken_any _ _ _ _ _).mono ?_; rintro e w' ⟨rfl, rfl⟩) | (go_at_call 35; refine (number_any _ _).mono ?_; rintro e w' ⟨rfl, rfl⟩) | (go_at_call 36; refine (compared_any _ _ _ _).mono ?_; rintro e w' ⟨rfl, rfl⟩) | (go_at_call 37; refine (joined_any _ _ _ _).mono ?_; rintro e w' ⟨rfl, rfl⟩) | (go_at_call 34; refine HR.out.mono ?_; rintro e w' ⟨rfl, rfl⟩))
      go_ret2
      exact ⟨rfl, rfl⟩
    · rw [taken_none hno] at ht; cases ht
  · have e : doN op a b c = (0, 1) := by simp [doN, ht]
    rw [e]
    go_enter Try.func15, Try.ntmps15
    go_wp2_with (first | (go_at_call 19; refine (operands_any _ _).mono ?_; rintro e w' ⟨rfl, rfl⟩) | (go_at_call 33; refine (taken_any _ _ _ _ _).mono ?_; rintro e w' ⟨rfl, rfl⟩))
    go_ret2
    exact ⟨rfl, rfl⟩
end Go.Proofs.Ytgligmdkikbdoaa.Num
