/- The functions 'taken', 'reckoned', 'number', 'compared' and 'joined' of layer num return what the plain functions of NumM say, and leave memory alone. Conditions: none, but of 'reckoned': its operands have 32 bits. -/
import Derived.Test.YtgligmdkikbdoaaNumA
namespace Go.Proofs.Ytgligmdkikbdoaa.Num
open Go.ChangeShapes Go.WideShapes Go.ChangeAt Go.RowKit
set_option linter.unusedVariables false

theorem taken_any (n a b c : Int) (w : World) :
    Calls Try.prog 33 #[.int .i64 n, .int .i64 a, .int .i64 b, .int .i64 c] w fun e w' => e = .returned (.bool (takenB n a b c)) ∧ w = w' := by
  have hn : n = 3 ∨ n = 2 ∨ n = 1 ∨ (n ≠ 3 ∧ n ≠ 2 ∧ n ≠ 1) := by omega
  rcases hn with rfl | rfl | rfl | ⟨h1, h2, h3⟩
  · have e : takenB 3 a b c = (fitB c && fitB b && fitB a) := by simp [takenB]
    rw [e]
    rcases Bool.eq_false_or_eq_true (fitB c) with hc | hc <;> rcases Bool.eq_false_or_eq_true (fitB b) with hb | hb <;> rcases Bool.eq_false_or_eq_true (fitB a) with ha | ha
    all_goals
      go_enter Try.func33, Try.ntmps33
      go_wp2_with (go_at_call 17; refine (Fits_any _ _).mono ?_; rintro e w' ⟨rfl, rfl⟩)
      go_ret
      exact ⟨by simp [hc, hb, ha], rfl⟩
  · have e : takenB 2 a b c = (fitB b && fitB a) := by simp [takenB]
    rw [e]
    rcases Bool.eq_false_or_eq_true (fitB b) with hb | hb <;> rcases Bool.eq_false_or_eq_true (fitB a) with ha | ha
    all_goals
      go_enter Try.func33, Try.ntmps33
      go_wp2_with (go_at_call 17; refine (Fits_any _ _).mono ?_; rintro e w' ⟨rfl, rfl⟩)
      go_ret
      exact ⟨by simp [hb, ha], rfl⟩
  · have e : takenB 1 a b c = fitB a := by simp [takenB]
    rw [e]
    go_enter Try.func33, Try.ntmps33
    go_wp2_with (go_at_call 17; refine (Fits_any _ _).mono ?_; rintro e w' ⟨rfl, rfl⟩)
    go_ret
    exact ⟨rfl, rfl⟩
  · have e : takenB n a b c = false := by simp [takenB, h1, h2, h3]
    rw [e]
    go_enter Try.func33, Try.ntmps33
    go_wp2
    go_ret
    exact ⟨rfl, rfl⟩

theorem number_any (b : Bool) (w : World) :
    Calls Try.prog 35 #[.bool b] w fun e w' => e = .returned (.int .i64 (bn b)) ∧ w = w' := by
  cases b
  all_goals
    go_enter Try.func35, Try.ntmps35
    go_wp2
    go_ret
    exact ⟨rfl, rfl⟩

theorem compared_any (op a b : Int) (w : World) :
    Calls Try.prog 36 #[.int .i64 op, .int .i64 a, .int .i64 b] w fun e w' => e = .returned (.bool (cmpB op a b)) ∧ w = w' := by
  have hn : op = 10 ∨ op = 11 ∨ op = 12 ∨ (op ≠ 10 ∧ op ≠ 11 ∧ op ≠ 12) := by omega
  rcases hn with rfl | rfl | rfl | ⟨h1, h2, h3⟩
  case inr.inr.inr =>
    have e : cmpB op a b = decide (a ≤ b) := by unfold cmpB; rw [if_neg h1, if_neg h2, if_neg h3]
    rw [e]
    go_enter Try.func36, Try.ntmps36
    go_wp2
    go_ret
    exact ⟨rfl, rfl⟩
  all_goals
    go_enter Try.func36, Try.ntmps36
    go_wp2
    go_ret
    exact ⟨rfl, rfl⟩

theorem joined_any (op : Int) (a b : Bool) (w : World) :
    Calls Try.prog 37 #[.int .i64 op, .bool a, .bool b] w fun e w' => e = .returned (.bool (joinB op a b)) ∧ w = w' := by
  have hn : op = 9 ∨ op = 7 ∨ op = 4 ∨ op = 8 ∨ (op ≠ 9 ∧ op ≠ 7 ∧ op ≠ 4 ∧ op ≠ 8) := by omega
  rcases hn with rfl | rfl | rfl | rfl | ⟨h1, h2, h3, h4⟩
  case inr.inr.inr.inr =>
    have e : joinB op a b = (a && b) := by unfold joinB; rw [if_neg h1, if_neg h2, if_neg h3, if_neg h4]
    rw [e]
    cases a <;> cases b
    all_goals
      go_enter Try.func37, Try.ntmps37
      go_wp2
      go_ret
      exact ⟨rfl, rfl⟩
  all_goals
    cases a <;> cases b
    all_goals
      go_enter Try.func37, Try.ntmps37
      go_wp2
      go_ret
      exact ⟨rfl, rfl⟩

theorem ret_two {a b c d : Int} (h : (a, b) = (c, d)) : Ending.returned (.tuple #[.int .i64 a, .int .i64 b]) = .returned (.tuple #[.int .i64 c, .int .i64 d]) := by
  obtain ⟨rfl, rfl⟩ := Prod.mk.inj h; rfl

theorem mul_bd {a b : Int} (ha : -2147483648 ≤ a ∧ a ≤ 2147483647) (hb : -2147483648 ≤ b ∧ b ≤ 2147483647) : -4611686018427387904 ≤ a * b ∧ a * b ≤ 4611686018427387904 := by
  have h1 : a.natAbs ≤ 2147483648 := by omega
  have h2 : b.natAbs ≤ 2147483648 := by omega
  have h3 : (a * b).natAbs ≤ 2147483648 * 2147483648 := by rw [Int.natAbs_mul]; exact Nat.mul_le_mul h1 h2
  omega

theorem div_bd {a b : Int} (ha : -2147483648 ≤ a ∧ a ≤ 2147483647) : -2147483648 ≤ a.tdiv b ∧ a.tdiv b ≤ 2147483648 := by
  have h3 : (a.tdiv b).natAbs ≤ a.natAbs := by rw [Int.natAbs_tdiv]; exact Nat.div_le_self _ _
  omega

theorem mod_bd {a b : Int} (ha : -2147483648 ≤ a ∧ a ≤ 2147483647) : -2147483648 ≤ a.tmod b ∧ a.tmod b ≤ 2147483648 := by
  have h3 : (a.tmod b).natAbs ≤ a.natAbs := by rw [Int.natAbs_tmod]; exact Nat.mod_le _ _
  omega

theorem reckoned_any (op a b : Int) (w : World) (ha : -2147483648 ≤ a ∧ a ≤ 2147483647) (hb : op ≠ 5 → -2147483648 ≤ b ∧ b ≤ 2147483647) (hn : op = 5 ∨ op = 15 ∨ op = 14 ∨ op = 16 ∨ op = 17 ∨ op = 18) :
    Calls Try.prog 34 #[.int .i64 op, .int .i64 a, .int .i64 b] w fun e w' => e = .returned (.tuple #[.int .i64 (reck op a b).1, .int .i64 (reck op a b).2]) ∧ w = w' := by
  rcases hn with rfl | hn
  · clear hb
    obtain ⟨ha1, ha2⟩ := ha
    rcases Bool.eq_false_or_eq_true (fitB (-a)) with hf | hf <;> rcases Bool.eq_false_or_eq_true (b == 0) with h0 | h0
    all_goals
      have e : reck 5 a b = over (-a) := by simp [reck]
      rw [e]; unfold over; rw [hf]
      go_enter Try.func34, Try.ntmps34
      go_wp2_with (go_at_call 41; refine (fits_any _ _).mono ?_; rintro e w' ⟨rfl, rfl⟩)
      go_ret2
      exact ⟨rfl, rfl⟩
  have hb := hb (by omega)
  obtain ⟨mb1, mb2⟩ := mul_bd ha hb
  obtain ⟨db1, db2⟩ := div_bd (b := b) ha
  obtain ⟨rb1, rb2⟩ := mod_bd (b := b) ha
  obtain ⟨ha1, ha2⟩ := ha
  obtain ⟨hb1, hb2⟩ := hb
  rcases hn with rfl | rfl | rfl | rfl | rfl
  · rcases Bool.eq_false_or_eq_true (fitB (a + -b)) with hf | hf <;> rcases Bool.eq_false_or_eq_true (b == 0) with h0 | h0
    all_goals
      have e : reck 15 a b = over (a + -b) := by simp [reck, Int.sub_eq_add_neg]
      rw [e]; unfold over; rw [hf]
      go_enter Try.func34, Try.ntmps34
      go_wp2_with (go_at_call 41; refine (fits_any _ _).mono ?_; rintro e w' ⟨rfl, rfl⟩)
      go_ret2
      exact ⟨rfl, rfl⟩
  · rcases Bool.eq_false_or_eq_true (fitB (a + b)) with hf | hf <;> rcases Bool.eq_false_or_eq_true (b == 0) with h0 | h0
    all_goals
      have e : reck 14 a b = over (a + b) := by simp [reck]
      rw [e]; unfold over; rw [hf]
      go_enter Try.func34, Try.ntmps34
      go_wp2_with (go_at_call 41; refine (fits_any _ _).mono ?_; rintro e w' ⟨rfl, rfl⟩)
      go_ret2
      exact ⟨rfl, rfl⟩
  · rcases Bool.eq_false_or_eq_true (fitB (a * b)) with hf | hf <;> rcases Bool.eq_false_or_eq_true (b == 0) with h0 | h0
    all_goals
      have e : reck 16 a b = over (a * b) := by simp [reck]
      rw [e]; unfold over; rw [hf]
      go_enter Try.func34, Try.ntmps34
      go_wp2_with (go_at_call 41; refine (fits_any _ _).mono ?_; rintro e w' ⟨rfl, rfl⟩)
      go_ret2
      exact ⟨rfl, rfl⟩
  · by_cases h0 : b = 0
    · have e : reck 17 a b = (0, 3) := by simp [reck, h0]
      rw [e]
      go_enter Try.func34, Try.ntmps34
      go_wp2
      go_ret2
      exact ⟨rfl, rfl⟩
    · rcases Bool.eq_false_or_eq_true (fitB (a.tdiv b)) with hf | hf
      all_goals
        have e : reck 17 a b = over (a.tdiv b) := by simp [reck, h0]
        rw [e]; unfold over; rw [hf]
        go_enter Try.func34, Try.ntmps34
        go_wp2_with (go_at_call 41; refine (fits_any _ _).mono ?_; rintro e w' ⟨rfl, rfl⟩)
        go_ret2
        exact ⟨rfl, rfl⟩
  · by_cases h0 : b = 0
    · have e : reck 18 a b = (0, 3) := by simp [reck, h0]
      rw [e]
      go_enter Try.func34, Try.ntmps34
      go_wp2
      go_ret2
      exact ⟨rfl, rfl⟩
    · rcases Bool.eq_false_or_eq_true (fitB (a.tmod b)) with hf | hf
      all_goals
        have e : reck 18 a b = over (a.tmod b) := by simp [reck, h0]
        rw [e]; unfold over; rw [hf]
        go_enter Try.func34, Try.ntmps34
        go_wp2_with (go_at_call 41; refine (fits_any _ _).mono ?_; rintro e w' ⟨rfl, rfl⟩)
        go_ret2
        exact ⟨rfl, rfl⟩
end Go.Proofs.Ytgligmdkikbdoaa.Num
