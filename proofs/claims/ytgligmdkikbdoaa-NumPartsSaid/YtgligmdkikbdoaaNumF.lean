/- 'bit' of layer num's statements tells whether a number is not 0. Conditions: none. -/
import Derived.Test.YtgligmdkikbdoaaNumD
import Derived.Test.YtgligmdkikbdoaaNumE
namespace Go.Proofs.Ytgligmdkikbdoaa.Num
open Go.ChangeShapes Go.WideShapes Go.ChangeAt Go.RowKit
set_option linter.unusedVariables false

def bitN (n : Int) : Int := if n = 0 then 0 else 1

theorem bit_any (n : Int) (w : World) : Calls Try.prog 22 #[.int .i64 n] w fun e w' => e = .returned (.int .i64 (bitN n)) ∧ w = w' := by
  by_cases h : n = 0
  · subst h
    go_enter Try.func22, Try.ntmps22
    go_wp2
    go_ret
    exact ⟨rfl, rfl⟩
  · have e : bitN n = 1 := by simp [bitN, h]
    rw [e]
    go_enter Try.func22, Try.ntmps22
    go_wp2
    go_ret
    exact ⟨rfl, rfl⟩

theorem join_val {op a b : Int} {x y : Bool} (h : opN op = 2) (h2 : op = 6 ∨ op = 7 ∨ op = 8 ∨ op = 9) (fa : fitB a = true) (fb : fitB b = true) (hx : (a != 0) = x) (hy : (b != 0) = y) : doN op a b 0 = (bn (joinB op x y), 0) := by
  rw [do_join h h2 fa fb, hx, hy]

theorem or_imp {a b : Int} (fa : fitB a = true) (fb : fitB b = true) : doN 7 (doN 4 a 0 0).1 b 0 = doN 9 a b 0 := by
  rw [do_not fa]
  by_cases h : a = 0
  · subst h
    rw [join_val (x := true) rfl (by simp) (by decide) fb (by decide) rfl, join_val (x := false) rfl (by simp) fa fb (by decide) rfl]
    cases (b != 0) <;> rfl
  · have e : (a == 0) = false := by simp [h]
    rw [e, join_val (x := false) rfl (by simp) (by decide) fb (by decide) rfl, join_val (x := true) rfl (by simp) fa fb (by simp [h]) rfl]
    cases (b != 0) <;> rfl

theorem sub_zero_neg {a : Int} (fa : fitB a = true) : doN 15 0 a 0 = doN 5 a 0 0 := by
  rw [do_neg fa, do_reck rfl (by simp) (by decide) fa]; simp [reck]

theorem add_of {a b : Int} (fa : fitB a = true) (fb : fitB b = true) : (doN 14 a b 0 = (a + b, 0) ∧ doN 15 (a + b) b 0 = (a, 0)) ∨ doN 14 a b 0 = (0, 2) := by
  rw [do_reck (op := 14) rfl (by simp) fa fb]
  rcases Bool.eq_false_or_eq_true (fitB (a + b)) with h | h
  · left; rw [do_reck rfl (by simp) h fb]
    have e : a + b - b = a := by omega
    simp [reck, over, h, e, fa]
  · right; simp [reck, over, h]

/-- What division of numbers that fit is, where the divisor is not 0. -/
theorem parts_of {a b : Int} (fa : fitB a = true) (fb : fitB b = true) (hb : b ≠ 0) :
    (a = -2147483648 ∧ b = -1) ∨ ∃ q r : Int, doN 17 a b 0 = (q, 0) ∧ doN 18 a b 0 = (r, 0) ∧ q * b + r = a ∧ (-2147483648 ≤ q ∧ q ≤ 2147483647) ∧ r.natAbs < b.natAbs ∧ (r < 0 → a < 0) ∧ (0 < r → 0 < a) := by
  by_cases hx : a = -2147483648 ∧ b = -1
  · exact .inl hx
  · right
    have ha' := fit_iff.1 fa
    have hb' := fit_iff.1 fb
    have hq : (a.tdiv b).natAbs = a.natAbs / b.natAbs := Int.natAbs_tdiv ..
    have hr : (a.tmod b).natAbs = a.natAbs % b.natAbs := Int.natAbs_tmod ..
    have hr2 : (a.tmod b).natAbs < b.natAbs := by rw [hr]; exact Nat.mod_lt _ (by omega)
    have hq2 : (a.tdiv b).natAbs ≤ a.natAbs := by rw [hq]; exact Nat.div_le_self _ _
    have hs : a.tdiv b * b + a.tmod b = a := by have := Int.mul_tdiv_add_tmod a b; rw [Int.mul_comm]; exact this
    have hqf : -2147483648 ≤ a.tdiv b ∧ a.tdiv b ≤ 2147483647 := by
      refine ⟨by omega, ?_⟩
      by_cases h1 : b.natAbs = 1
      · have hc : b = 1 ∨ b = -1 := by omega
        rcases hc with rfl | rfl
        · rw [Int.tdiv_one]; omega
        · rw [Int.tdiv_neg, Int.tdiv_one]; omega
      · have h2 : (a.tdiv b).natAbs ≤ a.natAbs / 2 := by rw [hq]; exact Nat.div_le_div_left (by omega) (by omega)
        omega
    have f17 := fit_yes hqf
    have f18 : fitB (a.tmod b) = true := fit_yes (by omega)
    refine ⟨a.tdiv b, a.tmod b, ?_, ?_, hs, hqf, hr2, ?_, ?_⟩
    · rw [do_reck rfl (by simp) fa fb]; simp [reck, over, hb, f17]
    · rw [do_reck rfl (by simp) fa fb]; simp [reck, over, hb, f18]
    · intro h
      by_cases h0 : 0 ≤ a
      · have := Int.tmod_nonneg b h0; omega
      · omega
    · intro h
      by_cases h0 : a ≤ 0
      · have := Int.tmod_nonneg b (a := -a) (by omega); rw [Int.neg_tmod] at this; omega
      · omega
end Go.Proofs.Ytgligmdkikbdoaa.Num
