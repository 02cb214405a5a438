/- The document's number of a word. Conditions: none. -/
import Derived.Test.YtgngdkbcndldfaaDoorFaC
namespace Go.Proofs.YtgngdkbcndldfaaDoor.Fr
open Go.ChangeShapes Go.WideShapes Go.ChangeAt Go.RowKit Go.Proofs.YtgngdkbcndldfaaDoor.Tr
set_option linter.unusedVariables false
set_option linter.unusedSimpArgs false

theorem sizeM_no {S : Bs} (h : S = [] ∨ 10 < S.length ∨ (S.head? = some 48 ∧ 1 < S.length)) : sizeM S = -1 := by unfold sizeM; rw [if_pos h]
theorem sizeM_yes {S : Bs} (h : ¬ (S = [] ∨ 10 < S.length ∨ (S.head? = some 48 ∧ 1 < S.length))) : sizeM S = digitsM 0 S := by unfold sizeM; rw [if_neg h]
theorem digitsM_bad {m : Nat} {S : Bs} {i : Nat} (hi : i < S.length) (h : ¬ (48 ≤ (S[i]'hi).toNat ∧ (S[i]'hi).toNat ≤ 57)) : digitsM m (S.drop i) = -1 := by
  rw [List.drop_eq_getElem_cons hi]; simp only [digitsM]; rw [if_neg h]
theorem digitsM_step {m : Nat} {S : Bs} {i : Nat} (hi : i < S.length) (h : 48 ≤ (S[i]'hi).toNat ∧ (S[i]'hi).toNat ≤ 57) : digitsM m (S.drop i) = digitsM (10 * m + ((S[i]'hi).toNat - 48)) (S.drop (i + 1)) := by
  rw [List.drop_eq_getElem_cons hi]; simp only [digitsM]; rw [if_pos h]

set_option maxRecDepth 100000 in
set_option maxHeartbeats 1600000 in
theorem dsize_any (w : World) (S : Bs) (hS : S.length ≤ 1000000) :
    Calls Tryd.prog 44 #[.string (bs S)] w (fun e w' => e = .returned (.int .i64 (sizeM S)) ∧ w' = w) := by
  obtain ⟨n, hn⟩ : ∃ n, S.length = n := ⟨_, rfl⟩
  have HN := Lib.hid hn
  have hsz : (bs S).size = n := by rw [bs_size, hn]
  rw [hn] at hS
  clear hn
  have hl := bs_list S
  by_cases h0 : S = []
  · have HM := Lib.hid (sizeM_no (.inl h0))
    rw [HM.out]
    have he : (bs S).toList.isEmpty = true := by rw [hl, h0]; rfl
    clear hl h0
    go_enter Tryd.func44, Tryd.ntmps44
    go_wp2
    go_ret
    exact ⟨rfl, rfl⟩
  have he : (bs S).toList.isEmpty = false := by rw [hl]; cases S with | nil => exact absurd rfl h0 | cons a b => rfl
  have hn1 : 1 ≤ n := by rw [← HN.out]; exact List.length_pos_iff.2 h0
  by_cases h10 : 10 < n
  · have HM := Lib.hid (sizeM_no (S := S) (.inr (.inl (by rw [HN.out]; exact h10))))
    rw [HM.out]
    clear hl h0
    go_enter Tryd.func44, Tryd.ntmps44
    go_wp2
    go_ret
    exact ⟨rfl, rfl⟩
  have h0S : 0 < S.length := by rw [HN.out]; exact hn1
  have hhd : S.head? = some (S[0]'h0S) := by rw [List.head?_eq_getElem?, List.getElem?_eq_getElem h0S]
  by_cases hz : S[0]'h0S = 48 ∧ 1 < n
  · have HM := Lib.hid (sizeM_no (S := S) (.inr (.inr ⟨by rw [hhd, hz.1], by rw [HN.out]; exact hz.2⟩)))
    rw [HM.out]
    have hc : ((((bs S)[0]'(by rw [hsz]; exact hn1)).toNat : Int) == 48) = true := by rw [bs_at S 0 _ h0S, hz.1]; rfl
    have h1n : (1 : Int) < (n : Int) := by have := hz.2; omega
    clear hl h0 hhd hz
    go_enter Tryd.func44, Tryd.ntmps44
    go_wp2
    go_ret
    exact ⟨rfl, rfl⟩
  · have HM := Lib.hid (sizeM_yes (S := S) (by
      rintro (e | e | ⟨e, e'⟩)
      · exact h0 e
      · rw [HN.out] at e; exact h10 e
      · rw [hhd] at e; rw [HN.out] at e'; exact hz ⟨Option.some.inj e, e'⟩))
    rw [HM.out]
    have HLOOP : Hid (∀ (W : World), True) := Lib.hid (fun _ => trivial)
    by_cases hc0 : S[0]'h0S = 48
    · have hc : ((((bs S)[0]'(by rw [hsz]; exact hn1)).toNat : Int) == 48) = true := by rw [bs_at S 0 _ h0S, hc0]; rfl
      have hnn : n = 1 := by by_cases e : 1 < n; exact absurd ⟨hc0, e⟩ hz; omega
      have HD : Hid (digitsM 0 S = 0) := Lib.hid (by
        obtain ⟨c, rfl⟩ : ∃ c, S = [c] := by
          have := HN.out
          rw [hnn] at this
          exact List.length_eq_one_iff.1 this
        have : c = 48 := hc0
        subst this
        rfl)
      rw [HD.out]
      subst hnn
      clear hl h0 hhd hz hc0
      go_enter Tryd.func44, Tryd.ntmps44
      go_wp2
      go_loopw [3, 4] (fun vn vi wr => ∃ (i : Nat), i ≤ 1 ∧ vi = .int .i64 (i : Int) ∧ vn = .int .i64 0 ∧ wr = w) (fun _ vi _ => 1 - (intOf vi).toNat)
      case atStart => exact ⟨0, Nat.zero_le _, rfl, rfl, rfl⟩
      case round =>
        obtain ⟨i, hi, rfl, rfl, rfl⟩ := hrel
        by_cases hi0 : i = 0
        · subst hi0
          have hcn : ((bs S)[0]'(by rw [hsz]; exact hn1)).toNat = 48 := by have := eq_of_beq hc; omega
          go_wp2
          refine ⟨⟨1, by omega, by go_num, by go_num, by first | rfl | trivial⟩, by simp [intOf]⟩
        · obtain rfl : i = 1 := by omega
          go_wp2
          go_ret
          exact ⟨rfl, rfl⟩
    · have hc : ((((bs S)[0]'(by rw [hsz]; exact hn1)).toNat : Int) == 48) = false := by
        rw [bs_at S 0 _ h0S]
        have := byte_is (S[0]'h0S) 48
        rw [show ((48 : UInt8).toNat : Int) = 48 from rfl] at this
        rw [this]; exact decide_eq_false hc0
      clear hl h0 hhd hz hc0
      go_enter Tryd.func44, Tryd.ntmps44
      go_wp2
      go_loopw [3, 4] (fun vn vi wr => ∃ (i m : Nat), i ≤ n ∧ vi = .int .i64 (i : Int) ∧ vn = .int .i64 (m : Int) ∧ wr = w ∧ digitsM 0 S = digitsM m (S.drop i) ∧ m < 10 ^ i) (fun _ vi _ => n - (intOf vi).toNat)
      case atStart => exact ⟨0, 0, Nat.zero_le _, rfl, rfl, rfl, by simp, by simp⟩
      case round =>
        obtain ⟨i, m, hi, rfl, rfl, rfl, hd, hm⟩ := hrel
        have HD := Lib.hid hd
        have hm10 : m < 10000000000 := Nat.lt_of_lt_of_le hm (by
          have : (10 : Nat) ^ i ≤ 10 ^ 10 := Nat.pow_le_pow_right (by omega) (by omega)
          exact this)
        have HM10 := Lib.hid hm
        clear hd hm
        by_cases hlt : i < n
        · have hiS : i < S.length := by rw [HN.out]; exact hlt
          obtain ⟨c, hcS⟩ : ∃ c : Nat, (S[i]'hiS).toNat = c := ⟨_, rfl⟩
          have hci : ((bs S)[i]'(by rw [hsz]; exact hlt)).toNat = c := hcS
          by_cases hok : 48 ≤ c ∧ c ≤ 57
          · obtain ⟨hc1, hc2⟩ := hok
            have HS := Lib.hid (digitsM_step (m := m) hiS (by rw [hcS]; exact ⟨hc1, hc2⟩))
            rw [hcS] at HS
            have hP : Hid (10 * m + (c - 48) < 10 ^ (i + 1)) := Lib.hid (by rw [Nat.pow_succ]; have := HM10.out; omega)
            clear hcS
            go_wp2
            refine ⟨⟨i + 1, 10 * m + (c - 48), by omega, by go_num, ?_, by first | rfl | trivial, by rw [HD.out, HS.out], hP.out⟩, by simp [intOf]; omega⟩
            simp only [Value.int.injEq, true_and]
            omega
          · have HS := Lib.hid (digitsM_bad (m := m) hiS (by rw [hcS]; exact hok))
            have HR : Hid (digitsM 0 S = -1) := Lib.hid (by rw [HD.out, HS.out])
            by_cases hc1 : 48 ≤ c
            · have hc2 : ¬ c ≤ 57 := fun h => hok ⟨hc1, h⟩
              clear hcS hok
              go_wp2
              go_ret
              exact ⟨ret_int HR.out.symm, rfl⟩
            · clear hcS hok
              go_wp2
              go_ret
              exact ⟨ret_int HR.out.symm, rfl⟩
        · obtain rfl : i = n := by omega
          have HE : Hid (digitsM 0 S = m) := Lib.hid (by rw [HD.out, List.drop_eq_nil_of_le (by rw [HN.out]; exact Nat.le_refl _)]; rfl)
          go_wp2
          go_ret
          exact ⟨ret_int HE.out.symm, rfl⟩
end Go.Proofs.YtgngdkbcndldfaaDoor.Fr
