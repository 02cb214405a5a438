/- The document's text of a number, and whether a number may be. Conditions: as each says. -/
import Derived.Test.YtgngdkbcndldfaaDoorFaE
namespace Go.Proofs.YtgngdkbcndldfaaDoor.Fr
open Go.ChangeShapes Go.WideShapes Go.ChangeAt Go.RowKit Go.Proofs.YtgngdkbcndldfaaDoor.Tr
set_option linter.unusedVariables false
set_option linter.unusedSimpArgs false

theorem add_bs (x y : Bs) (w : World) (h : x.length + y.length ≤ 10000000) : (binOp .add 9 (.string (bs x)) (.string (bs y))).run Tryd.prog w = .ok (.string (bs (x ++ y))) w := by
  have h2 : (bs x).size + (bs y).size ≤ 9223372036854775807 := by rw [bs_size, bs_size]; omega
  simp [go_sem, h2, bs_app]
theorem ret_app (x y : Bs) : Ending.returned (.string (bs x ++ bs y)) = .returned (.string (bs (x ++ y))) := by rw [bs_app]
theorem dec_lt {n : Nat} (h : n < 10) : Lib.decDigits n = [UInt8.ofNat (48 + n)] := Lib.decDigits_one h
theorem dec_ge {n : Nat} (h : ¬ n < 10) : Lib.decDigits n = Lib.decDigits (n / 10) ++ [UInt8.ofNat (48 + n % 10)] := by rw [Lib.decDigits, dif_neg h]
set_option maxRecDepth 100000 in
set_option maxHeartbeats 800000 in
theorem digits_any : ∀ (n : Nat), n ≤ 2147483648 → ∀ w : World, Calls Tryd.prog 41 #[.int .i64 (n : Int)] w fun e w' => e = .returned (.string (bs (Lib.decDigits n))) ∧ Below w.heap.size w w' := by
  intro n
  induction n using Nat.strongRecOn with
  | ind n ih =>
    intro hn w
    have hr : Int.tmod (n : Int) 10 = ((n % 10 : Nat) : Int) := by rw [Int.tmod_eq_emod_of_nonneg (by omega)]; omega
    have hq : Int.tdiv (n : Int) 10 = ((n / 10 : Nat) : Int) := by rw [Int.tdiv_eq_ediv_of_nonneg (by omega)]; omega
    obtain ⟨m, hm⟩ : ∃ m, n % 10 = m := ⟨_, rfl⟩
    have hm10 : m < 10 := by omega
    rw [hm] at hr
    have hw1 : wrap64 (48 + (m : Int)) = 48 + (m : Int) := by unfold wrap64; omega
    have hbt : ((UInt8.ofNat (48 + m)).toNat : Int) = 48 + (m : Int) := by rw [dig_byte m hm10]; omega
    have hcv := run_convert_bytes_back (P := Tryd.prog) (w.alloc (.cells #[.int .u8 (48 + (m : Int))] 5)) 48 9 5 ⟨w.heap.size, 0, none⟩ 1 [UInt8.ofNat (48 + m)] Tryd.underlying48 Tryd.underlying5 Tryd.underlying9 (fun j hj => by
      have : j = 0 := by simpa using hj
      subst this
      show _ = some (Value.int .u8 ((UInt8.ofNat (48 + m)).toNat : Int))
      rw [hbt]
      have e0 : ((⟨w.heap.size, 0, none⟩ : Addr).add 0) = ⟨w.heap.size, 0, none⟩ := by unfold Addr.add; split <;> simp_all
      rw [e0, World.cell?_alloc_new]; rfl)
    rw [List.length_singleton] at hcv
    have hcv2 : (convert 48 9 (.slice (some ⟨w.heap.size, 0, none⟩) 1 1)).run Tryd.prog (w.alloc (.cells #[.int .u8 (48 + (m : Int))] 5)) = .ok (.string (bs [UInt8.ofNat (48 + m)])) (w.alloc (.cells #[.int .u8 (48 + (m : Int))] 5)) := hcv
    obtain ⟨c, hc⟩ : ∃ c, UInt8.ofNat (48 + m) = c := ⟨_, rfl⟩
    rw [hc] at hcv2
    clear hcv hbt
    by_cases h : n < 10
    · have HD := Lib.hid (show Lib.decDigits n = [c] by rw [dec_lt h, ← hc, ← hm, Nat.mod_eq_of_lt h])
      rw [HD.out]
      have hd10 : ¬ (10 : Int) ≤ (n : Int) := by omega
      clear ih hm hc hq
      go_enter Tryd.func41, Tryd.ntmps41
      go_wp2
      go_ret
      exact ⟨rfl, below_new _ _⟩
    · have HD := Lib.hid (show Lib.decDigits n = Lib.decDigits (n / 10) ++ [c] by rw [dec_ge h, ← hc, hm])
      rw [HD.out]
      have hd10 : (10 : Int) ≤ (n : Int) := by omega
      have HR : Hid (∀ w1, Calls Tryd.prog 41 #[.int .i64 ((n / 10 : Nat) : Int)] w1 fun e w' => e = .returned (.string (bs (Lib.decDigits (n / 10)))) ∧ Below w1.heap.size w1 w') := Lib.hid (fun w1 => ih (n / 10) (by omega) (by omega) w1)
      have hlen := dec_len (n / 10) (by omega)
      obtain ⟨D, hD⟩ : ∃ D, Lib.decDigits (n / 10) = D := ⟨_, rfl⟩
      rw [hD] at HR hlen ⊢
      have hadd : ∀ w1, (binOp .add 9 (.string (bs D)) (.string (bs [c]))).run Tryd.prog w1 = .ok (.string (bs (D ++ [c]))) w1 := fun w1 => add_bs D [c] w1 (by simp; omega)
      have hsz : (bs D).size + (bs [c]).size ≤ 9223372036854775807 := by rw [bs_size, bs_size]; simp; omega
      obtain ⟨k, hk⟩ : ∃ k, n / 10 = k := ⟨_, rfl⟩
      have hw2 : wrap64 (k : Int) = (k : Int) := by unfold wrap64; omega
      rw [hk] at HR hq
      clear ih hm hc hD hk
      go_enter Tryd.func41, Tryd.ntmps41
      go_wp2_with fail
      refine (HR.out _).mono ?_
      rintro r w1 ⟨rfl, hb1⟩
      have HB1 := Lib.hid hb1
      clear hb1
      go_wp2
      go_ret
      exact ⟨ret_app _ _, (below_new _ _).trans (HB1.out.mono (below_new w _).size)⟩
theorem text_bool {t : Int} (h : t = 1) (n : Int) : textM t n = if n = 1 then trueB else falseB := by unfold textM; rw [if_pos h]
theorem text_neg {t : Int} (h : t ≠ 1) {n : Int} (hn : n < 0) : textM t n = 45 :: Lib.decDigits n.natAbs := by unfold textM; rw [if_neg h]; unfold Lib.itoa; rw [if_pos hn]
theorem text_nat {t : Int} (h : t ≠ 1) {n : Int} (hn : ¬ n < 0) : textM t n = Lib.decDigits n.toNat := by unfold textM; rw [if_neg h]; unfold Lib.itoa; rw [if_neg hn]
set_option maxRecDepth 100000 in
set_option maxHeartbeats 1600000 in
theorem dtext_any (w : World) (t n : Int) (h : fitsM n = true) : Calls Tryd.prog 27 #[.int .i64 t, .int .i64 n] w (fun e w' => e = .returned (.string (bs (textM t n))) ∧ Below w.heap.size w w') := by
  have hf := (fitsM_iff n).1 h
  by_cases h1 : t = 1
  · subst h1
    have HX := Lib.hid (text_bool rfl n)
    by_cases h2 : n = 1
    · subst h2
      go_enter Tryd.func27, Tryd.ntmps27
      go_wp2
      go_ret
      exact ⟨rfl, Below.refl _ _⟩
    · have hb : (n == 1) = false := beq_eq_false_iff_ne.2 h2
      have HY : Hid (textM 1 n = falseB) := Lib.hid (by rw [HX.out, if_neg h2])
      rw [HY.out]
      clear h2
      go_enter Tryd.func27, Tryd.ntmps27
      go_wp2
      go_ret
      exact ⟨rfl, Below.refl _ _⟩
  · have hb : (t == 1) = false := beq_eq_false_iff_ne.2 h1
    by_cases hn : n < 0
    · have HX := Lib.hid (text_neg h1 hn)
      rw [HX.out]
      obtain ⟨k, hk⟩ : ∃ k : Nat, n.natAbs = k := ⟨_, rfl⟩
      have hnk : n = -(k : Int) := by omega
      rw [hk]
      have hk2 : k ≤ 2147483648 := by omega
      have HC : Hid (∀ W, Calls Tryd.prog 41 #[.int .i64 (k : Int)] W fun e w' => e = .returned (.string (bs (Lib.decDigits k))) ∧ Below W.heap.size W w') := Lib.hid (fun W => digits_any k hk2 W)
      have hlen := dec_len k hk2
      obtain ⟨D, hD⟩ : ∃ D, Lib.decDigits k = D := ⟨_, rfl⟩
      rw [hD] at HC hlen ⊢
      have hw : wrap64 (- n) = (k : Int) := by unfold wrap64; omega
      have hwk : wrap64 (k : Int) = (k : Int) := by unfold wrap64; omega
      have hadd : ∀ w1, (binOp .add 9 (.string (bs [45])) (.string (bs D))).run Tryd.prog w1 = .ok (.string (bs (45 :: D))) w1 := fun w1 => add_bs [45] D w1 (by simp; omega)
      have hadd2 : ∀ w1, (binOp .add 9 (.string ⟨#[45]⟩) (.string (bs D))).run Tryd.prog w1 = .ok (.string (bs (45 :: D))) w1 := hadd
      have hsz : (⟨#[45]⟩ : ByteArray).size + (bs D).size ≤ 9223372036854775807 := by rw [bs_size]; show 1 + _ ≤ _; omega
      have HAP : Hid ((⟨#[45]⟩ : ByteArray) ++ bs D = bs (45 :: D)) := Lib.hid (bs_app [45] D)
      clear hD hf h h1 HX hk
      subst hnk
      go_enter Tryd.func27, Tryd.ntmps27
      go_wp2_with fail
      refine (HC.out _).mono ?_
      rintro e w1 ⟨rfl, hb1⟩
      have HB1 := Lib.hid hb1
      clear hb1
      go_wp2
      refine bodyPost_ret (v := .string (bs (45 :: D))) (by simp [results, Tryd.results27, go_sem, HAP.out]) rfl ⟨rfl, HB1.out⟩
    · have HX := Lib.hid (text_nat h1 hn)
      rw [HX.out]
      obtain ⟨k, hk⟩ : ∃ k : Nat, n = (k : Int) := ⟨n.toNat, by omega⟩
      subst hk
      rw [Int.toNat_natCast]
      have hk2 : k ≤ 2147483648 := by omega
      have HC : Hid (∀ W, Calls Tryd.prog 41 #[.int .i64 (k : Int)] W fun e w' => e = .returned (.string (bs (Lib.decDigits k))) ∧ Below W.heap.size W w') := Lib.hid (fun W => digits_any k hk2 W)
      clear hf h h1
      go_enter Tryd.func27, Tryd.ntmps27
      go_wp2_with fail
      refine (HC.out _).mono ?_
      rintro e w1 ⟨rfl, hb1⟩
      have HB1 := Lib.hid hb1
      clear hb1
      go_wp2
      go_ret
      exact ⟨rfl, HB1.out⟩
set_option maxRecDepth 100000 in
theorem dmay_any (w : World) (t n : Int) : Calls Tryd.prog 26 #[.int .i64 t, .int .i64 n] w (fun e w' => e = .returned (.bool (mayM t n)) ∧ w' = w) := by
  by_cases h2 : t = 2
  · subst h2
    have HM : Hid (mayM 2 n = fitsM n) := Lib.hid (by unfold mayM; simp)
    have HC := Lib.hid (dfits_any n w)
    obtain ⟨f, hf⟩ : ∃ f, fitsM n = f := ⟨_, rfl⟩
    rw [hf] at HM HC
    rw [HM.out]
    clear hf
    go_enter Tryd.func26, Tryd.ntmps26
    go_wp2_with fail
    refine HC.out.mono ?_
    rintro e w1 ⟨rfl, rfl⟩
    cases f
    all_goals
      go_wp2
      go_ret
      exact ⟨rfl, rfl⟩
  · have hb2 : (t == 2) = false := beq_eq_false_iff_ne.2 h2
    by_cases h1 : t = 1
    · subst h1
      obtain ⟨b0, hb0⟩ : ∃ b, (n == 0) = b := ⟨_, rfl⟩
      obtain ⟨b1, hb1⟩ : ∃ b, (n == 1) = b := ⟨_, rfl⟩
      have HM : Hid (mayM 1 n = (b0 || b1)) := Lib.hid (by unfold mayM; rw [← hb0, ← hb1]; simp; rfl)
      rw [HM.out]
      cases b0 <;> cases b1
      all_goals
        go_enter Tryd.func26, Tryd.ntmps26
        go_wp2
        go_ret
        exact ⟨rfl, rfl⟩
    · have hb1 : (t == 1) = false := beq_eq_false_iff_ne.2 h1
      have HM : Hid (mayM t n = false) := Lib.hid (by unfold mayM; simp [h1, h2])
      rw [HM.out]
      clear h1 h2
      go_enter Tryd.func26, Tryd.ntmps26
      go_wp2
      go_ret
      exact ⟨rfl, rfl⟩
end Go.Proofs.YtgngdkbcndldfaaDoor.Fr
