/- A reader of bytes: the next number. Conditions: what is left has at most a hundred million bytes. -/
import Derived.Test.YtcphjehjdhgheaaImR
namespace Go.Proofs.Ytcphjehjdhgheaa.Nt
open Go.ChangeShapes Go.WideShapes Go.ChangeAt Go.RowKit Go.Proofs.Ytcphjehjdhgheaa.Tr
set_option linter.unusedVariables false
set_option linter.unusedSimpArgs false

/-- A place's weight. -/
def PL (j : Nat) (p : Int) : Prop := (j = 0 ∧ p = 1) ∨ (j = 1 ∧ p = 128) ∨ (j = 2 ∧ p = 16384) ∨ (j = 3 ∧ p = 2097152) ∨ (j = 4 ∧ p = 268435456) ∨ (j = 5 ∧ p = 34359738368) ∨ (j = 6 ∧ p = 4398046511104)
theorem PL.next {j : Nat} {p : Int} (h : PL j p) (hj : j < 6) : PL (j + 1) (p * 128) := by unfold PL at *; omega
theorem PL.bnd {j : Nat} {p : Int} (h : PL j p) (hj : j < 6) : 1 ≤ p ∧ p ≤ 34359738368 := by unfold PL at *; omega
theorem fail_ne (f : Int) : failM f 15 ≠ 0 := by unfold failM; split <;> omega
theorem numR_next {k : Nat} {n p b : Int} {s s1 : Rst} (hb : (nextM s).1 = b) (hs : (nextM s).2 = s1) {n1 : Int} (hn : n + b % 128 * p = n1) :
    numR (k + 1) n p s = if 4294967295 < n1 then (0, (s1.1, failM s1.2 15)) else if s1.2 ≠ 0 then (0, s1) else if b < 128 then (n1, s1) else numR k n1 (p * 128) s1 := by
  show (let b := (nextM s).1; let s1 := (nextM s).2; let n1 := n + b % 128 * p; let s2 := if 4294967295 < n1 then (s1.1, failM s1.2 15) else s1; if s2.2 ≠ 0 then (0, s2) else if b < 128 then (n1, s2) else numR k n1 (p * 128) s2) = _
  simp only [hb, hs, hn]
  by_cases h : 4294967295 < n1
  · rw [if_pos h, if_pos h, if_pos (fail_ne s1.2)]
  · rw [if_neg h, if_neg h]
set_option maxRecDepth 100000 in
set_option maxHeartbeats 4000000 in
theorem rnum_any (q : Nat) (s0 : Rst) (w : World) (h : RdBox w q s0) (hl9 : s0.1.length ≤ 100000000) : Calls Try.prog 119 #[.pointer (some ⟨q, 0, none⟩)] w fun r w' => r = .returned (.int .i64 (numberR s0).1) ∧ RTo q (numberR s0).2 w w' := by
  have H := Lib.hid h
  obtain ⟨R, hR⟩ : ∃ R, numberR s0 = R := ⟨_, rfl⟩
  have HR := Lib.hid hR
  rw [hR]
  clear h hR
  go_enter Try.func119, Try.ntmps119
  go_wp2_with fail
  go_loopw [3, 4, 5, 6] (fun vn vp vb vi wr => ∃ (j : Nat) (n p : Int) (s : Rst) (v : Value), j ≤ 6 ∧ vi = .int .i64 (j : Int) ∧ vn = .int .i64 n ∧ vp = .int .i64 p ∧ v = vb ∧ PL j p ∧ (0 ≤ n ∧ n ≤ 4294967295) ∧ s.1.length ≤ 100000000 ∧ numR (6 - j) n p s = R ∧ RTo q s w wr) (fun _ _ _ vi _ => 6 - (intOf vi).toNat)
  case atStart => exact ⟨0, 0, 1, s0, _, by omega, rfl, rfl, rfl, rfl, .inl ⟨rfl, rfl⟩, by omega, hl9, HR.out, RTo.here H.out⟩
  case round =>
    obtain ⟨j, n, p, s, v, hj, rfl, rfl, rfl, rfl, hpl, hn, hsl, hnum, hto⟩ := hrel
    have HP := Lib.hid hpl
    have HN := Lib.hid hnum
    have HT := Lib.hid hto
    by_cases hj6 : j < 6
    · obtain ⟨b, hb⟩ : ∃ b, (nextM s).1 = b := ⟨_, rfl⟩
      obtain ⟨s1, hs1⟩ : ∃ s1, (nextM s).2 = s1 := ⟨_, rfl⟩
      obtain ⟨c, hc⟩ : ∃ c, b % 128 = c := ⟨_, rfl⟩
      have hbb := next_bnd s
      rw [hb] at hbb
      have hpb := hpl.bnd hj6
      obtain ⟨m, hm⟩ : ∃ m, c * p = m := ⟨_, rfl⟩
      have hm0 : 0 ≤ m := by rw [← hm]; exact Int.mul_nonneg (by omega) (by omega)
      have hm1 : m ≤ 127 * 34359738368 := by
        rw [← hm]
        exact Int.mul_le_mul (by omega) hpb.2 (by omega) (by omega)
      have hq1 : b.tmod 128 = c := by rw [Int.tmod_eq_emod_of_nonneg (by omega)]; exact hc
      have hw1 : IntKind.i64.wrap m = m := by simp [IntKind.wrap, IntKind.bits, IntKind.signed]; omega
      have hw2 : IntKind.i64.wrap (n + m) = n + m := by simp [IntKind.wrap, IntKind.bits, IntKind.signed]; omega
      have hw3 : IntKind.i64.wrap (p * 128) = p * 128 := by simp [IntKind.wrap, IntKind.bits, IntKind.signed]; omega
      have HNX := Lib.hid (rnext_any q s _ hto.1 hsl)
      rw [hb, hs1] at HNX
      have HST := numR_next (k := 6 - (j + 1)) (n := n) (p := p) hb hs1 (n1 := n + m) (by rw [hc, hm])
      rw [show 6 - (j + 1) + 1 = 6 - j by omega, HN.out] at HST
      have HSTH := Lib.hid HST
      have hs1l : s1.1.length ≤ 100000000 := by have := next_len s; rw [hs1] at this; omega
      have hj2 : (j : Int) < 6 := by omega
      clear hto hnum hpl hb hs1 hc HST
      go_wp2_with fail
      refine HNX.out.mono ?_
      rintro e w1 ⟨rfl, h1⟩
      have HT1 := Lib.hid (HT.out.then h1)
      obtain ⟨a0, a1⟩ := h1.1.ats
      clear h1 HNX
      by_cases hbig : 4294967295 < n + m
      · have HRE : Hid (R = (0, (s1.1, failM s1.2 15))) := Lib.hid (by rw [HSTH.out, if_pos hbig])
        have HFA := Lib.hid (rfail_any q s1 15 w1 HT1.out.1)
        go_wp2_with fail
        refine HFA.out.mono ?_
        rintro e w2 ⟨rfl, h2⟩
        have HT2 := Lib.hid (HT1.out.then h2)
        obtain ⟨b0, b1⟩ := h2.1.ats
        have hne : (failM s1.2 15 != 0) = true := by simpa using fail_ne s1.2
        dsimp only at b0 b1
        clear h2 HFA a0 a1
        go_wp2_with fail
        refine bodyPost_ret (v := .int .i64 0) (by simp [results, Try.results119, go_sem]) rfl ⟨by rw [HRE.out], by rw [HRE.out]; exact HT2.out⟩
      · by_cases hf : s1.2 ≠ 0
        · have HRE : Hid (R = (0, s1)) := Lib.hid (by rw [HSTH.out, if_neg hbig, if_pos hf])
          have hne : (s1.2 != 0) = true := by simpa using hf
          go_wp2_with fail
          refine bodyPost_ret (v := .int .i64 0) (by simp [results, Try.results119, go_sem]) rfl ⟨by rw [HRE.out], by rw [HRE.out]; exact HT1.out⟩
        · have hf0 : s1.2 = 0 := by omega
          rw [hf0] at a1
          by_cases hb8 : b < 128
          · have HRE : Hid (R = (n + m, s1)) := Lib.hid (by rw [HSTH.out, if_neg hbig, if_neg hf, if_pos hb8])
            clear hf0 hf
            go_wp2_with fail
            refine bodyPost_ret (v := .int .i64 (n + m)) (by simp [results, Try.results119, go_sem]) rfl ⟨by rw [HRE.out], by rw [HRE.out]; exact HT1.out⟩
          · have HRE : Hid (numR (6 - (j + 1)) (n + m) (p * 128) s1 = R) := Lib.hid (by rw [HSTH.out, if_neg hbig, if_neg hf, if_neg hb8])
            clear hf0 hf
            go_wp2_with fail
            go_roundw
            case rel => exact ⟨j + 1, n + m, p * 128, s1, _, by omega, by go_num, rfl, rfl, rfl, HP.out.next hj6, by omega, hs1l, HRE.out, HT1.out⟩
            case measure => simp [intOf]; omega
    · have hj7 : j = 6 := by omega
      subst hj7
      have HRE : Hid (R = (0, (s.1, failM s.2 15))) := Lib.hid hnum.symm
      have HFA := Lib.hid (rfail_any q s 15 _ hto.1)
      clear hto hnum hpl hj6
      go_wp2_with fail
      refine HFA.out.mono ?_
      rintro e w2 ⟨rfl, h2⟩
      have HT2 := Lib.hid (HT.out.then h2)
      clear h2 HFA
      go_wp2_with fail
      refine bodyPost_ret (v := .int .i64 0) (by simp [results, Try.results119, go_sem]) rfl ⟨by rw [HRE.out], by rw [HRE.out]; exact HT2.out⟩
end Go.Proofs.Ytcphjehjdhgheaa.Nt
