/- CodeFewer: the walk. Conditions: none. -/
import Derived.Test.YtcphjehjdhgheaaKvL
import Derived.Test.YtcphjehjdhgheaaKnW
namespace Go.Proofs.Ytcphjehjdhgheaa.Nt
open Go.ChangeShapes Go.WideShapes Go.ChangeAt Go.RowKit Go.Proofs.Ytcphjehjdhgheaa.Tr
set_option linter.unusedVariables false
set_option linter.unusedSimpArgs false

set_option maxRecDepth 100000 in
set_option maxHeartbeats 8000000 in
theorem fewer_walk (w : World) (iv ov pv : Value) (C : Cod) (h : CodR w iv ov pv C) (hw : CodW C) (hrw : W64 C.regs) (hsw : W64 C.slots) (n : Int) (hn : (Lit.int .i64 n).wf = true) (more : Int) (hm : (Lit.int .i64 more).wf = true) : Calls Try.prog 10 #[.agg #[iv, .int .i64 C.regs, .int .i64 C.slots, ov, pv], .int .i64 n, .int .i64 more] w (fun e w' => e = .returned (.bool true) ∧ Below w.heap.size w w') := by
  have HH := Lib.hid h
  have HW := Lib.hid hw
  obtain ⟨cA, cc, rfl, z1, z2⟩ := h.1.form
  obtain ⟨oA, oc, rfl, z3, z4⟩ := ints_form h.2.1
  obtain ⟨qA, qc, rfl, z5, z6⟩ := ints_form h.2.2
  obtain ⟨li, hli⟩ : ∃ k, C.ins.length = k := ⟨_, rfl⟩
  obtain ⟨lo, hlo⟩ : ∃ k, C.outs.length = k := ⟨_, rfl⟩
  obtain ⟨lq, hlq⟩ : ∃ k, C.inp.length = k := ⟨_, rfl⟩
  obtain ⟨rg, hrg⟩ : ∃ k, C.regs = k := ⟨_, rfl⟩
  obtain ⟨sl, hsl⟩ : ∃ k, C.slots = k := ⟨_, rfl⟩
  have HR := Lib.hid hrg
  have HS := Lib.hid hsl
  have HLI := Lib.hid hli
  have HLO := Lib.hid hlo
  have HLQ := Lib.hid hlq
  rw [hli, hlo, hlq] at HH
  rw [hli, hlo, hlq, hrg, hsl]
  rw [hli] at z1
  unfold maxLen at z2
  obtain ⟨x, hx⟩ : ∃ W, w.alloc (.cells #[.slice cA li cc, .int .i64 rg, .int .i64 sl, .slice oA lo oc, .slice qA lq qc] 54) = W := ⟨_, rfl⟩
  have HX := Lib.hid hx
  have HBX : Hid (Below w.heap.size w x) := Lib.hid (by rw [← hx]; exact below_new _ _)
  have HXX : Hid (CodBox x w.heap.size 54 (.slice cA li cc) rg sl (.slice oA lo oc) (.slice qA lq qc)) := Lib.hid (by rw [← hx]; exact codbox_new _ _ _ _ _ _ _)
  have HCX : Hid (CodR x (.slice cA li cc) (.slice oA lo oc) (.slice qA lq qc) C) := Lib.hid ⟨HH.out.1.below HBX.out (Nat.le_refl _), HH.out.2.1.below HBX.out (Nat.le_refl _), HH.out.2.2.below HBX.out (Nat.le_refl _)⟩
  have HSM := Lib.hid (ksmall_any x _ _ _ C HCX.out)
  rw [HR.out, HS.out, hli, hlo, hlq] at HSM
  obtain ⟨K, hK⟩ : ∃ K, checkK C = K := ⟨_, rfl⟩
  have HK := Lib.hid hK
  obtain ⟨p0, p1, p2, p3, p4⟩ := HXX.out.ats
  have HLV : Hid (∀ V, Below w.heap.size w V → Calls Try.prog 32 #[] V (fun e w' => e = .returned (.bool true) ∧ Below w.heap.size w w')) := Lib.hid (fun V hV => (live6_any V).mono (by
    rintro e w2 ⟨rfl, hb2⟩
    exact ⟨rfl, hV.trans (hb2.mono hV.size)⟩))
  clear h hw hx hli hlo hlq hrg hsl hK
  go_enter Try.func10, Try.ntmps10
  go_wp2_with fail
  try rw [HX.out]
  try go_wp2_with fail
  refine HSM.out.mono ?_
  rintro e w1 ⟨sb, rfl, hsb, hb1⟩
  have HB1 := Lib.hid hb1
  have HBW1 : Hid (Below w.heap.size w w1) := Lib.hid (HBX.out.trans (HB1.out.mono HBX.out.size))
  have HSB := Lib.hid hsb
  obtain ⟨q0, q1, q2, q3, q4⟩ := (HXX.out.below HB1.out HXX.out.lt).ats
  clear hb1 hsb p0 p1 p2 p3 p4 HSM
  cases sb with
  | false =>
    go_wp2_with fail
    refine (HLV.out w1 HBW1.out).mono ?_
    rintro e w2 ⟨rfl, hb2⟩
    have HB2 := Lib.hid hb2
    clear hb2
    go_wp2
    go_ret
    exact ⟨rfl, HB2.out⟩
  | true =>
    obtain ⟨hli6, hr3, hs3, ho6, hq6⟩ := HSB.out rfl
    by_cases hn0 : n < 0
    · go_wp2_with fail
      refine (HLV.out w1 HBW1.out).mono ?_
      rintro e w2 ⟨rfl, hb2⟩
      have HB2 := Lib.hid hb2
      clear hb2
      go_wp2
      go_ret
      exact ⟨rfl, HB2.out⟩
    obtain ⟨kn, rfl⟩ : ∃ k : Nat, n = (k : Int) := ⟨n.toNat, by omega⟩
    by_cases hn1 : li < kn
    · have hn2 : (li : Int) < (kn : Int) := by omega
      go_wp2_with fail
      refine (HLV.out w1 HBW1.out).mono ?_
      rintro e w2 ⟨rfl, hb2⟩
      have HB2 := Lib.hid hb2
      clear hb2
      go_wp2
      go_ret
      exact ⟨rfl, HB2.out⟩
    have hn2 : ¬ (li : Int) < (kn : Int) := by omega
    by_cases hm0 : more < 0
    · go_wp2_with fail
      refine (HLV.out w1 HBW1.out).mono ?_
      rintro e w2 ⟨rfl, hb2⟩
      have HB2 := Lib.hid hb2
      clear hb2
      go_wp2
      go_ret
      exact ⟨rfl, HB2.out⟩
    obtain ⟨m, rfl⟩ : ∃ k : Nat, more = (k : Int) := ⟨more.toNat, by omega⟩
    by_cases hm1 : 1000 < m
    · have hm2 : (1000 : Int) < (m : Int) := by omega
      go_wp2_with fail
      refine (HLV.out w1 HBW1.out).mono ?_
      rintro e w2 ⟨rfl, hb2⟩
      have HB2 := Lib.hid hb2
      clear hb2
      go_wp2
      go_ret
      exact ⟨rfl, HB2.out⟩
    have hm2 : ¬ (1000 : Int) < (m : Int) := by omega
    have HC1 : Hid (CodR w1 (.slice cA li cc) (.slice oA lo oc) (.slice qA lq qc) C) := Lib.hid ⟨HCX.out.1.below HB1.out (Nat.le_refl _), HCX.out.2.1.below HB1.out (Nat.le_refl _), HCX.out.2.2.below HB1.out (Nat.le_refl _)⟩
    have HOWN : Hid (Calls Try.prog 34 #[.agg #[.slice cA li cc, .int .i64 rg, .int .i64 sl, .slice oA lo oc, .slice qA lq qc]] w1 (fun e w' => ∃ A c, e = .returned (.agg #[.slice A li c, .int .i64 rg, .int .i64 sl, .slice oA lo oc, .slice qA lq qc]) ∧ InsR w' (.slice A li c) C.ins ∧ li ≤ c ∧ c ≤ maxLen ∧ Below w1.heap.size w1 w')) := Lib.hid (by
      have h1 := mown_any w1 _ _ _ C HC1.out (by rw [HLI.out]; omega)
      rw [HR.out, HS.out] at h1
      refine h1.mono ?_
      rintro e w' ⟨iv', rfl, hi, hb⟩
      obtain ⟨A, c, rfl, j1, j2⟩ := hi.form
      rw [HLI.out] at hi j1
      exact ⟨A, c, by rw [HLI.out], hi, j1, j2, hb⟩)
    go_wp2_with fail
    refine HOWN.out.mono ?_
    rintro e w2 ⟨A, c, rfl, hi2, j1, j2, hb2⟩
    unfold maxLen at j2
    obtain ⟨w3, hw3⟩ : ∃ W, w2.alloc (.cells #[.slice A li c, .int .i64 rg, .int .i64 sl, .slice oA lo oc, .slice qA lq qc] 59) = W := ⟨_, rfl⟩
    have hb3 : Below w2.heap.size w2 w3 := by rw [← hw3]; exact below_new _ _
    have HB2 : Hid (Below w1.heap.size w1 w2) := Lib.hid hb2
    have HB3 : Hid (Below w1.heap.size w1 w3) := Lib.hid (hb2.trans (hb3.mono hb2.size))
    have HX3 : Hid (CodBox w3 w2.heap.size 59 (.slice A li c) rg sl (.slice oA lo oc) (.slice qA lq qc)) := Lib.hid (by rw [← hw3]; exact codbox_new _ _ _ _ _ _ _)
    have HC3 : Hid (CodR w3 (.slice A li c) (.slice oA lo oc) (.slice qA lq qc) C) := Lib.hid ⟨hi2.below hb3 (Nat.le_refl _), HC1.out.2.1.below HB3.out (Nat.le_refl _), HC1.out.2.2.below HB3.out (Nat.le_refl _)⟩
    have HW3 := Lib.hid hw3
    have HCC : Hid (Calls Try.prog 33 #[.agg #[.slice A li c, .int .i64 rg, .int .i64 sl, .slice oA lo oc, .slice qA lq qc]] w3 (fun e w' => e = .returned (.int .i64 K) ∧ Below w3.heap.size w3 w')) := Lib.hid (by
      have h1 := ccheck_any w3 _ _ _ C HC3.out HW.out
      rw [HR.out, HS.out, HK.out] at h1
      exact h1)
    obtain ⟨p0, p1, p2, p3, p4⟩ := HX3.out.ats
    clear hi2 hb2 hb3 q0 q1 q2 q3 q4
    go_wp2_with fail
    try rw [HW3.out]
    clear hw3
    try go_wp2_with fail
    refine HCC.out.mono ?_
    rintro e w4 ⟨rfl, hb4⟩
    have HB4 := Lib.hid hb4
    have HBW4 : Hid (Below w.heap.size w w4) := Lib.hid (HBW1.out.trans ((HB3.out.trans (hb4.mono HB3.out.size)).mono HBW1.out.size))
    have HX4 : Hid (CodBox w4 w2.heap.size 59 (.slice A li c) rg sl (.slice oA lo oc) (.slice qA lq qc)) := Lib.hid (HX3.out.below hb4 HX3.out.lt)
    have HC4 : Hid (CodR w4 (.slice A li c) (.slice oA lo oc) (.slice qA lq qc) C) := Lib.hid ⟨HC3.out.1.below hb4 (Nat.le_refl _), HC3.out.2.1.below hb4 (Nat.le_refl _), HC3.out.2.2.below hb4 (Nat.le_refl _)⟩
    obtain ⟨q0, q1, q2, q3, q4⟩ := HX4.out.ats
    have hlt4 := HX4.out.lt
    clear hb4 p0 p1 p2 p3 p4 HCC HOWN
    by_cases hk : K ≠ 0
    · have hk2 : (K != 0) = true := by simpa using hk
      go_wp2_with fail
      refine (HLV.out w4 HBW4.out).mono ?_
      rintro e w5 ⟨rfl, hb5⟩
      have HB5 := Lib.hid hb5
      clear hb5
      go_wp2
      go_ret
      exact ⟨rfl, HB5.out⟩
    have hk0 : K = 0 := by omega
    subst hk0
    have HY : Hid (checkK ⟨C.ins.take kn, rg, sl, [], C.inp⟩ = 0) := Lib.hid (by have := fewer_check HK.out kn; rw [HR.out, HS.out] at this; exact this)
    have HZ : Hid (checkK ⟨C.ins, rg + m, sl + m, C.outs, C.inp⟩ = 0) := Lib.hid (by
      have := more_check HK.out (m : Int) (by omega) (by rw [HR.out]; omega) (by rw [HS.out]; omega)
      rw [HR.out, HS.out] at this; exact this)
    have hF := check_fits HK.out
    have hrr := hF.regs
    have hss := hF.slots
    rw [HR.out] at hrr
    rw [HS.out] at hss
    clear hF hk
    go_wp2_with fail
    obtain ⟨w5, hw5⟩ : ∃ W, (w4.alloc (.cells #[.slice A kn c, .int .i64 rg, .int .i64 sl, .slice none 0 0, .slice qA lq qc] 59)).alloc (.cells #[.slice A li c, .int .i64 (rg + m), .int .i64 (sl + m), .slice oA lo oc, .slice qA lq qc] 59) = W := ⟨_, rfl⟩
    have hb5 : Below w4.heap.size w4 w5 := by rw [← hw5]; exact below2 _ _ _
    have HB5 := Lib.hid hb5
    have HX5 : Hid (CodBox w5 (w4.heap.size + 1) 59 (.slice A li c) (rg + m) (sl + m) (.slice oA lo oc) (.slice qA lq qc)) := Lib.hid (by
      rw [← hw5]
      have := codbox_new (w4.alloc (.cells #[.slice A kn c, .int .i64 rg, .int .i64 sl, .slice none 0 0, .slice qA lq qc] 59)) 59 (.slice A li c) (.slice oA lo oc) (.slice qA lq qc) (rg + m) (sl + m)
      rw [show (w4.alloc (.cells #[.slice A kn c, .int .i64 rg, .int .i64 sl, .slice none 0 0, .slice qA lq qc] 59)).heap.size = w4.heap.size + 1 by simp] at this
      exact this)
    have HY5 : Hid (CodR w5 (.slice A kn c) (.slice none 0 0) (.slice qA lq qc) ⟨C.ins.take kn, rg, sl, [], C.inp⟩) := Lib.hid ⟨(HC4.out.1.below hb5 (Nat.le_refl _)).take (by omega), ints_nil _, HC4.out.2.2.below hb5 (Nat.le_refl _)⟩
    have HZ5 : Hid (CodR w5 (.slice A li c) (.slice oA lo oc) (.slice qA lq qc) ⟨C.ins, rg + m, sl + m, C.outs, C.inp⟩) := Lib.hid (HC4.out.below hb5 (Nat.le_refl _))
    have HCY : Hid (Calls Try.prog 33 #[.agg #[.slice A kn c, .int .i64 rg, .int .i64 sl, .slice none 0 0, .slice qA lq qc]] w5 (fun e w' => e = .returned (.int .i64 0) ∧ Below w5.heap.size w5 w')) := Lib.hid (by
      have h1 := ccheck_any w5 _ _ _ _ HY5.out (HW.out.take kn)
      rw [HY.out] at h1
      exact h1)
    clear hb5
    rw [hw5]
    refine HCY.out.mono ?_
    rintro e w6 ⟨rfl, hb6⟩
    have HB6 : Hid (Below w4.heap.size w4 w6) := Lib.hid (HB5.out.trans (hb6.mono HB5.out.size))
    have HCZ : Hid (Calls Try.prog 33 #[.agg #[.slice A li c, .int .i64 (rg + m), .int .i64 (sl + m), .slice oA lo oc, .slice qA lq qc]] w6 (fun e w' => e = .returned (.int .i64 0) ∧ Below w6.heap.size w6 w')) := Lib.hid (by
      have h1 := ccheck_any w6 _ _ _ _ (HZ5.out.below hb6 (Nat.le_refl _)) (HW.out.more _ _)
      rw [HZ.out] at h1
      exact h1)
    obtain ⟨t0, t1, t2, t3, t4⟩ := (HX5.out.below hb6 HX5.out.lt).ats
    clear hw5 hb6 q0 q1 q2 q3 q4
    go_wp2_with fail
    refine HCZ.out.mono ?_
    rintro e w7 ⟨rfl, hb7⟩
    have HB7 : Hid (Below w.heap.size w w7) := Lib.hid (HBW4.out.trans ((HB6.out.trans (hb7.mono HB6.out.size)).mono HBW4.out.size))
    clear hb7
    go_wp2_with fail
    refine (HLV.out w7 HB7.out).mono ?_
    rintro e w8 ⟨rfl, hb8⟩
    have HB8 := Lib.hid hb8
    clear hb8
    go_wp2
    go_ret
    exact ⟨rfl, HB8.out⟩
end Go.Proofs.Ytcphjehjdhgheaa.Nt
