/- SchedSame: the walk. Conditions: none. -/
import Derived.Test.YtcphjehjdhgheaaSchedSortsW
import Derived.Test.YtcphjehjdhgheaaNkD
namespace Go.Proofs.Ytcphjehjdhgheaa.Nt
open Go.ChangeShapes Go.WideShapes Go.ChangeAt Go.RowKit Go.Proofs.Ytcphjehjdhgheaa.Tr
set_option linter.unusedVariables false
set_option linter.unusedSimpArgs false

set_option maxRecDepth 100000 in
set_option maxHeartbeats 8000000 in
theorem same_walk (w : World) (ov rv iv : Value) (N : Net) (h : NetR w ov rv iv N) (lv : Value) (l : List (List Int)) (hl : RowsR w lv l) : Calls Try.prog 4 #[.agg #[ov, rv, iv], lv] w (fun e w' => e = .returned (.bool true) ∧ Below w.heap.size w w') := by
  have HH := Lib.hid h
  have HHL := Lib.hid hl
  obtain ⟨A, c, rfl, z1, z2⟩ := h.1.form
  obtain ⟨A2, c2, rfl, z3, z4⟩ := ints_form h.2.1
  obtain ⟨A3, c3, rfl, z5, z6⟩ := ints_form h.2.2
  obtain ⟨n, hn⟩ : ∃ n, N.ops.length = n := ⟨_, rfl⟩
  obtain ⟨nr, hnr⟩ : ∃ n, N.roots.length = n := ⟨_, rfl⟩
  obtain ⟨ni, hni⟩ : ∃ n, N.ins.length = n := ⟨_, rfl⟩
  rw [hn, hnr, hni] at HH ⊢
  rw [hn] at z1
  rw [hnr] at z3
  rw [hni] at z5
  have HN := Lib.hid hn
  have HNR := Lib.hid hnr
  have HNI := Lib.hid hni
  unfold maxLen at z2 z4 z6
  obtain ⟨x, hx⟩ : ∃ W, w.alloc (.cells #[.slice A n c, .slice A2 nr c2, .slice A3 ni c3] 25) = W := ⟨_, rfl⟩
  have HX := Lib.hid hx
  have HBX : Hid (Below w.heap.size w x) := Lib.hid (by rw [← hx]; exact below_new _ _)
  have HXX : Hid (NetBox x w.heap.size 25 (.slice A n c) (.slice A2 nr c2) (.slice A3 ni c3)) := Lib.hid (by rw [← hx]; exact box_new _ _ _ _ _)
  have HNX := Lib.hid (HH.out.below HBX.out (Nat.le_refl _))
  have HLX := Lib.hid (HHL.out.below HBX.out (Nat.le_refl _))
  obtain ⟨p0, p1, p2⟩ := HXX.out.ats
  obtain ⟨C, hC⟩ : ∃ C, checkN N = C := ⟨_, rfl⟩
  have HC := Lib.hid hC
  clear h hl hx hn hnr hni hC
  go_enter Try.func4, Try.ntmps4
  go_wp2_with fail
  rw [HX.out]
  refine (dsmall_any x _ _ _ N HNX.out).mono ?_
  rintro e w1 ⟨b, rfl, hb300, hb1⟩
  have HB1 := Lib.hid hb1
  clear hb1
  cases b with
  | false =>
    clear hb300
    go_wp2_with fail
    refine (live_any _).mono ?_
    rintro e w9 ⟨rfl, hb9⟩
    go_wp2
    go_ret
    exact ⟨rfl, HBX.out.trans ((HB1.out.trans (hb9.mono HB1.out.size)).mono HBX.out.size)⟩
  | true =>
    obtain ⟨n3, r3, i3⟩ := hb300 rfl
    rw [HN.out] at n3
    rw [HNR.out] at r3
    rw [HNI.out] at i3
    clear hb300 p0 p1 p2
    go_wp2_with fail
    refine (fewi_any w1 lv l (HLX.out.below HB1.out (Nat.le_refl _))).mono ?_
    rintro e w1' ⟨b, rfl, hfew, hb1'⟩
    have HB1' : Hid (Below x.heap.size x w1') := Lib.hid (HB1.out.trans (hb1'.mono HB1.out.size))
    clear hb1'
    cases b with
    | false =>
      clear hfew
      go_wp2_with fail
      refine (live_any _).mono ?_
      rintro e w9 ⟨rfl, hb9⟩
      go_wp2
      go_ret
      exact ⟨rfl, HBX.out.trans ((HB1'.out.trans (hb9.mono HB1'.out.size)).mono HBX.out.size)⟩
    | true =>
      have hl20 := (hfew rfl).1
      have HN1 := Lib.hid (HNX.out.below HB1'.out (Nat.le_refl _))
      have HX1 := Lib.hid (HXX.out.below HB1'.out HXX.out.lt)
      obtain ⟨q0, q1, q2⟩ := HX1.out.ats
      clear hfew
      go_wp2_with fail
      refine (own_any w1' _ _ _ N HN1.out (by rw [HN.out]; omega)).mono ?_
      rintro e w2 ⟨ov2, rfl, ho2, hb2⟩
      have HB2 : Hid (Below x.heap.size x w2) := Lib.hid (HB1'.out.trans (hb2.mono HB1'.out.size))
      have HN2 : Hid (NetR w2 ov2 (.slice A2 nr c2) (.slice A3 ni c3) N) := Lib.hid ⟨ho2, HN1.out.2.1.below hb2 (Nat.le_refl _), HN1.out.2.2.below hb2 (Nat.le_refl _)⟩
      clear ho2 hb2
      go_wp2_with fail
      refine (ssort_any w2 _ _ _ N HN2.out (by rw [HN.out]; omega) (by rw [HNR.out]; omega) (by rw [HNI.out]; omega)).mono ?_
      rintro e w3 ⟨hb3, mo, mr, mi, rfl, hm⟩
      rw [HC.out]
      have HB3 : Hid (Below x.heap.size x w3) := Lib.hid (HB2.out.trans (hb3.mono HB2.out.size))
      have HSL : Hid ((sortN N).ops.length ≤ 1000) := Lib.hid (by have := sort_le N; rw [HN.out] at this; omega)
      have HSR : Hid ((sortN N).roots.length ≤ 1000) := Lib.hid (by
        unfold sortN
        split
        · show (N.roots.map _).length ≤ 1000
          rw [List.length_map, HNR.out]; omega
        · simp [emptyN])
      obtain ⟨M, hM⟩ : ∃ M, sortN N = M := ⟨_, rfl⟩
      have HM := Lib.hid hM
      rw [hM] at hm HSL HSR
      obtain ⟨moA, moc, rfl, u1, u2⟩ := hm.1.form
      obtain ⟨mrA, mrc, rfl, u3, u4⟩ := ints_form hm.2.1
      obtain ⟨miA, mic, rfl, u5, u6⟩ := ints_form hm.2.2
      obtain ⟨k1, hk1⟩ : ∃ k, M.ops.length = k := ⟨_, rfl⟩
      obtain ⟨k2, hk2⟩ : ∃ k, M.roots.length = k := ⟨_, rfl⟩
      obtain ⟨k3, hk3⟩ : ∃ k, M.ins.length = k := ⟨_, rfl⟩
      rw [hk1, hk2, hk3] at hm ⊢
      have HK1 := Lib.hid hk1
      obtain ⟨w4, hw4⟩ : ∃ W, w3.alloc (.cells #[.slice moA k1 moc, .slice mrA k2 mrc, .slice miA k3 mic] 30) = W := ⟨_, rfl⟩
      have hb4 : Below w3.heap.size w3 w4 := by rw [← hw4]; exact below_new _ _
      have HB4 : Hid (Below x.heap.size x w4) := Lib.hid (HB3.out.trans (hb4.mono HB3.out.size))
      have HX4 : Hid (NetBox w4 w3.heap.size 30 (.slice moA k1 moc) (.slice mrA k2 mrc) (.slice miA k3 mic)) := Lib.hid (by rw [← hw4]; exact box_new _ _ _ _ _)
      have HM4 := Lib.hid (hm.below hb4 (Nat.le_refl _))
      have HXX4 := Lib.hid (HXX.out.below HB4.out HXX.out.lt)
      obtain ⟨q0, q1, q2⟩ := HXX4.out.ats
      clear hb3 hm hb4 hM hk1 hk2 hk3 u1 u2 u3 u4 u5 u6
      go_wp2_with fail
      clear hw4
      have HRUN := drun_any w4 _ _ _ lv N l (HNX.out.below HB4.out (Nat.le_refl _)) (HLX.out.below HB4.out (Nat.le_refl _)) (by rw [HN.out]; omega) (by rw [HNR.out]; omega) (by omega)
      obtain ⟨r, hr⟩ : ∃ r, runN N l = r := ⟨_, rfl⟩
      have HR := Lib.hid hr
      rw [hr] at HRUN
      refine HRUN.mono ?_
      rintro e w5 ⟨va, rfl, ha, hb5⟩
      have HA := Lib.hid ha
      have HB5 : Hid (Below x.heap.size x w5) := Lib.hid (HB4.out.trans (hb5.mono HB4.out.size))
      have HX5 := Lib.hid (HX4.out.below hb5 HX4.out.lt)
      have HM5 := Lib.hid (HM4.out.below hb5 (Nat.le_refl _))
      clear HRUN hr ha hb5 q0 q1 q2
      by_cases hc : C ≠ 0
      · have hne : (C != 0) = true := by simpa using hc
        have hr2 : r.2 = C := by rw [← HR.out]; unfold runN; rw [HC.out, if_pos hc]
        have hrr : (r.2 == C) = true := by rw [hr2]; simp
        clear hr2
        go_wp2_with fail
        refine (live_any _).mono ?_
        rintro e w9 ⟨rfl, hb9⟩
        go_wp2
        go_ret
        exact ⟨rfl, HBX.out.trans ((HB5.out.trans (hb9.mono HB5.out.size)).mono HBX.out.size)⟩
      · have hc0 : C = 0 := by omega
        subst hc0
        have HRS : Hid (runN M l = r) := Lib.hid (by
          rw [← HM.out]
          unfold sortN
          rw [if_pos HC.out, run_sorted HC.out]; exact HR.out)
        obtain ⟨q0, q1, q2⟩ := HX5.out.ats
        clear hc
        go_wp2_with fail
        refine (told_any _ _ _ _ M HM5.out (by rw [HK1.out] at HSL; rw [HK1.out]; exact HSL.out)).mono ?_
        rintro e w6 ⟨tv, rfl, ht, hb6⟩
        have HB6 : Hid (Below x.heap.size x w6) := Lib.hid (HB5.out.trans (hb6.mono HB5.out.size))
        have HNM : Hid (NetR w6 tv (.slice mrA k2 mrc) (.slice miA k3 mic) M) := Lib.hid (net_mk ht (HM5.out.below hb6 (Nat.le_refl _)))
        have HA6 := Lib.hid (HA.out.below hb6 (Nat.le_refl _))
        clear ht hb6 q0 q1 q2
        go_wp2_with fail
        have HRUN := drun_any w6 _ _ _ lv M l HNM.out (HLX.out.below HB6.out (Nat.le_refl _)) HSL.out HSR.out (by omega)
        rw [HRS.out] at HRUN
        refine HRUN.mono ?_
        rintro e w7 ⟨vb, rfl, hb, hb7⟩
        have HB7 : Hid (Below x.heap.size x w7) := Lib.hid (HB6.out.trans (hb7.mono HB6.out.size))
        have HRW := rows_eq w7 va vb r.1 (HA6.out.below hb7 (Nat.le_refl _)) hb
        clear HRUN hb hb7
        go_wp2_with fail
        refine HRW.mono ?_
        rintro e w8 ⟨rfl, hb8⟩
        have HB8 : Hid (Below x.heap.size x w8) := Lib.hid (HB7.out.trans (hb8.mono HB7.out.size))
        clear HRW hb8
        go_wp2_with fail
        refine (live_any _).mono ?_
        rintro e w9 ⟨rfl, hb9⟩
        go_wp2
        go_ret
        exact ⟨rfl, HBX.out.trans ((HB8.out.trans (hb9.mono HB8.out.size)).mono HBX.out.size)⟩
end Go.Proofs.Ytcphjehjdhgheaa.Nt
