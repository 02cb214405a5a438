/- SchedAgain: the walk. Conditions: none. -/
import Derived.Test.YtcphjehjdhgheaaNtLv
import Derived.Test.YtcphjehjdhgheaaNtSm
import Derived.Deep.RegionHeld3
namespace Go.Proofs.Ytcphjehjdhgheaa.Nt
open Go.ChangeShapes Go.WideShapes Go.ChangeAt Go.RowKit Go.Proofs.Ytcphjehjdhgheaa.Tr
set_option linter.unusedVariables false
set_option linter.unusedSimpArgs false

theorem net_mk {w : World} {ov ov' rv iv : Value} {N : Net} (h1 : OpsR w ov N.ops) (h : NetR w ov' rv iv N) : NetR w ov rv iv N := ⟨h1, h.2⟩
set_option maxRecDepth 100000 in
set_option maxHeartbeats 8000000 in
theorem again_walk (w : World) (ov rv iv : Value) (N : Net) (h : NetR w ov rv iv N) : Calls Try.prog 5 #[.agg #[ov, rv, iv]] w (fun e w' => e = .returned (.bool true) ∧ Below w.heap.size w w') := by
  have HH := Lib.hid h
  obtain ⟨A, c, rfl, z1, z2⟩ := h.1.form
  obtain ⟨A2, c2, rfl, z3, z4⟩ := ints_form h.2.1
  obtain ⟨A3, c3, rfl, z5, z6⟩ := ints_form h.2.2
  obtain ⟨n, hn⟩ : ∃ n, N.ops.length = n := ⟨_, rfl⟩
  obtain ⟨nr, hnr⟩ : ∃ n, N.roots.length = n := ⟨_, rfl⟩
  obtain ⟨ni, hni⟩ : ∃ n, N.ins.length = n := ⟨_, rfl⟩
  rw [hn, hnr, hni] at HH ⊢
  rw [hn] at z1
  rw [hnr] at z3
  rw [hni] at z5
  have HN := Lib.hid hn
  have HNR := Lib.hid hnr
  have HNI := Lib.hid hni
  unfold maxLen at z2 z4 z6
  obtain ⟨x, hx⟩ : ∃ W, w.alloc (.cells #[.slice A n c, .slice A2 nr c2, .slice A3 ni c3] 25) = W := ⟨_, rfl⟩
  have HX := Lib.hid hx
  have HBX : Hid (Below w.heap.size w x) := Lib.hid (by rw [← hx]; exact below_new _ _)
  have HXX : Hid (NetBox x w.heap.size 25 (.slice A n c) (.slice A2 nr c2) (.slice A3 ni c3)) := Lib.hid (by rw [← hx]; exact box_new _ _ _ _ _)
  have HNX := Lib.hid (HH.out.below HBX.out (Nat.le_refl _))
  obtain ⟨p0, p1, p2⟩ := HXX.out.ats
  clear h hx hn hnr hni
  go_enter Try.func5, Try.ntmps5
  go_wp2_with fail
  rw [HX.out]
  refine (dsmall_any x _ _ _ N HNX.out).mono ?_
  rintro e w1 ⟨b, rfl, hb300, hb1⟩
  have HB1 := Lib.hid hb1
  clear hb1
  cases b with
  | false =>
    clear hb300
    go_wp2_with fail
    refine (live_any _).mono ?_
    rintro e w9 ⟨rfl, hb9⟩
    go_wp2
    go_ret
    exact ⟨rfl, HBX.out.trans ((HB1.out.trans (hb9.mono HB1.out.size)).mono HBX.out.size)⟩
  | true =>
    obtain ⟨n3, r3, i3⟩ := hb300 rfl
    rw [HN.out] at n3
    rw [HNR.out] at r3
    rw [HNI.out] at i3
    have HN1 := Lib.hid (HNX.out.below HB1.out (Nat.le_refl _))
    have HX1 := Lib.hid (HXX.out.below HB1.out HXX.out.lt)
    obtain ⟨q0, q1, q2⟩ := HX1.out.ats
    clear hb300 p0 p1 p2
    go_wp2_with fail
    refine (own_any w1 _ _ _ N HN1.out (by rw [HN.out]; omega)).mono ?_
    rintro e w2 ⟨ov2, rfl, ho2, hb2⟩
    have HB2 : Hid (Below x.heap.size x w2) := Lib.hid (HB1.out.trans (hb2.mono HB1.out.size))
    have HN2 : Hid (NetR w2 ov2 (.slice A2 nr c2) (.slice A3 ni c3) N) := Lib.hid ⟨ho2, HN1.out.2.1.below hb2 (Nat.le_refl _), HN1.out.2.2.below hb2 (Nat.le_refl _)⟩
    clear ho2 hb2
    go_wp2_with fail
    refine (ssort_any w2 _ _ _ N HN2.out (by rw [HN.out]; omega) (by rw [HNR.out]; omega) (by rw [HNI.out]; omega)).mono ?_
    obtain ⟨C, hC⟩ : ∃ C, checkN N = C := ⟨_, rfl⟩
    have HC := Lib.hid hC
    rintro e w3 ⟨hb3, mo, mr, mi, rfl, hm⟩
    have HB3 : Hid (Below x.heap.size x w3) := Lib.hid (HB2.out.trans (hb3.mono HB2.out.size))
    obtain ⟨moA, moc, rfl, u1, u2⟩ := hm.1.form
    obtain ⟨mrA, mrc, rfl, u3, u4⟩ := ints_form hm.2.1
    obtain ⟨miA, mic, rfl, u5, u6⟩ := ints_form hm.2.2
    generalize (sortN N).ops.length = k1 at *
    generalize (sortN N).roots.length = k2 at *
    generalize (sortN N).ins.length = k3 at *
    have HM := Lib.hid hm
    obtain ⟨w4, hw4⟩ : ∃ W, w3.alloc (.cells #[.slice moA k1 moc, .slice mrA k2 mrc, .slice miA k3 mic] 30) = W := ⟨_, rfl⟩
    have HW4 := Lib.hid hw4
    have hb4 : Below w3.heap.size w3 w4 := by rw [← hw4]; exact below_new _ _
    have HB4 : Hid (Below x.heap.size x w4) := Lib.hid (HB3.out.trans (hb4.mono HB3.out.size))
    have HX4 : Hid (NetBox w4 w3.heap.size 30 (.slice moA k1 moc) (.slice mrA k2 mrc) (.slice miA k3 mic)) := Lib.hid (by rw [← hw4]; exact box_new _ _ _ _ _)
    have HM4 := Lib.hid (hm.below hb4 (Nat.le_refl _))
    rw [hC]
    clear hb3 hm hw4 hb4 q0 q1 q2
    by_cases hc : C = 0
    · subst hc
      have hsN : sortN N = sortedN N := by unfold sortN; rw [if_pos hC]
      have HIS : Hid (isN (sortN N) = true) := Lib.hid (by rw [hsN]; exact sorted_is hC)
      have HCM : Hid (checkN (sortN N) = 0) := Lib.hid (by rw [hsN]; exact sorted_check hC)
      have HSS : Hid (sortN (sortN N) = sortN N) := Lib.hid (by
        rw [hsN]
        show (if checkN (sortedN N) = 0 then sortedN (sortedN N) else emptyN) = sortedN N
        rw [if_pos (sorted_check hC)]
        exact sorted_same (sorted_check hC) (sorted_ord hC))
      have HSL : Hid ((sortN N).ops.length = n ∧ (sortN N).roots.length = nr ∧ (sortN N).ins.length = ni) := Lib.hid (by
        rw [hsN]
        refine ⟨(sorted_len hC).trans HN.out, ?_, HNI.out⟩
        show (N.roots.map _).length = nr
        rw [List.length_map]; exact HNR.out)
      obtain ⟨M, hM⟩ : ∃ M, sortN N = M := ⟨_, rfl⟩
      rw [hM] at HIS HCM HSS HSL HM4
      obtain ⟨q0, q1, q2⟩ := HX4.out.ats
      clear hC hM HM hsN
      go_wp2_with fail
      rw [HW4.out]
      go_wp2_with fail
      refine (ssort_any w4 _ _ _ M HM4.out (by rw [HSL.out.1]; omega) (by rw [HSL.out.2.1]; omega) (by rw [HSL.out.2.2]; omega)).mono ?_
      rintro e w5 ⟨hb5, oo, or', oi, heq, ho5⟩
      rw [HSS.out] at ho5
      rw [HCM.out] at heq
      subst heq
      obtain ⟨ooA, ooc, rfl, v1, v2⟩ := ho5.1.form
      obtain ⟨orA, orc, rfl, v3, v4⟩ := ints_form ho5.2.1
      obtain ⟨oiA, oic, rfl, v5, v6⟩ := ints_form ho5.2.2
      rw [HSL.out.1, HSL.out.2.1, HSL.out.2.2] at ho5
      rw [HSL.out.1] at v1 ⊢
      rw [HSL.out.2.1] at v3 ⊢
      rw [HSL.out.2.2] at v5 ⊢
      obtain ⟨w6, hw6⟩ : ∃ W, w5.alloc (.cells #[.slice ooA n ooc, .slice orA nr orc, .slice oiA ni oic] 30) = W := ⟨_, rfl⟩
      have HW6 := Lib.hid hw6
      have hb6 : Below w5.heap.size w5 w6 := by rw [← hw6]; exact below_new _ _
      have HB6 : Hid (Below x.heap.size x w6) := Lib.hid ((HB4.out.trans (hb5.mono HB4.out.size)).trans (hb6.mono (by have := HB4.out.size; have := hb5.size; omega)))
      have HX6 : Hid (NetBox w6 w5.heap.size 30 (.slice ooA n ooc) (.slice orA nr orc) (.slice oiA ni oic)) := Lib.hid (by rw [← hw6]; exact box_new _ _ _ _ _)
      have HX46 : Hid (NetBox w6 w3.heap.size 30 (.slice moA k1 moc) (.slice mrA k2 mrc) (.slice miA k3 mic)) := Lib.hid ((HX4.out.below hb5 HX4.out.lt).below hb6 (Nat.lt_of_lt_of_le HX4.out.lt hb5.size))
      have HXX6 := Lib.hid (HXX.out.below HB6.out HXX.out.lt)
      have HM6 := Lib.hid ((HM4.out.below hb5 (Nat.le_refl _)).below hb6 (Nat.le_refl _))
      have HO6 := Lib.hid (ho5.below hb6 (Nat.le_refl _))
      have HBcur : Hid (Below w6.heap.size w6 w6.drew) := Lib.hid (Below.refl _ _).drew
      have HK : Hid (∀ W, Below w6.heap.size w6 W → W.cell? ⟨w.heap.size, 0, none⟩ = some (.slice A n c) ∧ W.cell? ⟨w3.heap.size, 0, none⟩ = some (.slice moA k1 moc) ∧ W.cell? ⟨w3.heap.size, 1, none⟩ = some (.slice mrA k2 mrc) ∧ W.cell? ⟨w3.heap.size, 2, none⟩ = some (.slice miA k3 mic) ∧ W.cell? ⟨w5.heap.size, 0, none⟩ = some (.slice ooA n ooc) ∧ W.cell? ⟨w5.heap.size, 1, none⟩ = some (.slice orA nr orc) ∧ W.cell? ⟨w5.heap.size, 2, none⟩ = some (.slice oiA ni oic)) := Lib.hid (fun W hW => by
        obtain ⟨a0, a1, a2⟩ := (HXX6.out.below hW HXX6.out.lt).ats
        obtain ⟨b0, b1, b2⟩ := (HX46.out.below hW HX46.out.lt).ats
        obtain ⟨c0, c1, c2⟩ := (HX6.out.below hW HX6.out.lt).ats
        exact ⟨a0, b0, b1, b2, c0, c1, c2⟩)
      have hk1 : k1 = n := by
        obtain ⟨A', c', e, -⟩ := HM4.out.1.form
        rw [HSL.out.1] at e
        injection e
      subst hk1
      clear hb5 ho5 hb6 q0 q1 q2 u1 u2 u3 u4 u5 u6 v1 v2 v3 v4 v5 v6
      go_wp2_with fail
      try rw [HW6.out]
      try clear hw6
      go_region_held3 (fun W => W.cell? ⟨w.heap.size, 0, none⟩ = some (.slice A k1 c) ∧ W.cell? ⟨w3.heap.size, 0, none⟩ = some (.slice moA k1 moc) ∧ W.cell? ⟨w3.heap.size, 1, none⟩ = some (.slice mrA k2 mrc) ∧ W.cell? ⟨w3.heap.size, 2, none⟩ = some (.slice miA k3 mic) ∧ W.cell? ⟨w5.heap.size, 0, none⟩ = some (.slice ooA k1 ooc) ∧ W.cell? ⟨w5.heap.size, 1, none⟩ = some (.slice orA nr orc) ∧ W.cell? ⟨w5.heap.size, 2, none⟩ = some (.slice oiA ni oic))
        (exact HK.out _ HBcur.out)
        (first
          | (go_at_call 24; with_reducible refine (sis_any _ _ _ _ M (HM6.out.below HBcur.out (Nat.le_refl _)) (by rw [HSL.out.2.2]; omega)).mono ?_; rw [HIS.out]; rintro e z1 ⟨rfl, hbz⟩; have HBcur := Lib.hid (HBcur.out.trans (hbz.mono HBcur.out.size)); clear hbz)
          | (go_at_call 23; have htwo := HTone.out; (first | (with_reducible refine (told_any _ _ _ _ M (HO6.out.below HBcur.out (Nat.le_refl _)) (by rw [HSL.out.1]; omega)).mono ?_) | (with_reducible refine (told_any _ _ _ _ M (HM6.out.below HBcur.out (Nat.le_refl _)) (by rw [HSL.out.1]; omega)).mono ?_)); rintro e z3 ⟨tv3, rfl, hot, hbz⟩; have HTtwo := Lib.hid (htwo.below hbz (Nat.le_refl _)); have HTthree := Lib.hid hot; have HBcur := Lib.hid (HBcur.out.trans (hbz.mono HBcur.out.size)); clear hbz hot htwo)
          | (go_at_call 23; (first | (with_reducible refine (told_any _ _ _ _ M (HO6.out.below HBcur.out (Nat.le_refl _)) (by rw [HSL.out.1]; omega)).mono ?_) | (with_reducible refine (told_any _ _ _ _ M (HM6.out.below HBcur.out (Nat.le_refl _)) (by rw [HSL.out.1]; omega)).mono ?_)); rintro e z2 ⟨tv2, rfl, hot, hbz⟩; have HTone := Lib.hid hot; have HBcur := Lib.hid (HBcur.out.trans (hbz.mono HBcur.out.size)); clear hbz hot)
          | (go_at_call 22; (first | (with_reducible refine (same_any _ _ _ _ _ _ _ M (net_mk HTtwo.out (HO6.out.below HBcur.out (Nat.le_refl _))) (net_mk HTthree.out (HM6.out.below HBcur.out (Nat.le_refl _)))).mono ?_) | (with_reducible refine (same_any _ _ _ _ _ _ _ M (net_mk HTthree.out (HO6.out.below HBcur.out (Nat.le_refl _))) (net_mk HTtwo.out (HM6.out.below HBcur.out (Nat.le_refl _)))).mono ?_)); rintro e z4 ⟨rfl, hbz⟩; have HBcur := Lib.hid (HBcur.out.trans (hbz.mono HBcur.out.size)); clear hbz)
          | (go_at_call 15; with_reducible refine (live_any _).mono ?_; rintro e z5 ⟨rfl, hbz⟩; have HBcur := Lib.hid (HBcur.out.trans (hbz.mono HBcur.out.size)); clear hbz))
      all_goals
        go_wp2
        go_ret
        exact ⟨rfl, HBX.out.trans ((HB6.out.trans (HBcur.out.mono HB6.out.size)).mono HBX.out.size)⟩
    · have hne : (C != 0) = true := by simpa using hc
      have hk1 : k1 = 0 := by
        have e : sortN N = emptyN := by unfold sortN; rw [if_neg (by rw [hC]; exact hc)]
        obtain ⟨A', c', e2, -⟩ := HM4.out.1.form
        rw [e] at e2
        injection e2
      subst hk1
      obtain ⟨q0, q1, q2⟩ := HX4.out.ats
      clear hC
      go_wp2_with fail
      rw [HW4.out]
      go_wp2_with fail
      refine (live_any _).mono ?_
      rintro e w9 ⟨rfl, hb9⟩
      go_wp2
      go_ret
      exact ⟨rfl, HBX.out.trans ((HB4.out.trans (hb9.mono HB4.out.size)).mono HBX.out.size)⟩
end Go.Proofs.Ytcphjehjdhgheaa.Nt
