/- SchedSorts: the walk. Conditions: none. -/
import Derived.Test.YtcphjehjdhgheaaSchedAgainW
namespace Go.Proofs.Ytcphjehjdhgheaa.Nt
open Go.ChangeShapes Go.WideShapes Go.ChangeAt Go.RowKit Go.Proofs.Ytcphjehjdhgheaa.Tr
set_option linter.unusedVariables false
set_option linter.unusedSimpArgs false

def ordI (N : Net) : List Int := if checkN N = 0 then natI (orderN N) else []
theorem ord_post {w : World} {N : Net} {e : Ending} {w' : World} (h : EOrdPost w N e w') : ∃ v, e = .returned (.tuple #[v, .int .i64 (checkN N)]) ∧ Ints w' v (ordI N) ∧ Below w.heap.size w w' := by
  obtain ⟨hb, ⟨hc, rfl⟩ | ⟨hc, v, rfl, ho⟩⟩ := h
  · refine ⟨_, rfl, ?_, hb⟩
    unfold ordI; rw [if_neg hc]; exact ints_nil _
  · refine ⟨v, by rw [hc], ?_, hb⟩
    unfold ordI; rw [if_pos hc]
    exact Ints.of_own (b := w.heap.size) (l := natI (orderN N)) (by rw [show (natI (orderN N)).length = (orderN N).length by unfold natI; simp]; exact ho)
theorem sort_le (N : Net) : (sortN N).ops.length ≤ N.ops.length := by
  unfold sortN
  split
  · rename_i h; rw [sorted_len h]; exact Nat.le_refl _
  · exact Nat.zero_le _
set_option maxRecDepth 100000 in
set_option maxHeartbeats 8000000 in
theorem sorts_walk (w : World) (ov rv iv : Value) (N : Net) (h : NetR w ov rv iv N) : Calls Try.prog 3 #[.agg #[ov, rv, iv]] w (fun e w' => e = .returned (.bool true) ∧ Below w.heap.size w w') := by
  have HH := Lib.hid h
  obtain ⟨A, c, rfl, z1, z2⟩ := h.1.form
  obtain ⟨A2, c2, rfl, z3, z4⟩ := ints_form h.2.1
  obtain ⟨A3, c3, rfl, z5, z6⟩ := ints_form h.2.2
  obtain ⟨n, hn⟩ : ∃ n, N.ops.length = n := ⟨_, rfl⟩
  obtain ⟨nr, hnr⟩ : ∃ n, N.roots.length = n := ⟨_, rfl⟩
  obtain ⟨ni, hni⟩ : ∃ n, N.ins.length = n := ⟨_, rfl⟩
  rw [hn, hnr, hni] at HH ⊢
  rw [hn] at z1
  rw [hnr] at z3
  rw [hni] at z5
  have HN := Lib.hid hn
  have HNR := Lib.hid hnr
  have HNI := Lib.hid hni
  unfold maxLen at z2 z4 z6
  obtain ⟨x, hx⟩ : ∃ W, w.alloc (.cells #[.slice A n c, .slice A2 nr c2, .slice A3 ni c3] 25) = W := ⟨_, rfl⟩
  have HX := Lib.hid hx
  have HBX : Hid (Below w.heap.size w x) := Lib.hid (by rw [← hx]; exact below_new _ _)
  have HXX : Hid (NetBox x w.heap.size 25 (.slice A n c) (.slice A2 nr c2) (.slice A3 ni c3)) := Lib.hid (by rw [← hx]; exact box_new _ _ _ _ _)
  have HNX := Lib.hid (HH.out.below HBX.out (Nat.le_refl _))
  obtain ⟨p0, p1, p2⟩ := HXX.out.ats
  obtain ⟨C, hC⟩ : ∃ C, checkN N = C := ⟨_, rfl⟩
  have HC := Lib.hid hC
  clear h hx hn hnr hni hC
  go_enter Try.func3, Try.ntmps3
  go_wp2_with fail
  rw [HX.out]
  refine (dsmall_any x _ _ _ N HNX.out).mono ?_
  rintro e w1 ⟨b, rfl, hb300, hb1⟩
  have HB1 := Lib.hid hb1
  clear hb1
  cases b with
  | false =>
    clear hb300
    go_wp2_with fail
    refine (live_any _).mono ?_
    rintro e w9 ⟨rfl, hb9⟩
    go_wp2
    go_ret
    exact ⟨rfl, HBX.out.trans ((HB1.out.trans (hb9.mono HB1.out.size)).mono HBX.out.size)⟩
  | true =>
    obtain ⟨n3, r3, i3⟩ := hb300 rfl
    rw [HN.out] at n3
    rw [HNR.out] at r3
    rw [HNI.out] at i3
    have HN1 := Lib.hid (HNX.out.below HB1.out (Nat.le_refl _))
    have HX1 := Lib.hid (HXX.out.below HB1.out HXX.out.lt)
    obtain ⟨q0, q1, q2⟩ := HX1.out.ats
    clear hb300 p0 p1 p2
    go_wp2_with fail
    refine (own_any w1 _ _ _ N HN1.out (by rw [HN.out]; omega)).mono ?_
    rintro e w2 ⟨ov2, rfl, ho2, hb2⟩
    have HB2 : Hid (Below x.heap.size x w2) := Lib.hid (HB1.out.trans (hb2.mono HB1.out.size))
    obtain ⟨oA, oc, rfl, u1, u2⟩ := ho2.form
    rw [HN.out] at ho2 u1
    rw [HN.out]
    unfold maxLen at u2
    have HN2 : Hid (NetR w2 (.slice oA n oc) (.slice A2 nr c2) (.slice A3 ni c3) N) := Lib.hid ⟨ho2, HN1.out.2.1.below hb2 (Nat.le_refl _), HN1.out.2.2.below hb2 (Nat.le_refl _)⟩
    obtain ⟨w3, hw3⟩ : ∃ W, w2.alloc (.cells #[.slice oA n oc, .slice A2 nr c2, .slice A3 ni c3] 30) = W := ⟨_, rfl⟩
    have HW3 := Lib.hid hw3
    have hb3 : Below w2.heap.size w2 w3 := by rw [← hw3]; exact below_new _ _
    have HB3 : Hid (Below x.heap.size x w3) := Lib.hid (HB2.out.trans (hb3.mono HB2.out.size))
    have HX3 : Hid (NetBox w3 w2.heap.size 30 (.slice oA n oc) (.slice A2 nr c2) (.slice A3 ni c3)) := Lib.hid (by rw [← hw3]; exact box_new _ _ _ _ _)
    have HN3 := Lib.hid (HN2.out.below hb3 (Nat.le_refl _))
    obtain ⟨x0, x1, x2⟩ := HX3.out.ats
    clear ho2 hb2 hw3 hb3 q0 q1 q2
    go_wp2_with fail
    rw [HW3.out]
    go_wp2_with fail
    refine (sorder_any w3 _ _ _ N HN3.out (by rw [HN.out]; omega) (by rw [HNI.out]; omega)).mono ?_
    intro e w4 hpo
    obtain ⟨av, rfl, ha, hb4⟩ := ord_post hpo
    rw [HC.out]
    have HA := Lib.hid ha
    have HB34 := Lib.hid hb4
    have HB4 : Hid (Below x.heap.size x w4) := Lib.hid (HB3.out.trans (hb4.mono HB3.out.size))
    obtain ⟨q0, q1, q2⟩ := (HXX.out.below HB4.out HXX.out.lt).ats
    clear hpo ha hb4 x0 x1 x2
    go_wp2_with fail
    refine (eorder_any w4 _ _ _ N (HNX.out.below HB4.out (Nat.le_refl _))).mono ?_
    intro e w5 hpo
    obtain ⟨bv, rfl, hb, hb5⟩ := ord_post hpo
    rw [HC.out]
    have HB := Lib.hid hb
    have HA5 := Lib.hid (HA.out.below hb5 (Nat.le_refl _))
    have HB35 : Hid (Below w3.heap.size w3 w5) := Lib.hid (HB34.out.trans (hb5.mono HB34.out.size))
    have HB5 : Hid (Below x.heap.size x w5) := Lib.hid (HB3.out.trans (HB35.out.mono HB3.out.size))
    obtain ⟨x0, x1, x2⟩ := (HX3.out.below HB35.out HX3.out.lt).ats
    clear hpo hb hb5 q0 q1 q2
    go_wp2_with fail
    refine (ssort_any w5 _ _ _ N (HN3.out.below HB35.out (Nat.le_refl _)) (by rw [HN.out]; omega) (by rw [HNR.out]; omega) (by rw [HNI.out]; omega)).mono ?_
    rintro e w6 ⟨hb6, mo, mr, mi, rfl, hm⟩
    rw [HC.out]
    have HSL : Hid ((sortN N).ops.length ≤ 1000) := Lib.hid (by have := sort_le N; rw [HN.out] at this; omega)
    obtain ⟨M, hM⟩ : ∃ M, sortN N = M := ⟨_, rfl⟩
    have HM := Lib.hid hM
    rw [hM] at hm HSL
    obtain ⟨k1, hk1⟩ : ∃ k, M.ops.length = k := ⟨_, rfl⟩
    obtain ⟨k2, hk2⟩ : ∃ k, M.roots.length = k := ⟨_, rfl⟩
    obtain ⟨k3, hk3⟩ : ∃ k, M.ins.length = k := ⟨_, rfl⟩
    obtain ⟨moA, moc, rfl, u3, u4⟩ := hm.1.form
    obtain ⟨mrA, mrc, rfl, u5, u6⟩ := ints_form hm.2.1
    obtain ⟨miA, mic, rfl, u7, u8⟩ := ints_form hm.2.2
    rw [hk1, hk2, hk3] at hm ⊢
    have HK1 := Lib.hid hk1
    have HK2 := Lib.hid hk2
    have HK3 := Lib.hid hk3
    obtain ⟨w7, hw7⟩ : ∃ W, w6.alloc (.cells #[.slice moA k1 moc, .slice mrA k2 mrc, .slice miA k3 mic] 30) = W := ⟨_, rfl⟩
    have HW7 := Lib.hid hw7
    have hb7 : Below w6.heap.size w6 w7 := by rw [← hw7]; exact below_new _ _
    have HB37 : Hid (Below w3.heap.size w3 w7) := Lib.hid (HB35.out.trans ((hb6.trans (hb7.mono hb6.size)).mono HB35.out.size))
    have HB57 : Hid (Below w5.heap.size w5 w7) := Lib.hid (hb6.trans (hb7.mono hb6.size))
    have HB7 : Hid (Below x.heap.size x w7) := Lib.hid (HB3.out.trans (HB37.out.mono HB3.out.size))
    have HX7 : Hid (NetBox w7 w6.heap.size 30 (.slice moA k1 moc) (.slice mrA k2 mrc) (.slice miA k3 mic)) := Lib.hid (by rw [← hw7]; exact box_new _ _ _ _ _)
    have HM7 := Lib.hid (hm.below hb7 (Nat.le_refl _))
    obtain ⟨q0, q1, q2⟩ := (HXX.out.below HB7.out HXX.out.lt).ats
    clear hb6 hm hb7 hM hk1 hk2 hk3 x0 x1 x2 u3 u4 u5 u6 u7 u8
    go_wp2_with fail
    clear hw7
    refine (esort_any w7 _ _ _ N (HNX.out.below HB7.out (Nat.le_refl _)) (by rw [HN.out]; omega) (by rw [HNR.out]; omega) (by rw [HNI.out]; omega)).mono ?_
    rintro e w8 ⟨hb8, no, nr', ni', rfl, hd⟩
    rw [HC.out]
    rw [HM.out] at hd
    obtain ⟨noA, noc, rfl, u3, u4⟩ := hd.1.form
    obtain ⟨nrA, nrc, rfl, u5, u6⟩ := ints_form hd.2.1
    obtain ⟨niA, nic, rfl, u7, u8⟩ := ints_form hd.2.2
    rw [HK1.out, HK2.out, HK3.out] at hd ⊢
    obtain ⟨w9, hw9⟩ : ∃ W, w8.alloc (.cells #[.slice noA k1 noc, .slice nrA k2 nrc, .slice niA k3 nic] 25) = W := ⟨_, rfl⟩
    have HW9 := Lib.hid hw9
    have hb9 : Below w8.heap.size w8 w9 := by rw [← hw9]; exact below_new _ _
    have HB79 : Hid (Below w7.heap.size w7 w9) := Lib.hid (hb8.trans (hb9.mono hb8.size))
    have HB59 : Hid (Below w5.heap.size w5 w9) := Lib.hid (HB57.out.trans (HB79.out.mono HB57.out.size))
    have HB39 : Hid (Below w3.heap.size w3 w9) := Lib.hid (HB37.out.trans (HB79.out.mono HB37.out.size))
    have HB9 : Hid (Below x.heap.size x w9) := Lib.hid (HB3.out.trans (HB39.out.mono HB3.out.size))
    have HX9 : Hid (NetBox w9 w8.heap.size 25 (.slice noA k1 noc) (.slice nrA k2 nrc) (.slice niA k3 nic)) := Lib.hid (by rw [← hw9]; exact box_new _ _ _ _ _)
    have HD9 := Lib.hid (hd.below hb9 (Nat.le_refl _))
    have HM9 := Lib.hid (HM7.out.below HB79.out (Nat.le_refl _))
    have HX79 := Lib.hid (HX7.out.below HB79.out HX7.out.lt)
    have HX39 := Lib.hid (HX3.out.below HB39.out HX3.out.lt)
    have HXX9 := Lib.hid (HXX.out.below HB9.out HXX.out.lt)
    have HN9 := Lib.hid (HN3.out.below HB39.out (Nat.le_refl _))
    have HND9 := Lib.hid (HNX.out.below HB9.out (Nat.le_refl _))
    have HA9 := Lib.hid (HA5.out.below HB59.out (Nat.le_refl _))
    have HBb9 := Lib.hid (HB.out.below HB59.out (Nat.le_refl _))
    have HBcur : Hid (Below w9.heap.size w9 w9.drew) := Lib.hid (Below.refl _ _).drew
    have HKK : Hid (∀ W, Below w9.heap.size w9 W → W.cell? ⟨w.heap.size, 0, none⟩ = some (.slice A n c) ∧ W.cell? ⟨w.heap.size, 1, none⟩ = some (.slice A2 nr c2) ∧ W.cell? ⟨w.heap.size, 2, none⟩ = some (.slice A3 ni c3)
      ∧ W.cell? ⟨w2.heap.size, 0, none⟩ = some (.slice oA n oc) ∧ W.cell? ⟨w2.heap.size, 1, none⟩ = some (.slice A2 nr c2) ∧ W.cell? ⟨w2.heap.size, 2, none⟩ = some (.slice A3 ni c3)
      ∧ W.cell? ⟨w6.heap.size, 0, none⟩ = some (.slice moA k1 moc) ∧ W.cell? ⟨w6.heap.size, 1, none⟩ = some (.slice mrA k2 mrc) ∧ W.cell? ⟨w6.heap.size, 2, none⟩ = some (.slice miA k3 mic)
      ∧ W.cell? ⟨w8.heap.size, 0, none⟩ = some (.slice noA k1 noc) ∧ W.cell? ⟨w8.heap.size, 1, none⟩ = some (.slice nrA k2 nrc) ∧ W.cell? ⟨w8.heap.size, 2, none⟩ = some (.slice niA k3 nic)) := Lib.hid (fun W hW => by
        obtain ⟨a0, a1, a2⟩ := (HXX9.out.below hW HXX9.out.lt).ats
        obtain ⟨b0, b1, b2⟩ := (HX39.out.below hW HX39.out.lt).ats
        obtain ⟨c0, c1, c2⟩ := (HX79.out.below hW HX79.out.lt).ats
        obtain ⟨d0, d1, d2⟩ := (HX9.out.below hW HX9.out.lt).ats
        exact ⟨a0, a1, a2, b0, b1, b2, c0, c1, c2, d0, d1, d2⟩)
    obtain ⟨bI, hbI⟩ : ∃ b, isN N = b := ⟨_, rfl⟩
    have HBI := Lib.hid hbI
    obtain ⟨E, hE⟩ : ∃ b, endsN N = b := ⟨_, rfl⟩
    have HE := Lib.hid hE
    clear hb8 hd hb9 hbI hE q0 q1 q2 u3 u4 u5 u6 u7 u8
    go_wp2_with fail
    try rw [HW9.out]
    try clear hw9
    go_region_held3 (fun W => W.cell? ⟨w.heap.size, 0, none⟩ = some (.slice A n c) ∧ W.cell? ⟨w.heap.size, 1, none⟩ = some (.slice A2 nr c2) ∧ W.cell? ⟨w.heap.size, 2, none⟩ = some (.slice A3 ni c3)
      ∧ W.cell? ⟨w2.heap.size, 0, none⟩ = some (.slice oA n oc) ∧ W.cell? ⟨w2.heap.size, 1, none⟩ = some (.slice A2 nr c2) ∧ W.cell? ⟨w2.heap.size, 2, none⟩ = some (.slice A3 ni c3)
      ∧ W.cell? ⟨w6.heap.size, 0, none⟩ = some (.slice moA k1 moc) ∧ W.cell? ⟨w6.heap.size, 1, none⟩ = some (.slice mrA k2 mrc) ∧ W.cell? ⟨w6.heap.size, 2, none⟩ = some (.slice miA k3 mic)
      ∧ W.cell? ⟨w8.heap.size, 0, none⟩ = some (.slice noA k1 noc) ∧ W.cell? ⟨w8.heap.size, 1, none⟩ = some (.slice nrA k2 nrc) ∧ W.cell? ⟨w8.heap.size, 2, none⟩ = some (.slice niA k3 nic))
      (exact HKK.out _ HBcur.out)
      (first
        | (go_at_call 21; with_reducible refine (ints_eq _ _ _ E HE1.out HE2.out).mono ?_; rintro e z1 ⟨rfl, hbz⟩; have HBcur := Lib.hid (HBcur.out.trans (hbz.mono HBcur.out.size)); clear hbz)
        | (go_at_call 21; with_reducible refine (ints_eq _ _ _ (ordI N) (HA9.out.below HBcur.out (Nat.le_refl _)) (HBb9.out.below HBcur.out (Nat.le_refl _))).mono ?_; rintro e z1 ⟨rfl, hbz⟩; have HBcur := Lib.hid (HBcur.out.trans (hbz.mono HBcur.out.size)); clear hbz)
        | (go_at_call 23; with_reducible refine (told_any _ _ _ _ M (HM9.out.below HBcur.out (Nat.le_refl _)) (by rw [HK1.out] at HSL; rw [HK1.out]; exact HSL.out)).mono ?_; rintro e z2 ⟨tv2, rfl, hot, hbz⟩; have HTone := Lib.hid hot; have HBcur := Lib.hid (HBcur.out.trans (hbz.mono HBcur.out.size)); clear hbz hot)
        | (go_at_call 22; with_reducible refine (same_any _ _ _ _ _ _ _ M (net_mk HTone.out (HM9.out.below HBcur.out (Nat.le_refl _))) (HD9.out.below HBcur.out (Nat.le_refl _))).mono ?_; rintro e z4 ⟨rfl, hbz⟩; have HBcur := Lib.hid (HBcur.out.trans (hbz.mono HBcur.out.size)); clear hbz)
        | (go_at_call 24; with_reducible refine (sis_any _ _ _ _ N (HN9.out.below HBcur.out (Nat.le_refl _)) (by rw [HNI.out]; omega)).mono ?_; rw [HBI.out]; rintro e z1 ⟨rfl, hbz⟩; have HBcur := Lib.hid (HBcur.out.trans (hbz.mono HBcur.out.size)); clear hbz)
        | (go_at_call 25; with_reducible refine (eis_any _ _ _ _ N (HND9.out.below HBcur.out (Nat.le_refl _))).mono ?_; rw [HBI.out]; rintro e z1 ⟨rfl, hbz⟩; have HBcur := Lib.hid (HBcur.out.trans (hbz.mono HBcur.out.size)); clear hbz)
        | (go_at_call 26; with_reducible refine (sends_any _ _ _ _ N (HN9.out.below HBcur.out (Nat.le_refl _)) (by rw [HNI.out]; omega)).mono ?_; rw [HE.out]; rintro e z1 ⟨v1, rfl, hov, hbz⟩; have HE1 := Lib.hid (Ints.of_own hov); have HBcur := Lib.hid (HBcur.out.trans (hbz.mono HBcur.out.size)); clear hbz hov)
        | (go_at_call 27; with_reducible refine (eends_any _ _ _ _ N (HND9.out.below HBcur.out (Nat.le_refl _))).mono ?_; rw [HE.out]; rintro e z1 ⟨v2, rfl, hov, hbz⟩; have HE2 := Lib.hid (Ints.of_own hov); have HE1 := Lib.hid (HE1.out.below hbz (Nat.le_refl _)); have HBcur := Lib.hid (HBcur.out.trans (hbz.mono HBcur.out.size)); clear hbz hov)
        | (go_at_call 15; with_reducible refine (live_any _).mono ?_; rintro e z5 ⟨rfl, hbz⟩; have HBcur := Lib.hid (HBcur.out.trans (hbz.mono HBcur.out.size)); clear hbz))
    all_goals
      go_wp2
      go_ret
      exact ⟨rfl, HBX.out.trans ((HB9.out.trans (HBcur.out.mono HB9.out.size)).mono HBX.out.size)⟩
end Go.Proofs.Ytcphjehjdhgheaa.Nt
