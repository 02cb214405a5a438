/- SchedEnds: the walk. Conditions: none. -/
import Derived.Test.YtlilpdflnjepeaaNtLv
import Derived.Test.YtlilpdflnjepeaaNtNd
namespace Go.Proofs.Ytlilpdflnjepeaa.Nt
open Go.ChangeShapes Go.WideShapes Go.ChangeAt Go.RowKit Go.Proofs.Ytlilpdflnjepeaa.Tr
set_option linter.unusedVariables false
set_option linter.unusedSimpArgs false

theorem need_nd {N : Net} (hm : mayN N = true) {k i : Nat} (hk : k < N.ops.length) : (i : Int) ∈ needI (opAt N k) ↔ i ∈ ndN N k := by
  constructor
  · intro h; exact List.mem_map.2 ⟨_, h, by simp⟩
  · intro h
    obtain ⟨y, hy, e⟩ := List.mem_map.1 h
    have := need_flds (may_at hm hk) y hy
    have : y = (i : Int) := by omega
    rw [← this]; exact hy
/-- What the law asks of each two operators. -/
theorem ends_spec {N : Net} (hm : mayN N = true) {i k : Nat} (hi : i < N.ops.length) (hk : k < N.ops.length) :
    ((i : Int) ∈ needI (opAt N k) → (k : Int) ≤ lastTo N N.ops.length i) ∧ ((k : Int) = lastTo N N.ops.length i → (i : Int) ∈ needI (opAt N k)) := by
  obtain ⟨h1, h2⟩ := last_spec N i N.ops.length
  exact ⟨fun h => h1 k hk ((need_nd hm hk).1 h), fun h => (need_nd hm hk).2 (h2 k h).2⟩
theorem ends_get {N : Net} (h : isN N = true) {i : Nat} (hi : i < N.ops.length) : (endsN N)[i]? = some (lastTo N N.ops.length i) := by
  unfold endsN endsOf
  rw [if_pos h, List.getElem?_map, List.getElem?_range hi]; rfl
theorem ends_len {N : Net} (h : isN N = true) : (endsN N).length = N.ops.length := by
  unfold endsN endsOf
  rw [if_pos h]; simp
set_option maxRecDepth 100000 in
set_option maxHeartbeats 8000000 in
theorem ends_walk (w : World) (ov rv iv : Value) (N : Net) (h : NetR w ov rv iv N) : Calls Try.prog 7 #[.agg #[ov, rv, iv]] w (fun e w' => e = .returned (.bool true) ∧ Below w.heap.size w w') := by
  have HH := Lib.hid h
  obtain ⟨A, c, rfl, z1, z2⟩ := h.1.form
  obtain ⟨A2, c2, rfl, z3, z4⟩ := ints_form h.2.1
  obtain ⟨A3, c3, rfl, z5, z6⟩ := ints_form h.2.2
  obtain ⟨n, hn⟩ : ∃ n, N.ops.length = n := ⟨_, rfl⟩
  obtain ⟨nr, hnr⟩ : ∃ n, N.roots.length = n := ⟨_, rfl⟩
  obtain ⟨ni, hni⟩ : ∃ n, N.ins.length = n := ⟨_, rfl⟩
  rw [hn, hnr, hni] at HH ⊢
  rw [hn] at z1
  rw [hnr] at z3
  rw [hni] at z5
  have HN := Lib.hid hn
  have HNR := Lib.hid hnr
  have HNI := Lib.hid hni
  unfold maxLen at z2 z4 z6
  obtain ⟨x, hx⟩ : ∃ W, w.alloc (.cells #[.slice A n c, .slice A2 nr c2, .slice A3 ni c3] 25) = W := ⟨_, rfl⟩
  have HX := Lib.hid hx
  have HBX : Hid (Below w.heap.size w x) := Lib.hid (by rw [← hx]; exact below_new _ _)
  have HXX : Hid (NetBox x w.heap.size 25 (.slice A n c) (.slice A2 nr c2) (.slice A3 ni c3)) := Lib.hid (by rw [← hx]; exact box_new _ _ _ _ _)
  have HNX := Lib.hid (HH.out.below HBX.out (Nat.le_refl _))
  obtain ⟨p0, p1, p2⟩ := HXX.out.ats
  clear h hx hn hnr hni
  go_enter Try.func7, Try.ntmps7
  go_wp2_with fail
  rw [HX.out]
  refine (dsmall_any x _ _ _ N HNX.out).mono ?_
  rintro e w1 ⟨b, rfl, hb300, hb1⟩
  have HB1 := Lib.hid hb1
  clear hb1
  cases b with
  | false =>
    clear hb300
    go_wp2_with fail
    refine (live_any _).mono ?_
    rintro e w9 ⟨rfl, hb9⟩
    go_wp2
    go_ret
    exact ⟨rfl, HBX.out.trans ((HB1.out.trans (hb9.mono HB1.out.size)).mono HBX.out.size)⟩
  | true =>
    obtain ⟨n3, r3, i3⟩ := hb300 rfl
    rw [HN.out] at n3
    rw [HNR.out] at r3
    rw [HNI.out] at i3
    have HN1 := Lib.hid (HNX.out.below HB1.out (Nat.le_refl _))
    have HX1 := Lib.hid (HXX.out.below HB1.out HXX.out.lt)
    obtain ⟨q0, q1, q2⟩ := HX1.out.ats
    clear hb300 p0 p1 p2
    go_wp2_with fail
    refine (own_any w1 _ _ _ N HN1.out (by rw [HN.out]; omega)).mono ?_
    rintro e w2 ⟨ov2, rfl, ho2, hb2⟩
    have HB2 : Hid (Below x.heap.size x w2) := Lib.hid (HB1.out.trans (hb2.mono HB1.out.size))
    have HN2 : Hid (NetR w2 ov2 (.slice A2 nr c2) (.slice A3 ni c3) N) := Lib.hid ⟨ho2, HN1.out.2.1.below hb2 (Nat.le_refl _), HN1.out.2.2.below hb2 (Nat.le_refl _)⟩
    clear ho2 hb2
    go_wp2_with fail
    refine (ssort_any w2 _ _ _ N HN2.out (by rw [HN.out]; omega) (by rw [HNR.out]; omega) (by rw [HNI.out]; omega)).mono ?_
    obtain ⟨C, hC⟩ : ∃ C, checkN N = C := ⟨_, rfl⟩
    have HC := Lib.hid hC
    rintro e w3 ⟨hb3, mo, mr, mi, rfl, hm⟩
    have HB3 : Hid (Below x.heap.size x w3) := Lib.hid (HB2.out.trans (hb3.mono HB2.out.size))
    obtain ⟨moA, moc, rfl, u1, u2⟩ := hm.1.form
    obtain ⟨mrA, mrc, rfl, u3, u4⟩ := ints_form hm.2.1
    obtain ⟨miA, mic, rfl, u5, u6⟩ := ints_form hm.2.2
    generalize (sortN N).ops.length = k1 at *
    generalize (sortN N).roots.length = k2 at *
    generalize (sortN N).ins.length = k3 at *
    have HM := Lib.hid hm
    obtain ⟨w4, hw4⟩ : ∃ W, w3.alloc (.cells #[.slice moA k1 moc, .slice mrA k2 mrc, .slice miA k3 mic] 30) = W := ⟨_, rfl⟩
    have HW4 := Lib.hid hw4
    have hb4 : Below w3.heap.size w3 w4 := by rw [← hw4]; exact below_new _ _
    have HB4 : Hid (Below x.heap.size x w4) := Lib.hid (HB3.out.trans (hb4.mono HB3.out.size))
    have HX4 : Hid (NetBox w4 w3.heap.size 30 (.slice moA k1 moc) (.slice mrA k2 mrc) (.slice miA k3 mic)) := Lib.hid (by rw [← hw4]; exact box_new _ _ _ _ _)
    have HM4 := Lib.hid (hm.below hb4 (Nat.le_refl _))
    rw [hC]
    clear hb3 hm hw4 hb4 q0 q1 q2
    by_cases hc : C = 0
    · subst hc
      have HIS : Hid (isN (sortN N) = true) := Lib.hid (by rw [show sortN N = sortedN N by unfold sortN; rw [if_pos hC]]; exact sorted_is hC)
      have HMAY : Hid (mayN (sortN N) = true) := Lib.hid (by rw [show sortN N = sortedN N by unfold sortN; rw [if_pos hC]]; exact sorted_may hC)
      have HSL : Hid ((sortN N).ops.length = n ∧ (sortN N).ins.length ≤ 100000) := Lib.hid (by
        rw [show sortN N = sortedN N by unfold sortN; rw [if_pos hC]]
        refine ⟨(sorted_len hC).trans HN.out, ?_⟩
        show N.ins.length ≤ 100000
        rw [HNI.out]; omega)
      obtain ⟨M, hM⟩ : ∃ M, sortN N = M := ⟨_, rfl⟩
      rw [hM] at HIS HMAY HSL HM4
      obtain ⟨q0, q1, q2⟩ := HX4.out.ats
      clear hC hM HM
      go_wp2_with fail
      rw [HW4.out]
      go_wp2_with fail
      refine (told_any w4 _ _ _ M HM4.out (by rw [HSL.out.1]; omega)).mono ?_
      rintro e w5 ⟨tov, rfl, hto, hb5⟩
      have HB5 : Hid (Below x.heap.size x w5) := Lib.hid (HB4.out.trans (hb5.mono HB4.out.size))
      obtain ⟨tA, tc, rfl, t1, t2⟩ := hto.form
      have HTO := Lib.hid hto
      rw [HSL.out.1] at HTO t1 ⊢
      unfold maxLen at t2
      obtain ⟨w6, hw6⟩ : ∃ W, w5.alloc (.cells #[.slice tA n tc, .slice mrA k2 mrc, .slice miA k3 mic] 25) = W := ⟨_, rfl⟩
      have HW6 := Lib.hid hw6
      have hb6 : Below w5.heap.size w5 w6 := by rw [← hw6]; exact below_new _ _
      have HB6 : Hid (Below x.heap.size x w6) := Lib.hid (HB5.out.trans (hb6.mono HB5.out.size))
      have HX6 : Hid (NetBox w6 w5.heap.size 25 (.slice tA n tc) (.slice mrA k2 mrc) (.slice miA k3 mic)) := Lib.hid (by rw [← hw6]; exact box_new _ _ _ _ _)
      have HX46 : Hid (NetBox w6 w3.heap.size 30 (.slice moA k1 moc) (.slice mrA k2 mrc) (.slice miA k3 mic)) := Lib.hid ((HX4.out.below hb5 HX4.out.lt).below hb6 (Nat.lt_of_lt_of_le HX4.out.lt hb5.size))
      have HM6 := Lib.hid ((HM4.out.below hb5 (Nat.le_refl _)).below hb6 (Nat.le_refl _))
      have HTO6 := Lib.hid (HTO.out.below hb6 (Nat.le_refl _))
      obtain ⟨s0, s1, s2⟩ := HX46.out.ats
      obtain ⟨r0, r1, r2⟩ := HX6.out.ats
      clear hto hb5 hb6 q0 q1 q2
      go_wp2_with fail
      try rw [HW6.out]
      try go_wp2_with fail
      clear hw6
      refine (sends_any w6 _ _ _ M HM6.out HSL.out.2).mono ?_
      rintro e w7 ⟨ve, rfl, hve, hb7⟩
      have HB7 : Hid (Below x.heap.size x w7) := Lib.hid (HB6.out.trans (hb7.mono HB6.out.size))
      have HVE := Lib.hid (Ints.of_own hve)
      obtain ⟨eA, ec, rfl, e1, e2⟩ := ints_form HVE.out
      rw [ends_len HIS.out, HSL.out.1] at HVE e1 ⊢
      unfold maxLen at e2
      have HX7 := Lib.hid (HX6.out.below hb7 HX6.out.lt)
      have HTO7 := Lib.hid (HTO6.out.below hb7 (Nat.le_refl _))
      obtain ⟨r0, r1, r2⟩ := HX7.out.ats
      clear hve hb7 s0 s1 s2
      go_wp2_with fail
      go_loopw [7] (fun vi wr => ∃ i : Nat, i ≤ n ∧ vi = .int .i64 (i : Int) ∧ Below w7.heap.size w7 wr) (fun vi _ => n - (intOf vi).toNat)
      case atStart => exact ⟨0, Nat.zero_le _, rfl, Below.refl _ _⟩
      case round =>
        obtain ⟨i, hi, rfl, hb⟩ := hrel
        have HBi := Lib.hid hb
        obtain ⟨y0, y1, y2⟩ := (HX7.out.below hb HX7.out.lt).ats
        clear hb
        by_cases hin : i < n
        · go_wp2_with fail
          go_loopw [8] (fun vi wr => ∃ k : Nat, k ≤ n ∧ vi = .int .i64 (k : Int) ∧ Below w7.heap.size w7 wr) (fun vi _ => n - (intOf vi).toNat)
          case atStart => exact ⟨0, Nat.zero_le _, rfl, HBi.out⟩
          case round =>
            obtain ⟨k, hk, rfl, hb⟩ := hrel
            have HBk := Lib.hid hb
            obtain ⟨y0, y1, y2⟩ := (HX7.out.below hb HX7.out.lt).ats
            clear hb
            by_cases hkn : k < n
            · have hxx := op_get (N := M) (i := k) (by rw [HSL.out.1]; exact hkn)
              obtain ⟨g2, o2, rfl, hg2, d0, d1, d2, d3, d4⟩ := (HTO7.out.below HBk.out (Nat.le_refl _)).at hxx
              have HND := Lib.hid (lneeds_any wr (opAt M k) (i : Int) (may_flds (may_at HMAY.out (by rw [HSL.out.1]; exact hkn))).1)
              have hes := ends_spec HMAY.out (i := i) (k := k) (by rw [HSL.out.1]; exact hin) (by rw [HSL.out.1]; exact hkn)
              have hge := ends_get HIS.out (i := i) (by rw [HSL.out.1]; exact hin)
              obtain ⟨E, hE⟩ : ∃ E, lastTo M M.ops.length i = E := ⟨_, rfl⟩
              rw [hE] at hes hge
              obtain ⟨g3, o3, rfl, hg3, f0⟩ := ints_at HVE.out hge
              have f1 := (HBk.out.cell (p := ⟨g3, o3 + i, none⟩) hg3).trans f0
              obtain ⟨b, hbb⟩ : ∃ b, decide ((i : Int) ∈ needI (opAt M k)) = b := ⟨_, rfl⟩
              rw [hbb] at HND
              obtain ⟨xx, hxx2⟩ : ∃ x, opAt M k = x := ⟨_, rfl⟩
              rw [hxx2] at d0 d1 d2 d3 d4 HND hes hbb
              obtain ⟨xo, xa, xb, xc, xn⟩ := xx
              dsimp only at d0 d1 d2 d3 d4
              unfold opV at HND
              dsimp only at HND
              have h1 : b = true → ¬ (E < (k : Int)) := fun h => by
                have := hes.1 (of_decide_eq_true (hbb.trans h)); omega
              have h2 : b = false → ¬ ((k : Int) = E) := fun h e => by
                exact of_decide_eq_false (hbb.trans h) (hes.2 e)
              clear hxx hE hxx2 hge f0 hes hbb
              go_wp2_with fail
              refine HND.out.mono ?_
              rintro e w8 ⟨rfl, hb8⟩
              have HB8 : Hid (Below w7.heap.size w7 w8) := Lib.hid (HBk.out.trans (hb8.mono HBk.out.size))
              have f2 := (hb8.cell (p := ⟨g3, o3 + i, none⟩) (Nat.lt_of_lt_of_le hg3 HBk.out.size)).trans f1
              clear hb8 f1 d0 d1 d2 d3 d4 y0 y1 y2
              cases b with
              | true =>
                have h3 := h1 rfl
                by_cases hq : (k : Int) = E
                · subst hq
                  clear h1 h2
                  go_wp2_with fail
                  exact ⟨⟨k + 1, by omega, by go_num, HB8.out⟩, by simp [intOf]; omega⟩
                · clear h1 h2
                  have hqb : ((k : Int) == E) = false := by simpa using hq
                  go_wp2_with fail
                  exact ⟨⟨k + 1, by omega, by go_num, HB8.out⟩, by simp [intOf]; omega⟩
              | false =>
                have h3 := h2 rfl
                have hqb : ((k : Int) == E) = false := by simpa using h3
                clear h1 h2
                go_wp2_with fail
                exact ⟨⟨k + 1, by omega, by go_num, HB8.out⟩, by simp [intOf]; omega⟩
            · have hke : k = n := by omega
              subst hke
              go_wp2_with fail
              exact ⟨⟨i + 1, by omega, by go_num, HBk.out⟩, by simp [intOf]; omega⟩
        · have hie : i = n := by omega
          subst hie
          go_wp2_with fail
          refine (live_any _).mono ?_
          rintro e w9 ⟨rfl, hb9⟩
          go_wp2
          go_ret
          exact ⟨rfl, HBX.out.trans (((HB7.out.trans (HBi.out.mono HB7.out.size)).trans (hb9.mono (by have := HB7.out.size; have := HBi.out.size; omega))).mono HBX.out.size)⟩
    · have hne : (C != 0) = true := by simpa using hc
      clear hC
      go_wp2_with fail
      rw [HW4.out]
      go_wp2_with fail
      refine (live_any _).mono ?_
      rintro e w9 ⟨rfl, hb9⟩
      go_wp2
      go_ret
      exact ⟨rfl, HBX.out.trans ((HB4.out.trans (hb9.mono HB4.out.size)).mono HBX.out.size)⟩
end Go.Proofs.Ytlilpdflnjepeaa.Nt
