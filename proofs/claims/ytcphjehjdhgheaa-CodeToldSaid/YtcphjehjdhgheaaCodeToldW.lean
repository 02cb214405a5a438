/- CodeTold: the walk. Conditions: none. -/
import Derived.Test.YtcphjehjdhgheaaKnX
import Derived.Test.YtcphjehjdhgheaaKnY
namespace Go.Proofs.Ytcphjehjdhgheaa.Nt
open Go.ChangeShapes Go.WideShapes Go.ChangeAt Go.RowKit Go.Proofs.Ytcphjehjdhgheaa.Tr
set_option linter.unusedVariables false
set_option linter.unusedSimpArgs false

set_option maxRecDepth 100000 in
set_option maxHeartbeats 8000000 in
theorem told_walk (w : World) (ov rv iv : Value) (N : Net) (h : NetR w ov rv iv N) (tv : Value) (told : List Int) (ht : Ints w tv told) (lv : Value) (l : List (List Int)) (hl : RowsR w lv l) : Calls Try.prog 9 #[.agg #[ov, rv, iv], tv, lv] w (fun e w' => e = .returned (.bool true) ∧ Below w.heap.size w w') := by
  have HH := Lib.hid h
  have HT := Lib.hid ht
  have HL := Lib.hid hl
  obtain ⟨A, c, rfl, z1, z2⟩ := h.1.form
  obtain ⟨A2, c2, rfl, z3, z4⟩ := ints_form h.2.1
  obtain ⟨A3, c3, rfl, z5, z6⟩ := ints_form h.2.2
  obtain ⟨TA, tc, rfl, z7, z8⟩ := ints_form ht
  obtain ⟨n, hn⟩ : ∃ n, N.ops.length = n := ⟨_, rfl⟩
  obtain ⟨nr, hnr⟩ : ∃ n, N.roots.length = n := ⟨_, rfl⟩
  obtain ⟨ni, hni⟩ : ∃ n, N.ins.length = n := ⟨_, rfl⟩
  obtain ⟨nt, hnt⟩ : ∃ n, told.length = n := ⟨_, rfl⟩
  rw [hn, hnr, hni] at HH
  rw [hnt] at HT
  rw [hn, hnr, hni, hnt]
  rw [hn] at z1
  rw [hnr] at z3
  rw [hni] at z5
  rw [hnt] at z7
  have HN := Lib.hid hn
  have HNR := Lib.hid hnr
  have HNI := Lib.hid hni
  have HNT := Lib.hid hnt
  unfold maxLen at z2 z4 z6 z8
  obtain ⟨x, hx⟩ : ∃ W, w.alloc (.cells #[.slice A n c, .slice A2 nr c2, .slice A3 ni c3] 25) = W := ⟨_, rfl⟩
  have HX := Lib.hid hx
  have HBX : Hid (Below w.heap.size w x) := Lib.hid (by rw [← hx]; exact below_new _ _)
  have HXX : Hid (NetBox x w.heap.size 25 (.slice A n c) (.slice A2 nr c2) (.slice A3 ni c3)) := Lib.hid (by rw [← hx]; exact box_new _ _ _ _ _)
  have HNX := Lib.hid (HH.out.below HBX.out (Nat.le_refl _))
  have HTX := Lib.hid (HT.out.below HBX.out (Nat.le_refl _))
  have HLX := Lib.hid (HL.out.below HBX.out (Nat.le_refl _))
  have HLV : Hid (∀ V, Below x.heap.size x V → Calls Try.prog 32 #[] V (fun e w' => e = .returned (.bool true) ∧ Below w.heap.size w w')) := Lib.hid (fun V hV => (live6_any V).mono (by
    rintro e w2 ⟨rfl, hb2⟩
    exact ⟨rfl, HBX.out.trans ((hV.trans (hb2.mono hV.size)).mono HBX.out.size)⟩))
  obtain ⟨p0, p1, p2⟩ := HXX.out.ats
  clear h ht hl hx hn hnr hni hnt
  go_enter Try.func9, Try.ntmps9
  go_wp2_with fail
  rw [HX.out]
  refine (dsmall_any x _ _ _ N HNX.out).mono ?_
  rintro e w1 ⟨b, rfl, hb300, hb1⟩
  have HB1 := Lib.hid hb1
  clear hb1 p0 p1 p2
  cases b with
  | false =>
    clear hb300
    go_wp2_with fail
    refine (HLV.out w1 HB1.out).mono ?_
    rintro e w9 ⟨rfl, hb9⟩
    have HB9 := Lib.hid hb9
    clear hb9
    go_wp2
    go_ret
    exact ⟨rfl, HB9.out⟩
  | true =>
    obtain ⟨n3, r3, i3⟩ := hb300 rfl
    rw [HN.out] at n3
    rw [HNR.out] at r3
    rw [HNI.out] at i3
    clear hb300
    go_wp2_with fail
    refine (fewi_any w1 lv l (HLX.out.below HB1.out (Nat.le_refl _))).mono ?_
    rintro e w1' ⟨b, rfl, hfew, hb1'⟩
    have HB1' : Hid (Below x.heap.size x w1') := Lib.hid (HB1.out.trans (hb1'.mono HB1.out.size))
    clear hb1'
    obtain ⟨q0, q1, q2⟩ := (HXX.out.below HB1'.out HXX.out.lt).ats
    cases b with
    | false =>
      clear hfew
      go_wp2_with fail
      refine (HLV.out w1' HB1'.out).mono ?_
      rintro e w9 ⟨rfl, hb9⟩
      have HB9 := Lib.hid hb9
      clear hb9
      go_wp2
      go_ret
      exact ⟨rfl, HB9.out⟩
    | true =>
    have hl20 := (hfew rfl).1
    clear hfew
    by_cases ht6 : 60 < nt
    · have ht7 : (60 : Int) < (nt : Int) := by omega
      go_wp2_with fail
      refine (HLV.out w1' HB1'.out).mono ?_
      rintro e w9 ⟨rfl, hb9⟩
      have HB9 := Lib.hid hb9
      clear hb9
      go_wp2
      go_ret
      exact ⟨rfl, HB9.out⟩
    have ht7 : ¬ (60 : Int) < (nt : Int) := by omega
    have HN1 := Lib.hid (HNX.out.below HB1'.out (Nat.le_refl _))
    obtain ⟨C, hC⟩ : ∃ C, makeC N told = C := ⟨_, rfl⟩
    obtain ⟨F, hF⟩ : ∃ F, faultC N told = F := ⟨_, rfl⟩
    have HC := Lib.hid hC
    have HF := Lib.hid hF
    obtain ⟨li, hli⟩ : ∃ k, C.ins.length = k := ⟨_, rfl⟩
    obtain ⟨lo, hlo⟩ : ∃ k, C.outs.length = k := ⟨_, rfl⟩
    obtain ⟨lq, hlq⟩ : ∃ k, C.inp.length = k := ⟨_, rfl⟩
    obtain ⟨rg, hrg⟩ : ∃ k, C.regs = k := ⟨_, rfl⟩
    obtain ⟨sl, hsl⟩ : ∃ k, C.slots = k := ⟨_, rfl⟩
    have HZ : Hid (Sz C li rg sl lo lq) := Lib.hid ⟨hli, hrg, hsl, hlo, hlq⟩
    clear hC hF hli hlo hlq hrg hsl
    obtain ⟨D, hC⟩ : ∃ C, makeC N [] = C := ⟨_, rfl⟩
    obtain ⟨G, hF⟩ : ∃ F, faultC N [] = F := ⟨_, rfl⟩
    have HD := Lib.hid hC
    have HG := Lib.hid hF
    obtain ⟨li2, hli⟩ : ∃ k, D.ins.length = k := ⟨_, rfl⟩
    obtain ⟨lo2, hlo⟩ : ∃ k, D.outs.length = k := ⟨_, rfl⟩
    obtain ⟨lq2, hlq⟩ : ∃ k, D.inp.length = k := ⟨_, rfl⟩
    obtain ⟨rg2, hrg⟩ : ∃ k, D.regs = k := ⟨_, rfl⟩
    obtain ⟨sl2, hsl⟩ : ∃ k, D.slots = k := ⟨_, rfl⟩
    have HZ2 : Hid (Sz D li2 rg2 sl2 lo2 lq2) := Lib.hid ⟨hli, hrg, hsl, hlo, hlq⟩
    clear hC hF hli hlo hlq hrg hsl
    go_wp2_with fail
    refine (own_lit w1' _ _ _ _ _ N HN1.out HN.out (by omega)).mono ?_
    rintro e w2 ⟨A', c', rfl, hn2, hb2⟩
    have HB2 : Hid (Below x.heap.size x w2) := Lib.hid (HB1'.out.trans (hb2.mono HB1'.out.size))
    have HN2 := Lib.hid hn2
    have HT2 := Lib.hid (HTX.out.below HB2.out (Nat.le_refl _))
    clear hn2 hb2 q0 q1 q2
    go_wp2_with fail
    refine (make_lit w2 _ _ _ _ N told HN2.out HT2.out (by rw [HN.out]; omega) (by rw [HNR.out]; omega) (by rw [HNI.out]; omega) (by rw [HNT.out]; omega) C F HC.out HF.out li rg sl lo lq HZ.out).mono ?_
    rintro e w3 ⟨cA, cc, oA, oc, qA, qc, rfl, hc3, ⟨y1, y2⟩, ⟨y3, y4⟩, ⟨y5, y6⟩, hb3⟩
    unfold maxLen at y2 y4 y6
    obtain ⟨w4, hw4⟩ : ∃ W, w3.alloc (.cells #[.slice cA li cc, .int .i64 rg, .int .i64 sl, .slice oA lo oc, .slice qA lq qc] 59) = W := ⟨_, rfl⟩
    have hb4 : Below w3.heap.size w3 w4 := by rw [← hw4]; exact below_new _ _
    have HB4 : Hid (Below x.heap.size x w4) := Lib.hid (HB2.out.trans ((hb3.trans (hb4.mono hb3.size)).mono HB2.out.size))
    have HX4 : Hid (CodBox w4 w3.heap.size 59 (.slice cA li cc) rg sl (.slice oA lo oc) (.slice qA lq qc)) := Lib.hid (by rw [← hw4]; exact codbox_new _ _ _ _ _ _ _)
    have HC4 : Hid (CodR w4 (.slice cA li cc) (.slice oA lo oc) (.slice qA lq qc) C) := Lib.hid (hc3.below hb4 (Nat.le_refl _))
    have HN4 := Lib.hid (HNX.out.below HB4.out (Nat.le_refl _))
    obtain ⟨q0, q1, q2⟩ := (HXX.out.below HB4.out HXX.out.lt).ats
    clear hb3 hb4 hc3
    go_wp2_with fail
    clear hw4
    refine (own_lit w4 _ _ _ _ _ N HN4.out HN.out (by omega)).mono ?_
    rintro e w5 ⟨A'', c'', rfl, hn5, hb5⟩
    have HB45 : Hid (Below w4.heap.size w4 w5) := Lib.hid hb5
    have HN5 := Lib.hid hn5
    clear hn5 hb5 q0 q1 q2
    go_wp2_with fail
    refine (make_lit w5 _ _ _ _ N [] HN5.out (ints_nil w5) (by rw [HN.out]; omega) (by rw [HNR.out]; omega) (by rw [HNI.out]; omega) (by simp) D G HD.out HG.out li2 rg2 sl2 lo2 lq2 HZ2.out).mono ?_
    rintro e w6 ⟨dA, dc, eA, ec, fA, fc, rfl, hc6, ⟨x1, x2⟩, ⟨x3, x4⟩, ⟨x5, x6⟩, hb6⟩
    unfold maxLen at x2 x4 x6
    obtain ⟨w7, hw7⟩ : ∃ W, w6.alloc (.cells #[.slice dA li2 dc, .int .i64 rg2, .int .i64 sl2, .slice eA lo2 ec, .slice fA lq2 fc] 59) = W := ⟨_, rfl⟩
    have hb7 : Below w6.heap.size w6 w7 := by rw [← hw7]; exact below_new _ _
    have HB47 : Hid (Below w4.heap.size w4 w7) := Lib.hid (HB45.out.trans ((hb6.trans (hb7.mono hb6.size)).mono HB45.out.size))
    have HB7 : Hid (Below x.heap.size x w7) := Lib.hid (HB4.out.trans (HB47.out.mono HB4.out.size))
    have HX7 : Hid (CodBox w7 w6.heap.size 59 (.slice dA li2 dc) rg2 sl2 (.slice eA lo2 ec) (.slice fA lq2 fc)) := Lib.hid (by rw [← hw7]; exact codbox_new _ _ _ _ _ _ _)
    have HC7 : Hid (CodR w7 (.slice dA li2 dc) (.slice eA lo2 ec) (.slice fA lq2 fc) D) := Lib.hid (hc6.below hb7 (Nat.le_refl _))
    have HX47 := Lib.hid (HX4.out.below HB47.out HX4.out.lt)
    have HC47 := Lib.hid (HC4.out.below HB47.out (Nat.le_refl _))
    clear hb6 hb7 hc6
    obtain ⟨s0, s1, s2, s3, s4⟩ := HX47.out.ats
    by_cases hf : F ≠ 0
    · have hk2 : (F != 0) = true := by simpa using hf
      by_cases hg : G ≠ 0
      · have hk3 : (G == 0) = false := by simpa using hg
        have hk4 : (F == G) = true := by
          have := fault_both (told := told) (by rw [HG.out]; exact hg)
          rw [HF.out, HG.out] at this
          simp [this]
        go_wp2_with fail
        refine (HLV.out w7 HB7.out).mono ?_
        rintro e w8 ⟨rfl, hb8⟩
        have HB8 := Lib.hid hb8
        clear hb8
        go_wp2
        go_ret
        exact ⟨rfl, HB8.out⟩
      · have hg0 : G = 0 := by omega
        subst hg0
        go_wp2_with fail
        refine (HLV.out w7 HB7.out).mono ?_
        rintro e w8 ⟨rfl, hb8⟩
        have HB8 := Lib.hid hb8
        clear hb8
        go_wp2
        go_ret
        exact ⟨rfl, HB8.out⟩
    have hf0 : F = 0 := by omega
    subst hf0
    have hg0 : G = 0 := by rw [← HG.out]; exact fault_none HF.out
    subst hg0
    obtain ⟨RA, hRA⟩ : ∃ R, (runN N l).1.map (fun r => told.map (at0 r)) = R := ⟨_, rfl⟩
    obtain ⟨RB, hRB⟩ : ∃ R, (runN N l).1.map (fun r => ([] : List Int).map (at0 r)) = R := ⟨_, rfl⟩
    obtain ⟨X, hX⟩ : ∃ X, (runN N l).2 = X := ⟨_, rfl⟩
    obtain ⟨m, hm⟩ : ∃ m, (runN N l).1.length = m := ⟨_, rfl⟩
    have HRC : Hid (runK C l = (RA, X)) := Lib.hid (by rw [← HC.out, make_run HF.out, hRA, hX])
    have HRD : Hid (runK D l = (RB, X)) := Lib.hid (by rw [← HD.out, make_run HG.out, hRB, hX])
    have HLA : Hid (RA.length = m) := Lib.hid (by rw [← hRA, List.length_map, hm])
    have HLB : Hid (RB.length = m) := Lib.hid (by rw [← hRB, List.length_map, hm])
    have hm20 : m ≤ l.length := by rw [← hm]; exact run_len N l
    have HEA : Hid (∀ (i : Nat) (r : List Int), RA[i]? = some r → r.length = nt) := Lib.hid (fun i r hr => by
      rw [← hRA, List.getElem?_map] at hr
      obtain ⟨y, -, rfl⟩ := Option.map_eq_some_iff.1 hr
      rw [List.length_map, HNT.out])
    have HEB : Hid (∀ (i : Nat) (r : List Int), RB[i]? = some r → r.length = 0) := Lib.hid (fun i r hr => by
      rw [← hRB, List.getElem?_map] at hr
      obtain ⟨y, -, rfl⟩ := Option.map_eq_some_iff.1 hr
      rfl)
    have HLO : Hid (lo = nt) := Lib.hid (by
      have := (make_sizes HF.out).2.2.2.2.1
      rw [HC.out, HZ.out.outs, HNT.out] at this
      exact this)
    have HLI : Hid (li ≤ 600 ∧ li2 ≤ 600 ∧ lo2 = 0) := Lib.hid (by
      obtain ⟨a1, a2, a3, a4, a5, a6⟩ := make_sizes HF.out
      obtain ⟨b1, b2, b3, b4, b5, b6⟩ := make_sizes HG.out
      have hp : presN N.ops ≤ N.ops.length := List.length_filter_le _ _
      rw [HC.out, HZ.out.ins, HN.out] at a1
      rw [HD.out, HZ2.out.ins, HN.out] at b1
      rw [HD.out, HZ2.out.outs] at b5
      rw [HN.out] at hp
      exact ⟨by omega, by omega, b5⟩)
    have HTC := Lib.hid (fun V (h : CodR V (.slice cA li cc) (.slice oA lo oc) (.slice qA lq qc) C) => mtold_lit V cA cc _ _ C li rg sl lo lq HZ.out h (by have := HLI.out.1; omega))
    have HTD := Lib.hid (fun V (h : CodR V (.slice dA li2 dc) (.slice eA lo2 ec) (.slice fA lq2 fc) D) => mtold_lit V dA dc _ _ D li2 rg2 sl2 lo2 lq2 HZ2.out h (by have := HLI.out.2.1; omega))
    clear hRA hRB hX hm
    go_wp2_with fail
    clear hw7
    refine (HTC.out w7 HC47.out).mono ?_
    rintro e w8 ⟨gA, gc, rfl, hc8, hb8⟩
    have HB78 : Hid (Below w7.heap.size w7 w8) := Lib.hid hb8
    have HL8 := Lib.hid ((HLX.out.below HB7.out (Nat.le_refl _)).below hb8 (Nat.le_refl _))
    have HC8 := Lib.hid hc8
    clear hc8 hb8 s0 s1 s2 s3 s4
    go_wp2_with fail
    refine (krun_lit w8 _ _ _ lv C l li rg sl lo lq HZ.out HC8.out HL8.out (by have := HLO.out; omega) (by omega) _ HRC.out).mono ?_
    rintro e w9 ⟨va, rfl, ha, hb9⟩
    obtain ⟨RAa, RAc, rfl, g1, g2⟩ := ha.form
    rw [HLA.out] at ha g1 ⊢
    have HB79 : Hid (Below w7.heap.size w7 w9) := Lib.hid (HB78.out.trans (hb9.mono HB78.out.size))
    have HA9 := Lib.hid ha
    obtain ⟨s0, s1, s2, s3, s4⟩ := (HX7.out.below HB79.out HX7.out.lt).ats
    have HC79 := Lib.hid (HC7.out.below HB79.out (Nat.le_refl _))
    clear ha hb9
    go_wp2_with fail
    refine (HTD.out w9 HC79.out).mono ?_
    rintro e w10 ⟨hA, hc, rfl, hc10, hb10⟩
    have HB7x : Hid (Below w7.heap.size w7 w10) := Lib.hid (HB79.out.trans (hb10.mono HB79.out.size))
    have HL10 := Lib.hid ((HLX.out.below HB7.out (Nat.le_refl _)).below HB7x.out (Nat.le_refl _))
    have HA10 := Lib.hid (HA9.out.below hb10 (Nat.le_refl _))
    have HC10 := Lib.hid hc10
    clear hc10 hb10 s0 s1 s2 s3 s4
    go_wp2_with fail
    refine (krun_lit w10 _ _ _ lv D l li2 rg2 sl2 lo2 lq2 HZ2.out HC10.out HL10.out (by have := HLI.out.2.2; omega) (by omega) _ HRD.out).mono ?_
    rintro e w11 ⟨vb, rfl, hb, hb11⟩
    obtain ⟨RBa, RBc, rfl, g3, g4⟩ := hb.form
    rw [HLB.out] at hb g3 ⊢
    have HBE : Hid (Below x.heap.size x w11) := Lib.hid (HB7.out.trans ((HB7x.out.trans (hb11.mono HB7x.out.size)).mono HB7.out.size))
    have HAE := Lib.hid (HA10.out.below hb11 (Nat.le_refl _))
    have HBb := Lib.hid hb
    unfold maxLen at g2 g4
    have hXX : (X != X) = false := by simp
    clear hb hb11
    dsimp only
    go_wp2_with fail
    go_loopw [15] (fun vi wr => ∃ (i : Nat), i ≤ m ∧ vi = .int .i64 (i : Int) ∧ Below w11.heap.size w11 wr) (fun vi _ => m - (intOf vi).toNat)
    case atStart => exact ⟨0, Nat.zero_le _, rfl, Below.refl _ _⟩
    case round =>
      obtain ⟨i, hi, rfl, hbr⟩ := hrel
      have HBR := Lib.hid hbr
      by_cases hlt : i < m
      · obtain ⟨ra, hra⟩ : ∃ r, RA[i]? = some r := ⟨_, List.getElem?_eq_getElem (by rw [HLA.out]; exact hlt)⟩
        obtain ⟨rb, hrb⟩ : ∃ r, RB[i]? = some r := ⟨_, List.getElem?_eq_getElem (by rw [HLB.out]; exact hlt)⟩
        obtain ⟨ga, oa, Ba, da, rfl, hga, ca, ea1, ea2, -⟩ := (HAE.out.below hbr (Nat.le_refl _)).at hra
        obtain ⟨gb, ob, Bb, db, rfl, hgb, cb, eb1, eb2, -⟩ := (HBb.out.below hbr (Nat.le_refl _)).at hrb
        have e1 := HEA.out i ra hra
        have e2 := HEB.out i rb hrb
        rw [e1] at ca ea1
        rw [e2] at cb eb1
        have hl2 : (i : Int) < (m : Int) := by omega
        have hnn : ((nt : Int) != (nt : Int)) = false := by simp
        clear hra hrb e1 e2 hbr
        go_wp2_with fail
        go_roundw
        case rel => exact ⟨i + 1, by omega, by go_num, HBR.out⟩
        case measure => simp [intOf]; omega
      · have him : ¬ (i : Int) < (m : Int) := by omega
        clear hbr
        go_wp2_with fail
        refine (HLV.out wr (HBE.out.trans (HBR.out.mono HBE.out.size))).mono ?_
        rintro e w12 ⟨rfl, hb12⟩
        have HB12 := Lib.hid hb12
        clear hb12
        go_wp2
        go_ret
        exact ⟨rfl, HB12.out⟩
end Go.Proofs.Ytcphjehjdhgheaa.Nt
