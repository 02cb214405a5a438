/- CodeSame: the walk. Conditions: none. -/
import Derived.Test.YtcphjehjdhgheaaKnX
import Derived.Test.YtcphjehjdhgheaaKnY
namespace Go.Proofs.Ytcphjehjdhgheaa.Nt
open Go.ChangeShapes Go.WideShapes Go.ChangeAt Go.RowKit Go.Proofs.Ytcphjehjdhgheaa.Tr
set_option linter.unusedVariables false
set_option linter.unusedSimpArgs false

set_option maxRecDepth 100000 in
set_option maxHeartbeats 8000000 in
theorem csame_walk (w : World) (ov rv iv : Value) (N : Net) (h : NetR w ov rv iv N) (tv : Value) (told : List Int) (ht : Ints w tv told) (lv : Value) (l : List (List Int)) (hl : RowsR w lv l) : Calls Try.prog 7 #[.agg #[ov, rv, iv], tv, lv] w (fun e w' => e = .returned (.bool true) ∧ Below w.heap.size w w') := by
  have HH := Lib.hid h
  have HT := Lib.hid ht
  have HL := Lib.hid hl
  obtain ⟨A, c, rfl, z1, z2⟩ := h.1.form
  obtain ⟨A2, c2, rfl, z3, z4⟩ := ints_form h.2.1
  obtain ⟨A3, c3, rfl, z5, z6⟩ := ints_form h.2.2
  obtain ⟨TA, tc, rfl, z7, z8⟩ := ints_form ht
  obtain ⟨n, hn⟩ : ∃ n, N.ops.length = n := ⟨_, rfl⟩
  obtain ⟨nr, hnr⟩ : ∃ n, N.roots.length = n := ⟨_, rfl⟩
  obtain ⟨ni, hni⟩ : ∃ n, N.ins.length = n := ⟨_, rfl⟩
  obtain ⟨nt, hnt⟩ : ∃ n, told.length = n := ⟨_, rfl⟩
  rw [hn, hnr, hni] at HH
  rw [hnt] at HT
  rw [hn, hnr, hni, hnt]
  rw [hn] at z1
  rw [hnr] at z3
  rw [hni] at z5
  rw [hnt] at z7
  have HN := Lib.hid hn
  have HNR := Lib.hid hnr
  have HNI := Lib.hid hni
  have HNT := Lib.hid hnt
  unfold maxLen at z2 z4 z6 z8
  obtain ⟨x, hx⟩ : ∃ W, w.alloc (.cells #[.slice A n c, .slice A2 nr c2, .slice A3 ni c3] 25) = W := ⟨_, rfl⟩
  have HX := Lib.hid hx
  have HBX : Hid (Below w.heap.size w x) := Lib.hid (by rw [← hx]; exact below_new _ _)
  have HXX : Hid (NetBox x w.heap.size 25 (.slice A n c) (.slice A2 nr c2) (.slice A3 ni c3)) := Lib.hid (by rw [← hx]; exact box_new _ _ _ _ _)
  have HNX := Lib.hid (HH.out.below HBX.out (Nat.le_refl _))
  have HTX := Lib.hid (HT.out.below HBX.out (Nat.le_refl _))
  have HLX := Lib.hid (HL.out.below HBX.out (Nat.le_refl _))
  have HLV : Hid (∀ V, Below x.heap.size x V → Calls Try.prog 32 #[] V (fun e w' => e = .returned (.bool true) ∧ Below w.heap.size w w')) := Lib.hid (fun V hV => (live6_any V).mono (by
    rintro e w2 ⟨rfl, hb2⟩
    exact ⟨rfl, HBX.out.trans ((hV.trans (hb2.mono hV.size)).mono HBX.out.size)⟩))
  obtain ⟨p0, p1, p2⟩ := HXX.out.ats
  clear h ht hl hx hn hnr hni hnt
  go_enter Try.func7, Try.ntmps7
  go_wp2_with fail
  rw [HX.out]
  refine (dsmall_any x _ _ _ N HNX.out).mono ?_
  rintro e w1 ⟨b, rfl, hb300, hb1⟩
  have HB1 := Lib.hid hb1
  clear hb1 p0 p1 p2
  cases b with
  | false =>
    clear hb300
    go_wp2_with fail
    refine (HLV.out w1 HB1.out).mono ?_
    rintro e w9 ⟨rfl, hb9⟩
    have HB9 := Lib.hid hb9
    clear hb9
    go_wp2
    go_ret
    exact ⟨rfl, HB9.out⟩
  | true =>
    obtain ⟨n3, r3, i3⟩ := hb300 rfl
    rw [HN.out] at n3
    rw [HNR.out] at r3
    rw [HNI.out] at i3
    clear hb300
    go_wp2_with fail
    refine (fewi_any w1 lv l (HLX.out.below HB1.out (Nat.le_refl _))).mono ?_
    rintro e w1' ⟨b, rfl, hfew, hb1'⟩
    have HB1' : Hid (Below x.heap.size x w1') := Lib.hid (HB1.out.trans (hb1'.mono HB1.out.size))
    clear hb1'
    obtain ⟨q0, q1, q2⟩ := (HXX.out.below HB1'.out HXX.out.lt).ats
    cases b with
    | false =>
      clear hfew
      go_wp2_with fail
      refine (HLV.out w1' HB1'.out).mono ?_
      rintro e w9 ⟨rfl, hb9⟩
      have HB9 := Lib.hid hb9
      clear hb9
      go_wp2
      go_ret
      exact ⟨rfl, HB9.out⟩
    | true =>
    have hl20 := (hfew rfl).1
    clear hfew
    by_cases ht6 : 60 < nt
    · have ht7 : (60 : Int) < (nt : Int) := by omega
      go_wp2_with fail
      refine (HLV.out w1' HB1'.out).mono ?_
      rintro e w9 ⟨rfl, hb9⟩
      have HB9 := Lib.hid hb9
      clear hb9
      go_wp2
      go_ret
      exact ⟨rfl, HB9.out⟩
    have ht7 : ¬ (60 : Int) < (nt : Int) := by omega
    have HN1 := Lib.hid (HNX.out.below HB1'.out (Nat.le_refl _))
    obtain ⟨C, hC⟩ : ∃ C, makeC N told = C := ⟨_, rfl⟩
    obtain ⟨F, hF⟩ : ∃ F, faultC N told = F := ⟨_, rfl⟩
    have HC := Lib.hid hC
    have HF := Lib.hid hF
    obtain ⟨li, hli⟩ : ∃ k, C.ins.length = k := ⟨_, rfl⟩
    obtain ⟨lo, hlo⟩ : ∃ k, C.outs.length = k := ⟨_, rfl⟩
    obtain ⟨lq, hlq⟩ : ∃ k, C.inp.length = k := ⟨_, rfl⟩
    obtain ⟨rg, hrg⟩ : ∃ k, C.regs = k := ⟨_, rfl⟩
    obtain ⟨sl, hsl⟩ : ∃ k, C.slots = k := ⟨_, rfl⟩
    have HZ : Hid (Sz C li rg sl lo lq) := Lib.hid ⟨hli, hrg, hsl, hlo, hlq⟩
    clear hC hF hli hlo hlq hrg hsl
    go_wp2_with fail
    refine (own_lit w1' _ _ _ _ _ N HN1.out HN.out (by omega)).mono ?_
    rintro e w2 ⟨A', c', rfl, hn2, hb2⟩
    have HB2 : Hid (Below x.heap.size x w2) := Lib.hid (HB1'.out.trans (hb2.mono HB1'.out.size))
    have HN2 := Lib.hid hn2
    have HT2 := Lib.hid (HTX.out.below HB2.out (Nat.le_refl _))
    clear hn2 hb2 q0 q1 q2
    go_wp2_with fail
    refine (make_lit w2 _ _ _ _ N told HN2.out HT2.out (by rw [HN.out]; omega) (by rw [HNR.out]; omega) (by rw [HNI.out]; omega) (by rw [HNT.out]; omega) C F HC.out HF.out li rg sl lo lq HZ.out).mono ?_
    rintro e w3 ⟨cA, cc, oA, oc, qA, qc, rfl, hc3, ⟨y1, y2⟩, ⟨y3, y4⟩, ⟨y5, y6⟩, hb3⟩
    unfold maxLen at y2 y4 y6
    obtain ⟨w4, hw4⟩ : ∃ W, w3.alloc (.cells #[.slice cA li cc, .int .i64 rg, .int .i64 sl, .slice oA lo oc, .slice qA lq qc] 59) = W := ⟨_, rfl⟩
    have hb4 : Below w3.heap.size w3 w4 := by rw [← hw4]; exact below_new _ _
    have HB4 : Hid (Below x.heap.size x w4) := Lib.hid (HB2.out.trans ((hb3.trans (hb4.mono hb3.size)).mono HB2.out.size))
    have HX4 : Hid (CodBox w4 w3.heap.size 59 (.slice cA li cc) rg sl (.slice oA lo oc) (.slice qA lq qc)) := Lib.hid (by rw [← hw4]; exact codbox_new _ _ _ _ _ _ _)
    have HC4 : Hid (CodR w4 (.slice cA li cc) (.slice oA lo oc) (.slice qA lq qc) C) := Lib.hid (hc3.below hb4 (Nat.le_refl _))
    have HN4 := Lib.hid (HNX.out.below HB4.out (Nat.le_refl _))
    obtain ⟨q0, q1, q2⟩ := (HXX.out.below HB4.out HXX.out.lt).ats
    clear hb3 hb4 hc3
    obtain ⟨K, hK⟩ : ∃ K, checkN N = K := ⟨_, rfl⟩
    have HK := Lib.hid hK
    have HDC : Hid (Calls Try.prog 37 #[.agg #[.slice A n c, .slice A2 nr c2, .slice A3 ni c3]] w4 (fun e w' => e = .returned (.int .i64 K) ∧ Below w4.heap.size w4 w')) := Lib.hid (by
      have h1 := dcheck_any w4 _ _ _ N HN4.out
      rw [hK] at h1; exact h1)
    clear hK
    go_wp2_with fail
    clear hw4
    refine HDC.out.mono ?_
    rintro e w5 ⟨rfl, hb5⟩
    have HB45 : Hid (Below w4.heap.size w4 w5) := Lib.hid hb5
    have HB5 : Hid (Below x.heap.size x w5) := Lib.hid (HB4.out.trans (hb5.mono HB4.out.size))
    have HT5 := Lib.hid (HTX.out.below HB5.out (Nat.le_refl _))
    have HXN5 := Lib.hid (HXX.out.below HB5.out HXX.out.lt)
    have HX5 := Lib.hid (HX4.out.below hb5 HX4.out.lt)
    have HC5 := Lib.hid (HC4.out.below hb5 (Nat.le_refl _))
    clear hb5 q0 q1 q2 HDC
    go_wp2_with fail
    go_loopw [9, 10] (fun vf vi wr => ∃ (i : Nat) (f : Int), i ≤ nt ∧ vi = .int .i64 (i : Int) ∧ vf = .int .i64 f ∧ tldF N told i = f ∧ Below w5.heap.size w5 wr) (fun _ vi _ => nt - (intOf vi).toNat)
    case atStart => exact ⟨0, K, Nat.zero_le _, rfl, rfl, by rw [tldF_zero, HK.out], Below.refl _ _⟩
    case round =>
      obtain ⟨i, f, hi, rfl, rfl, hf, hb⟩ := hrel
      have HBR := Lib.hid hb
      have HFI := Lib.hid hf
      have HTR := Lib.hid (HT5.out.below hb (Nat.le_refl _))
      obtain ⟨u0, u1, u2⟩ := (HXN5.out.below hb HXN5.out.lt).ats
      clear hb hf
      by_cases hgo : i < nt ∧ f = 0
      · obtain ⟨hlt, rfl⟩ := hgo
        obtain ⟨y, hy⟩ : ∃ y, told[i]? = some y := ⟨_, List.getElem?_eq_getElem (by rw [HNT.out]; exact hlt)⟩
        obtain ⟨g2, o2, rfl, hg2, e0⟩ := ints_at HTR.out hy
        have HFS := Lib.hid (tldF_succ HFI.out hy)
        rw [HNR.out] at HFS
        have hl2 : (i : Int) < (nt : Int) := by omega
        clear hy
        by_cases b1 : y < 0
        · have HFV : Hid (tldF N told (i + 1) = 1) := Lib.hid (by rw [HFS.out, if_neg]; unfold isOp; simp; omega)
          go_wp2_with fail
          go_quiet (fail)
          go_wp2_with fail
          go_roundw
          case rel => exact ⟨i + 1, 1, by omega, by go_num, rfl, HFV.out, by first | exact below_drewN HBR.out _ | exact below_drewN (below_drewN HBR.out _) _⟩
          case measure => simp [intOf]; omega
        · by_cases b2 : y < (nr : Int)
          · have hd2 : decide ((nr : Int) ≤ y) = false := decide_eq_false (by omega)
            have HFV : Hid (tldF N told (i + 1) = 0) := Lib.hid (by rw [HFS.out, if_pos]; unfold isOp; simp; omega)
            go_wp2_with fail
            go_quiet (fail)
            go_wp2_with fail
            go_roundw
            case rel => exact ⟨i + 1, 0, by omega, by go_num, rfl, HFV.out, by first | exact below_drewN HBR.out _ | exact below_drewN (below_drewN HBR.out _) _⟩
            case measure => simp [intOf]; omega
          · have hd2 : decide ((nr : Int) ≤ y) = true := decide_eq_true (by omega)
            have HFV : Hid (tldF N told (i + 1) = 1) := Lib.hid (by rw [HFS.out, if_neg]; unfold isOp; simp; omega)
            go_wp2_with fail
            go_quiet (fail)
            go_wp2_with fail
            go_roundw
            case rel => exact ⟨i + 1, 1, by omega, by go_num, rfl, HFV.out, by first | exact below_drewN HBR.out _ | exact below_drewN (below_drewN HBR.out _) _⟩
            case measure => simp [intOf]; omega
      have hfF : f = F := by
        rw [← HFI.out, ← HF.out, ← tldF_all N told nt HNT.out]
        by_cases hi2 : i = nt
        · rw [hi2]
        · have h0 : f ≠ 0 := fun e => hgo ⟨by omega, e⟩
          exact (tldF_stays (by rw [HFI.out]; exact h0) hi).symm
      subst hfF
      have HBE : Hid (Below x.heap.size x wr) := Lib.hid (HB5.out.trans (HBR.out.mono HB5.out.size))
      have HCR := Lib.hid (HC5.out.below HBR.out (Nat.le_refl _))
      have HXR := Lib.hid (HX5.out.below HBR.out HX5.out.lt)
      have HNR2 := Lib.hid (HNX.out.below HBE.out (Nat.le_refl _))
      have HLR := Lib.hid (HLX.out.below HBE.out (Nat.le_refl _))
      obtain ⟨s0, s1, s2, s3, s4⟩ := HXR.out.ats
      have hff : (f != f) = false := by simp
      by_cases hf0 : f ≠ 0
      · have hk2 : (f != 0) = true := by simpa using hf0
        have hk3 : (f == 0) = false := by simpa using hf0
        have hli0 : li = 0 := by
          rw [← HZ.out.ins, ← HC.out]
          unfold makeC
          rw [HF.out, if_neg hf0]; rfl
        subst hli0
        by_cases hlt : i < nt
        · have hl2 : (i : Int) < (nt : Int) := by omega
          go_wp2_with fail
          refine (HLV.out wr HBE.out).mono ?_
          rintro e w12 ⟨rfl, hb12⟩
          have HB12 := Lib.hid hb12
          clear hb12
          go_wp2
          go_ret
          exact ⟨rfl, HB12.out⟩
        · have hl2 : ¬ (i : Int) < (nt : Int) := by omega
          go_wp2_with fail
          refine (HLV.out wr HBE.out).mono ?_
          rintro e w12 ⟨rfl, hb12⟩
          have HB12 := Lib.hid hb12
          clear hb12
          go_wp2
          go_ret
          exact ⟨rfl, HB12.out⟩
      have hf00 : f = 0 := by omega
      subst hf00
      have hin : ¬ (i : Int) < (nt : Int) := fun e => hgo ⟨by omega, rfl⟩
      obtain ⟨P, hP⟩ : ∃ R, (runN N l).1 = R := ⟨_, rfl⟩
      obtain ⟨RB, hRB⟩ : ∃ R, P.map (fun r => told.map (at0 r)) = R := ⟨_, rfl⟩
      obtain ⟨X, hX⟩ : ∃ X, (runN N l).2 = X := ⟨_, rfl⟩
      obtain ⟨m, hm⟩ : ∃ m, P.length = m := ⟨_, rfl⟩
      have HRN : Hid (runN N l = (P, X)) := Lib.hid (by rw [← hP, ← hX])
      have HRC : Hid (runK C l = (RB, X)) := Lib.hid (by rw [← HC.out, make_run HF.out, hP, hRB, hX])
      have HLP : Hid (P.length = m) := Lib.hid hm
      have HLB : Hid (RB.length = m) := Lib.hid (by rw [← hRB, List.length_map, hm])
      have hm20 : m ≤ l.length := by rw [← hm, ← hP]; exact run_len N l
      have HPR : Hid (∀ (i : Nat) (r : List Int), P[i]? = some r → r.length = nr) := Lib.hid (fun i r hr => by
        rw [← hP] at hr
        rw [run_rows N l r (List.mem_of_getElem? hr), HNR.out])
      have HEB : Hid (∀ (i : Nat) (r : List Int), P[i]? = some r → RB[i]? = some (told.map (at0 r))) := Lib.hid (fun i r hr => by
        rw [← hRB, List.getElem?_map, hr]; rfl)
      have HTD : Hid (∀ (k : Nat) (y : Int), told[k]? = some y → 0 ≤ y ∧ y < (nr : Int)) := Lib.hid (fun k y hy => by
        have := (fault_cases HF.out).2
        unfold toldB at this
        rw [List.all_eq_true] at this
        have := this y (List.mem_of_getElem? hy)
        rw [HNR.out] at this
        unfold isOp at this
        simpa using this)
      have HMS : Hid (lo = nt ∧ lq = ni ∧ C.inp = N.ins ∧ li ≤ 600) := Lib.hid (by
        obtain ⟨a1, a2, a3, a4, a5, a6⟩ := make_sizes HF.out
        have hp : presN N.ops ≤ N.ops.length := List.length_filter_le _ _
        rw [HC.out, HZ.out.ins, HN.out] at a1
        rw [HC.out, HZ.out.outs, HNT.out] at a5
        rw [HC.out] at a6
        rw [HN.out] at hp
        exact ⟨a5, by rw [← HZ.out.inp, a6, HNI.out], a6, by omega⟩)
      clear hP hRB hX hm hgo
      go_wp2_with fail
      refine (mtold_lit wr cA cc _ _ C li rg sl lo lq HZ.out HCR.out (by have := HMS.out.2.2.2; omega)).mono ?_
      rintro e w6 ⟨gA, gc, rfl, hc6, hb6⟩
      obtain ⟨w7, hw7⟩ : ∃ W, w6.alloc (.cells #[.slice gA li gc, .int .i64 rg, .int .i64 sl, .slice oA lo oc, .slice qA lq qc] 54) = W := ⟨_, rfl⟩
      have hb7 : Below w6.heap.size w6 w7 := by rw [← hw7]; exact below_new _ _
      have HBR7 : Hid (Below wr.heap.size wr w7) := Lib.hid (hb6.trans (hb7.mono hb6.size))
      have HB7 : Hid (Below x.heap.size x w7) := Lib.hid (HBE.out.trans (HBR7.out.mono HBE.out.size))
      have HX7 : Hid (CodBox w7 w6.heap.size 54 (.slice gA li gc) rg sl (.slice oA lo oc) (.slice qA lq qc)) := Lib.hid (by rw [← hw7]; exact codbox_new _ _ _ _ _ _ _)
      have HC7 : Hid (CodR w7 (.slice gA li gc) (.slice oA lo oc) (.slice qA lq qc) C) := Lib.hid (hc6.below hb7 (Nat.le_refl _))
      have HXR7 := Lib.hid (HXR.out.below HBR7.out HXR.out.lt)
      have HXN7 := Lib.hid (HXX.out.below HB7.out HXX.out.lt)
      have HN7 := Lib.hid (HNR2.out.below HBR7.out (Nat.le_refl _))
      have HL7 := Lib.hid (HLR.out.below HBR7.out (Nat.le_refl _))
      have HT7 := Lib.hid (HTX.out.below HB7.out (Nat.le_refl _))
      obtain ⟨q0, q1, q2⟩ := HXN7.out.ats
      have HDR : Hid (Calls Try.prog 29 #[.agg #[.slice A n c, .slice A2 nr c2, .slice A3 ni c3], lv] w7 (RunPost w7 (P, X))) := Lib.hid (by
        rw [← HRN.out]
        exact drun_any w7 _ _ _ lv N l HN7.out HL7.out (by rw [HN.out]; omega) (by rw [HNR.out]; omega) (by omega))
      clear hb6 hb7 hc6 u0 u1 u2 s0 s1 s2 s3 s4
      go_wp2_with fail
      clear hw7
      refine HDR.out.mono ?_
      rintro e w8 ⟨va, rfl, ha, hb8⟩
      obtain ⟨Pa, Pc, rfl, g1, g2⟩ := ha.form
      rw [HLP.out] at ha g1 ⊢
      have HB78 : Hid (Below w7.heap.size w7 w8) := Lib.hid hb8
      have HL8 := Lib.hid (HL7.out.below hb8 (Nat.le_refl _))
      have HC8 := Lib.hid (HC7.out.below hb8 (Nat.le_refl _))
      have HA8 := Lib.hid ha
      obtain ⟨s0, s1, s2, s3, s4⟩ := (HX7.out.below hb8 HX7.out.lt).ats
      clear ha hb8 q0 q1 q2 HDR
      dsimp only
      go_wp2_with fail
      refine (krun_lit w8 _ _ _ lv C l li rg sl lo lq HZ.out HC8.out HL8.out (by have := HMS.out.1; omega) (by omega) _ HRC.out).mono ?_
      rintro e w9 ⟨vb, rfl, hb, hb9⟩
      obtain ⟨RBa, RBc, rfl, g3, g4⟩ := hb.form
      rw [HLB.out] at hb g3 ⊢
      have HB79 : Hid (Below w7.heap.size w7 w9) := Lib.hid (HB78.out.trans (hb9.mono HB78.out.size))
      have HA9 := Lib.hid (HA8.out.below hb9 (Nat.le_refl _))
      have HBb := Lib.hid hb
      have HB9 : Hid (Below x.heap.size x w9) := Lib.hid (HB7.out.trans (HB79.out.mono HB7.out.size))
      have HIN : Hid (Ints w9 (.slice qA lq qc) N.ins ∧ Ints w9 (.slice A3 ni c3) N.ins) := Lib.hid (by
        have h1 := HC7.out.2.2.below HB79.out (Nat.le_refl _)
        rw [HMS.out.2.2.1] at h1
        exact ⟨h1, HN7.out.2.2.below HB79.out (Nat.le_refl _)⟩)
      obtain ⟨t0, t1, t2, t3, t4⟩ := (HXR7.out.below HB79.out HXR7.out.lt).ats
      obtain ⟨q0, q1, q2⟩ := (HXN7.out.below HB79.out HXN7.out.lt).ats
      unfold maxLen at g2 g4
      have hXX : (X != X) = false := by simp
      have hmm : ((m : Int) != (m : Int)) = false := by simp
      clear hb hb9 s0 s1 s2 s3 s4
      dsimp only
      go_wp2_with fail
      refine (ints_eq w9 _ _ _ HIN.out.1 HIN.out.2).mono ?_
      rintro e w10 ⟨rfl, hb10⟩
      have HB10 : Hid (Below x.heap.size x w10) := Lib.hid (HB9.out.trans (hb10.mono HB9.out.size))
      have HA10 := Lib.hid (HA9.out.below hb10 (Nat.le_refl _))
      have HBb10 := Lib.hid (HBb.out.below hb10 (Nat.le_refl _))
      have HT10 := Lib.hid (HTX.out.below HB10.out (Nat.le_refl _))
      clear hb10 t0 t1 t2 t3 t4 q0 q1 q2
      go_wp2_with fail
      go_loopw [16] (fun vi wr => ∃ (i : Nat), i ≤ m ∧ vi = .int .i64 (i : Int) ∧ Below w10.heap.size w10 wr) (fun vi _ => m - (intOf vi).toNat)
      case atStart => exact ⟨0, Nat.zero_le _, rfl, Below.refl _ _⟩
      case round =>
        obtain ⟨j, hj, rfl, hbr⟩ := hrel
        have HBZ := Lib.hid hbr
        by_cases hlt : j < m
        · obtain ⟨r, hr⟩ : ∃ r, P[j]? = some r := ⟨_, List.getElem?_eq_getElem (by rw [HLP.out]; exact hlt)⟩
          obtain ⟨ga, oa, Ba, da, rfl, hga, ca, ea1, ea2, ia⟩ := (HA10.out.below hbr (Nat.le_refl _)).at hr
          obtain ⟨gb, ob, Bb, db, rfl, hgb, cb, eb1, eb2, ib⟩ := (HBb10.out.below hbr (Nat.le_refl _)).at (HEB.out j r hr)
          have e1 := HPR.out j r hr
          have e2 : (told.map (at0 r)).length = nt := by rw [List.length_map, HNT.out]
          rw [e1] at ca ea1 ia
          rw [e2] at cb eb1 ib
          have HR1 := Lib.hid e1
          have HIA := Lib.hid ia
          have HIB := Lib.hid ib
          have hl2 : (j : Int) < (m : Int) := by omega
          have hnn : ((nt : Int) != (nt : Int)) = false := by simp
          clear hr e1 e2 hbr ia ib
          go_wp2_with fail
          go_loopw [17] (fun vk wk => ∃ (k : Nat), k ≤ nt ∧ vk = .int .i64 (k : Int) ∧ Below wr.heap.size wr wk) (fun vk _ => nt - (intOf vk).toNat)
          case atStart => exact ⟨0, Nat.zero_le _, rfl, Below.refl _ _⟩
          case round =>
            obtain ⟨k, hk, rfl, hbk⟩ := hrel
            have HBK := Lib.hid hbk
            by_cases hkt : k < nt
            · obtain ⟨y, hy⟩ : ∃ y, told[k]? = some y := ⟨_, List.getElem?_eq_getElem (by rw [HNT.out]; exact hkt)⟩
              obtain ⟨hy0, hy1⟩ := HTD.out k y hy
              obtain ⟨yn, rfl⟩ : ∃ m : Nat, y = (m : Int) := ⟨y.toNat, by omega⟩
              obtain ⟨u, hu⟩ : ∃ u, r[yn]? = some u := ⟨_, List.getElem?_eq_getElem (by rw [HR1.out]; omega)⟩
              have hbv : (told.map (at0 r))[k]? = some u := by
                rw [List.getElem?_map, hy]
                show some (at0 r (yn : Int)) = some u
                rw [at0_of hu]
              obtain ⟨gt, ot, rfl, hgt, ct⟩ := ints_at ((HT10.out.below HBZ.out (Nat.le_refl _)).below hbk (Nat.le_refl _)) hy
              obtain ⟨gv, ov, rfl, hgv, cv⟩ := ints_at (HIA.out.below hbk (Nat.le_refl _)) hu
              obtain ⟨gw, ow, rfl, hgw, cw⟩ := ints_at (HIB.out.below hbk (Nat.le_refl _)) hbv
              have ca' := (hbk.cell hga).trans ca
              have cb' := (hbk.cell hgb).trans cb
              have huu : (u != u) = false := by simp
              have hl3 : (k : Int) < (nt : Int) := by omega
              have hl4 : (yn : Int) < (nr : Int) := by omega
              clear hy hu hbv hbk
              go_wp2_with fail
              go_quiet (fail)
              go_wp2_with fail
              go_roundw
              case rel => exact ⟨k + 1, by omega, by go_num, by first | exact below_drewN HBK.out _ | exact below_drewN (below_drewN HBK.out _) _⟩
              case measure => simp [intOf]; omega
            · have hl3 : ¬ (k : Int) < (nt : Int) := by omega
              clear hbk
              go_wp2_with fail
              go_roundw
              case rel => exact ⟨j + 1, by omega, by go_num, HBZ.out.trans (HBK.out.mono HBZ.out.size)⟩
              case measure => simp [intOf]; omega
        · have him : ¬ (j : Int) < (m : Int) := by omega
          clear hbr
          go_wp2_with fail
          refine (HLV.out _ (HB10.out.trans (HBZ.out.mono HB10.out.size))).mono ?_
          rintro e w12 ⟨rfl, hb12⟩
          have HB12 := Lib.hid hb12
          clear hb12
          go_wp2
          go_ret
          exact ⟨rfl, HB12.out⟩
end Go.Proofs.Ytcphjehjdhgheaa.Nt
