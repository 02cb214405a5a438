/- CodeSizes: the walk. Conditions: none. -/
import Derived.Test.YtcphjehjdhgheaaKnX
namespace Go.Proofs.Ytcphjehjdhgheaa.Nt
open Go.ChangeShapes Go.WideShapes Go.ChangeAt Go.RowKit Go.Proofs.Ytcphjehjdhgheaa.Tr
set_option linter.unusedVariables false
set_option linter.unusedSimpArgs false

theorem pres_succ {l : List Op5} {i : Nat} {x : Op5} (h : l[i]? = some x) : presN (l.take (i + 1)) = presN (l.take i) + if x.op = 21 then 1 else 0 := by
  unfold presN
  rw [List.take_add_one, h, List.filter_append, List.length_append]
  by_cases e : x.op = 21 <;> simp [e]
theorem pres_le (l : List Op5) : presN l ≤ l.length := List.length_filter_le _ _
set_option maxRecDepth 100000 in
set_option maxHeartbeats 8000000 in
theorem sizes_walk (w : World) (ov rv iv : Value) (N : Net) (h : NetR w ov rv iv N) (tv : Value) (told : List Int) (ht : Ints w tv told) : Calls Try.prog 8 #[.agg #[ov, rv, iv], tv] w (fun e w' => e = .returned (.bool true) ∧ Below w.heap.size w w') := by
  have HH := Lib.hid h
  have HT := Lib.hid ht
  obtain ⟨A, c, rfl, z1, z2⟩ := h.1.form
  obtain ⟨A2, c2, rfl, z3, z4⟩ := ints_form h.2.1
  obtain ⟨A3, c3, rfl, z5, z6⟩ := ints_form h.2.2
  obtain ⟨TA, tc, rfl, z7, z8⟩ := ints_form ht
  obtain ⟨n, hn⟩ : ∃ n, N.ops.length = n := ⟨_, rfl⟩
  obtain ⟨nr, hnr⟩ : ∃ n, N.roots.length = n := ⟨_, rfl⟩
  obtain ⟨ni, hni⟩ : ∃ n, N.ins.length = n := ⟨_, rfl⟩
  obtain ⟨nt, hnt⟩ : ∃ n, told.length = n := ⟨_, rfl⟩
  rw [hn, hnr, hni] at HH
  rw [hnt] at HT
  rw [hn, hnr, hni, hnt]
  rw [hn] at z1
  rw [hnr] at z3
  rw [hni] at z5
  rw [hnt] at z7
  have HN := Lib.hid hn
  have HNR := Lib.hid hnr
  have HNI := Lib.hid hni
  have HNT := Lib.hid hnt
  unfold maxLen at z2 z4 z6 z8
  obtain ⟨x, hx⟩ : ∃ W, w.alloc (.cells #[.slice A n c, .slice A2 nr c2, .slice A3 ni c3] 25) = W := ⟨_, rfl⟩
  have HX := Lib.hid hx
  have HBX : Hid (Below w.heap.size w x) := Lib.hid (by rw [← hx]; exact below_new _ _)
  have HXX : Hid (NetBox x w.heap.size 25 (.slice A n c) (.slice A2 nr c2) (.slice A3 ni c3)) := Lib.hid (by rw [← hx]; exact box_new _ _ _ _ _)
  have HNX := Lib.hid (HH.out.below HBX.out (Nat.le_refl _))
  have HTX := Lib.hid (HT.out.below HBX.out (Nat.le_refl _))
  have HLV : Hid (∀ V, Below x.heap.size x V → Calls Try.prog 32 #[] V (fun e w' => e = .returned (.bool true) ∧ Below w.heap.size w w')) := Lib.hid (fun V hV => (live6_any V).mono (by
    rintro e w2 ⟨rfl, hb2⟩
    exact ⟨rfl, HBX.out.trans ((hV.trans (hb2.mono hV.size)).mono HBX.out.size)⟩))
  obtain ⟨p0, p1, p2⟩ := HXX.out.ats
  clear h ht hx hn hnr hni hnt
  go_enter Try.func8, Try.ntmps8
  go_wp2_with fail
  rw [HX.out]
  refine (dsmall_any x _ _ _ N HNX.out).mono ?_
  rintro e w1 ⟨b, rfl, hb300, hb1⟩
  have HB1 := Lib.hid hb1
  obtain ⟨q0, q1, q2⟩ := (HXX.out.below HB1.out HXX.out.lt).ats
  clear hb1 p0 p1 p2
  cases b with
  | false =>
    clear hb300
    go_wp2_with fail
    refine (HLV.out w1 HB1.out).mono ?_
    rintro e w9 ⟨rfl, hb9⟩
    have HB9 := Lib.hid hb9
    clear hb9
    go_wp2
    go_ret
    exact ⟨rfl, HB9.out⟩
  | true =>
    obtain ⟨n3, r3, i3⟩ := hb300 rfl
    rw [HN.out] at n3
    rw [HNR.out] at r3
    rw [HNI.out] at i3
    clear hb300
    by_cases ht6 : 60 < nt
    · have ht7 : (60 : Int) < (nt : Int) := by omega
      go_wp2_with fail
      refine (HLV.out w1 HB1.out).mono ?_
      rintro e w9 ⟨rfl, hb9⟩
      have HB9 := Lib.hid hb9
      clear hb9
      go_wp2
      go_ret
      exact ⟨rfl, HB9.out⟩
    have ht7 : ¬ (60 : Int) < (nt : Int) := by omega
    have HN1 := Lib.hid (HNX.out.below HB1.out (Nat.le_refl _))
    obtain ⟨C, hC⟩ : ∃ C, makeC N told = C := ⟨_, rfl⟩
    obtain ⟨F, hF⟩ : ∃ F, faultC N told = F := ⟨_, rfl⟩
    have HC := Lib.hid hC
    have HF := Lib.hid hF
    obtain ⟨li, hli⟩ : ∃ k, C.ins.length = k := ⟨_, rfl⟩
    obtain ⟨lo, hlo⟩ : ∃ k, C.outs.length = k := ⟨_, rfl⟩
    obtain ⟨lq, hlq⟩ : ∃ k, C.inp.length = k := ⟨_, rfl⟩
    obtain ⟨rg, hrg⟩ : ∃ k, C.regs = k := ⟨_, rfl⟩
    obtain ⟨sl, hsl⟩ : ∃ k, C.slots = k := ⟨_, rfl⟩
    have HZ : Hid (Sz C li rg sl lo lq) := Lib.hid ⟨hli, hrg, hsl, hlo, hlq⟩
    clear hC hF hli hlo hlq hrg hsl
    go_wp2_with fail
    refine (own_lit w1 _ _ _ _ _ N HN1.out HN.out (by omega)).mono ?_
    rintro e w2 ⟨A', c', rfl, hn2, hb2⟩
    have HB2 : Hid (Below x.heap.size x w2) := Lib.hid (HB1.out.trans (hb2.mono HB1.out.size))
    have HN2 := Lib.hid hn2
    have HT2 := Lib.hid (HTX.out.below HB2.out (Nat.le_refl _))
    clear hn2 hb2 q0 q1 q2
    go_wp2_with fail
    refine (make_lit w2 _ _ _ _ N told HN2.out HT2.out (by rw [HN.out]; omega) (by rw [HNR.out]; omega) (by rw [HNI.out]; omega) (by rw [HNT.out]; omega) C F HC.out HF.out li rg sl lo lq HZ.out).mono ?_
    rintro e w3 ⟨cA, cc, oA, oc, qA, qc, rfl, hc3, ⟨y1, y2⟩, ⟨y3, y4⟩, ⟨y5, y6⟩, hb3⟩
    unfold maxLen at y2 y4 y6
    obtain ⟨w4, hw4⟩ : ∃ W, w3.alloc (.cells #[.slice cA li cc, .int .i64 rg, .int .i64 sl, .slice oA lo oc, .slice qA lq qc] 59) = W := ⟨_, rfl⟩
    have hb4 : Below w3.heap.size w3 w4 := by rw [← hw4]; exact below_new _ _
    have HB4 : Hid (Below x.heap.size x w4) := Lib.hid (HB2.out.trans ((hb3.trans (hb4.mono hb3.size)).mono HB2.out.size))
    have HX4 : Hid (CodBox w4 w3.heap.size 59 (.slice cA li cc) rg sl (.slice oA lo oc) (.slice qA lq qc)) := Lib.hid (by rw [← hw4]; exact codbox_new _ _ _ _ _ _ _)
    have HC4 : Hid (CodR w4 (.slice cA li cc) (.slice oA lo oc) (.slice qA lq qc) C) := Lib.hid (hc3.below hb4 (Nat.le_refl _))
    have HXN := Lib.hid (HXX.out.below HB4.out HXX.out.lt)
    obtain ⟨s0, s1, s2, s3, s4⟩ := HX4.out.ats
    obtain ⟨q0, q1, q2⟩ := HXN.out.ats
    clear hb3 hb4 hc3
    by_cases hf : F ≠ 0
    · have hk2 : (F != 0) = true := by simpa using hf
      go_wp2_with fail
      refine (HLV.out w4 HB4.out).mono ?_
      rintro e w5 ⟨rfl, hb5⟩
      have HB5 := Lib.hid hb5
      clear hb5
      go_wp2
      go_ret
      exact ⟨rfl, HB5.out⟩
    have hf0 : F = 0 := by omega
    subst hf0
    have HMC : Hid (checkK C = 0) := Lib.hid (by rw [← HC.out]; exact make_check HF.out)
    have HMS : Hid (li = n + presN N.ops ∧ 0 ≤ rg ∧ rg ≤ (n : Int) ∧ sl = (presN N.ops : Int) ∧ lo = nt) := Lib.hid (by
      obtain ⟨a1, a2, a3, a4, a5, a6⟩ := make_sizes HF.out
      rw [HC.out] at a1 a2 a3 a4 a5
      rw [HZ.out.ins, HN.out] at a1
      rw [HZ.out.regs] at a2 a3
      rw [HN.out] at a3
      rw [HZ.out.slots] at a4
      rw [HZ.out.outs, HNT.out] at a5
      exact ⟨a1, a2, a3, a4, a5⟩)
    have HPL : Hid (∀ i, presN (N.ops.take i) ≤ i) := Lib.hid (fun i => by
      have := pres_le (N.ops.take i)
      rw [List.length_take] at this; omega)
    have HPE : Hid (presN (N.ops.take n) = presN N.ops) := Lib.hid (by rw [← HN.out, List.take_length])
    have HCW : Hid (CodW C) := Lib.hid (codw_of HMC.out (by
      have := (make_sizes HF.out).2.2.2.2.2
      rw [HC.out] at this
      rw [this, HNI.out]; omega))
    have HCK := Lib.hid (fun V (h : CodR V (.slice cA li cc) (.slice oA lo oc) (.slice qA lq qc) C) => ccheck_lit V _ _ _ C li rg sl lo lq HZ.out h HCW.out 0 HMC.out)
    go_wp2_with fail
    clear hw4
    go_loopw [7, 8] (fun vp vi wr => ∃ (i : Nat), i ≤ n ∧ vi = .int .i64 (i : Int) ∧ vp = .int .i64 ((presN (N.ops.take i) : Nat) : Int) ∧ Below w4.heap.size w4 wr) (fun _ vi _ => n - (intOf vi).toNat)
    case atStart => exact ⟨0, Nat.zero_le _, rfl, by simp [presN], Below.refl _ _⟩
    case round =>
      obtain ⟨i, hi, rfl, rfl, hb⟩ := hrel
      have HB := Lib.hid hb
      have HCr := Lib.hid (HC4.out.below hb (Nat.le_refl _))
      obtain ⟨t0, t1, t2, t3, t4⟩ := (HX4.out.below hb HX4.out.lt).ats
      obtain ⟨u0, u1, u2⟩ := (HXN.out.below hb (by have := HB4.out.size; have := HXX.out.lt; omega)).ats
      have hpl := HPL.out i
      have HNr := Lib.hid ((HNX.out.below HB4.out (Nat.le_refl _)).below hb (Nat.le_refl _))
      have HBX2 : Hid (Below x.heap.size x wr) := Lib.hid (HB4.out.trans (hb.mono HB4.out.size))
      clear hb s0 s1 s2 s3 s4 q0 q1 q2
      by_cases hlt : i < n
      · obtain ⟨o, ho⟩ : ∃ x, N.ops[i]? = some x := ⟨_, List.getElem?_eq_getElem (by rw [HN.out]; exact hlt)⟩
        obtain ⟨g, ob, rfl, hg, d0, d1, d2, d3, d4⟩ := HNr.out.1.at ho
        have HPS := Lib.hid (pres_succ ho)
        obtain ⟨p, hp⟩ : ∃ p, presN (N.ops.take i) = p := ⟨_, rfl⟩
        rw [hp] at HPS hpl
        rw [hp]
        have hl2 : (i : Int) < (n : Int) := by omega
        clear ho hp
        by_cases e21 : o.op = 21
        · rw [if_pos e21] at HPS
          have HPS2 := HPS.out
          rw [e21] at d0
          go_wp2_with fail
          go_roundw
          case rel => exact ⟨i + 1, by omega, by go_num, by rw [HPS.out]; go_num, HB.out⟩
          case measure => simp [intOf]; omega
        · rw [if_neg e21] at HPS
          have e22 : ((o.op : Int) == 21) = false := by simpa using e21
          go_wp2_with fail
          go_roundw
          case rel => exact ⟨i + 1, by omega, by go_num, by rw [HPS.out]; go_num, HB.out⟩
          case measure => simp [intOf]; omega
      · have hin : i = n := by omega
        subst hin
        rw [HPE.out] at hpl ⊢
        obtain ⟨p, hp⟩ : ∃ p, presN N.ops = p := ⟨_, rfl⟩
        rw [hp] at hpl HMS ⊢
        have hl2 : ¬ ((i : Nat) : Int) < ((i : Nat) : Int) := by omega
        have hle1 : (li : Int) ≤ (i : Int) + (p : Int) := by have := HMS.out.1; omega
        have hle2 : sl ≤ (p : Int) := by have := HMS.out.2.2.2.1; omega
        have hle3 : rg ≤ (i : Int) := HMS.out.2.2.1
        have hbe : ((lo : Int) == (nt : Int)) = true := by have := HMS.out.2.2.2.2; simp [this]
        go_wp2_with fail
        refine (HCK.out _ HCr.out).mono ?_
        rintro e w5 ⟨rfl, hb5⟩
        have HB5 : Hid (Below x.heap.size x w5) := Lib.hid (HBX2.out.trans (hb5.mono HBX2.out.size))
        obtain ⟨s0, s1, s2, s3, s4⟩ := ((HX4.out.below HB.out HX4.out.lt).below hb5 (by have := HB.out.size; have := HX4.out.lt; omega)).ats
        obtain ⟨v0, v1, v2⟩ := (HXX.out.below HB5.out HXX.out.lt).ats
        clear hb5 t0 t1 t2 t3 t4 u0 u1 u2
        go_wp2_with fail
        refine (HLV.out w5 HB5.out).mono ?_
        rintro e w6 ⟨rfl, hb6⟩
        have HB6 := Lib.hid hb6
        clear hb6
        go_wp2
        go_ret
        exact ⟨rfl, HB6.out⟩
end Go.Proofs.Ytcphjehjdhgheaa.Nt
