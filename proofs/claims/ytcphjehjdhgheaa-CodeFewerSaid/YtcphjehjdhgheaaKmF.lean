/- Layer code: Make. Conditions: the net and what is told have at most 1000 each. -/
import Derived.Test.YtcphjehjdhgheaaKmL
import Derived.Test.YtcphjehjdhgheaaKmF0
import Derived.Deep.RegionLaw
namespace Go.Proofs.Ytcphjehjdhgheaa.Nt
open Go.ChangeShapes Go.WideShapes Go.ChangeAt Go.RowKit Go.Proofs.Ytcphjehjdhgheaa.Tr
set_option linter.unusedVariables false
set_option linter.unusedSimpArgs false

abbrev nilV : Value := .slice none 0 0
def MakePost (w : World) (N : Net) (told : List Int) (e : Ending) (w' : World) : Prop :=
  Below w.heap.size w w' ∧ ∃ iv ov pv, e = .returned (.tuple #[.agg #[iv, .int .i64 (makeC N told).regs, .int .i64 (makeC N told).slots, ov, pv], .int .i64 (faultC N told)]) ∧ CodR w' iv ov pv (makeC N told)
theorem cod_nil (w : World) : CodR w nilV nilV nilV emptyC := ⟨⟨none, 0, rfl, Nat.le_refl _, by unfold maxLen; omega, fun i x h => by simp [emptyC] at h⟩, ints_nil w, ints_nil w⟩
set_option maxRecDepth 100000 in
set_option maxHeartbeats 16000000 in
theorem make_any (w : World) (ov rv iv tv : Value) (N : Net) (told : List Int) (h : NetR w ov rv iv N) (ht : Ints w tv told) (hn3 : N.ops.length ≤ 1000) (hr3 : N.roots.length ≤ 1000) (hi3 : N.ins.length ≤ 1000) (ht3 : told.length ≤ 1000) : Calls Try.prog 36 #[.agg #[ov, rv, iv], tv] w (MakePost w N told) := by
  obtain ⟨i0, hi0, hz0, hz1, hz2⟩ := info_parts info3
  have HH := Lib.hid h
  have HT := Lib.hid ht
  obtain ⟨TA, tc, rfl, z1, z2⟩ := ints_form ht
  obtain ⟨nt, hnt⟩ : ∃ L, told.length = L := ⟨_, rfl⟩
  have HNT := Lib.hid hnt
  rw [hnt] at HT z1 ht3 ⊢
  unfold maxLen at z2
  obtain ⟨w1, hw1⟩ : ∃ W, (w.alloc (.cells #[ov, rv, iv] 30)).alloc (.cells #[nilV, .int .i64 0, .int .i64 0, nilV, nilV] 59) = W := ⟨_, rfl⟩
  have HW1 := Lib.hid hw1
  have HB1 : Hid (Below w.heap.size w w1) := Lib.hid (by rw [← hw1]; exact below2 _ _ _)
  have HS1 : Hid (w1.heap.size = w.heap.size + 2) := Lib.hid (by rw [← hw1]; simp)
  have HX1 : Hid (NetBox w1 w.heap.size 30 ov rv iv) := Lib.hid (by rw [← hw1]; exact (box_new w 30 _ _ _).below (below_new _ _) (by simp))
  have HC1 : Hid (CodBox w1 (w.heap.size + 1) 59 nilV 0 0 nilV nilV) := Lib.hid (by
    rw [← hw1]
    have := codbox_new (w.alloc (.cells #[ov, rv, iv] 30)) 59 nilV nilV nilV 0 0
    rw [show (w.alloc (.cells #[ov, rv, iv] 30)).heap.size = w.heap.size + 1 by simp] at this
    exact this)
  have HMA := Lib.hid (ssortF_any w1 _ _ _ N (HH.out.below HB1.out (Nat.le_refl _)) hn3 hr3 hi3)
  have HT1 := Lib.hid (HT.out.below HB1.out (Nat.le_refl _))
  obtain ⟨C, hC⟩ : ∃ b, checkN N = b := ⟨_, rfl⟩
  have HC := Lib.hid hC
  obtain ⟨p0, p1, p2⟩ := HX1.out.ats
  clear h ht hw1 hC hnt
  go_enter Try.func36, Try.ntmps36
  go_wp2_with fail
  rw [HW1.out]
  go_wp2_with fail
  refine HMA.out.mono ?_
  rintro e w2 ⟨hb2, so, sr, si, rfl, hnet, hfr⟩
  rw [HC.out]
  obtain ⟨M, hM⟩ : ∃ M, sortN N = M := ⟨_, rfl⟩
  have HM := Lib.hid hM
  rw [hM] at hnet
  obtain ⟨n, hn⟩ : ∃ k, M.ops.length = k := ⟨_, rfl⟩
  obtain ⟨nr, hnr⟩ : ∃ k, M.roots.length = k := ⟨_, rfl⟩
  obtain ⟨ni, hni⟩ : ∃ k, M.ins.length = k := ⟨_, rfl⟩
  obtain ⟨OA, oc, rfl, z5, z6⟩ := hnet.1.form
  obtain ⟨RA, rc, rfl, z3, z4⟩ := ints_form hnet.2.1
  obtain ⟨IA, ic, rfl, z7, z8⟩ := ints_form hnet.2.2
  rw [hn, hnr, hni] at hnet ⊢
  rw [hn] at z5
  rw [hnr] at z3
  rw [hni] at z7
  unfold maxLen at z4 z6 z8
  have HN := Lib.hid hn
  have HNR := Lib.hid hnr
  have HNI := Lib.hid hni
  have HFR : Hid (Fr (w.heap.size + 2) (.slice IA ni ic)) := Lib.hid (by rw [hni, HS1.out] at hfr; exact hfr)
  clear hfr
  obtain ⟨w3, hw3⟩ : ∃ W, w2.alloc (.cells #[.slice OA n oc, .slice RA nr rc, .slice IA ni ic] 30) = W := ⟨_, rfl⟩
  have HB3 : Hid (Below w1.heap.size w1 w3) := Lib.hid (by rw [← hw3]; exact hb2.alloc hb2.size _)
  have HB23 : Hid (Below w2.heap.size w2 w3) := Lib.hid (by rw [← hw3]; exact below_new _ _)
  have HS3 : Hid (w3.heap.size = w2.heap.size + 1 ∧ w.heap.size + 2 ≤ w2.heap.size) := Lib.hid ⟨by rw [← hw3]; simp, by have := hb2.size; have := HS1.out; omega⟩
  have HX3 : Hid (NetBox w3 w2.heap.size 30 (.slice OA n oc) (.slice RA nr rc) (.slice IA ni ic)) := Lib.hid (by rw [← hw3]; exact box_new _ _ _ _ _)
  have HC3 : Hid (CodBox w3 (w.heap.size + 1) 59 nilV 0 0 nilV nilV) := Lib.hid (HC1.out.below HB3.out HC1.out.lt)
  have HN3 : Hid (NetR w3 (.slice OA n oc) (.slice RA nr rc) (.slice IA ni ic) M) := Lib.hid (hnet.below HB23.out (Nat.le_refl _))
  have HT3 : Hid (Ints w3 (.slice TA nt tc) told) := Lib.hid (HT1.out.below HB3.out (Nat.le_refl _))
  have HBW : Hid (Below w.heap.size w w3) := Lib.hid (HB1.out.trans (HB3.out.mono HB1.out.size))
  by_cases hC0 : C ≠ 0
  · have hne : (C != 0) = true := by simpa using hC0
    have hF : faultC N told = C := by unfold faultC; rw [HC.out, if_pos hC0]
    have HF : Hid (faultC N told = C ∧ makeC N told = emptyC) := Lib.hid ⟨hF, by unfold makeC; rw [hF, if_neg hC0]⟩
    obtain ⟨q0, q1, q2, q3, q4⟩ := HC3.out.ats
    obtain ⟨f0, f1, f2, f3, f4⟩ := HC3.out.fzs
    clear hb2 hnet hF hC0 hM hn hnr hni
    go_wp2_with fail
    try rw [hw3]
    clear hw3
    go_wp2_with fail
    obtain ⟨y0, y1, y2, y3, y4⟩ := (HC3.out.set5 nilV nilV nilV 0 0).ats
    refine bodyPost_ret (v := .tuple #[.agg #[nilV, .int .i64 0, .int .i64 0, nilV, nilV], .int .i64 C]) (by simp [results, Try.results36, go_sem, y0, y1, y2, y3, y4]) rfl ⟨?_, _, _, _, by rw [HF.out.1, HF.out.2]; rfl, by rw [HF.out.2]; exact cod_nil _⟩
    exact ((((HBW.out.setCell (p := ⟨w.heap.size + 1, 0, none⟩) (by simp) _).setCell (p := ⟨w.heap.size + 1, 1, none⟩) (by simp) _).setCell (p := ⟨w.heap.size + 1, 2, none⟩) (by simp) _).setCell (p := ⟨w.heap.size + 1, 3, none⟩) (by simp) _).setCell (p := ⟨w.heap.size + 1, 4, none⟩) (by simp) _
  · have hC0 : C = 0 := Classical.not_not.1 hC0
    subst hC0
    have HC0 := HC
    have HSM : Hid (M = sortedN N) := Lib.hid (by rw [← HM.out]; unfold sortN; rw [if_pos HC.out])
    have HMC : Hid (checkN M = 0 ∧ inOrdB M = true ∧ toldB M told = toldB N told) := Lib.hid ⟨by rw [HSM.out]; exact sorted_check HC.out, by rw [HSM.out]; exact sorted_ord HC.out, by rw [HSM.out]; exact told_sorted told⟩
    have HML : Hid (n = N.ops.length ∧ nr = N.roots.length ∧ ni = N.ins.length) := Lib.hid (by
      refine ⟨by rw [← HN.out, HSM.out]; exact sorted_len HC.out, by rw [← HNR.out, HSM.out]; unfold sortedN; simp, by rw [← HNI.out, HSM.out]; rfl⟩)
    have hn33 : n ≤ 1000 := by rw [HML.out.1]; exact hn3
    have hnr3 : nr ≤ 1000 := by rw [HML.out.2.1]; exact hr3
    have hni3 : ni ≤ 1000 := by rw [HML.out.2.2]; exact hi3
    have HCT := Lib.hid (told_cont w3 TA RA nt tc nr rc w2.heap.size 30 (.slice OA n oc) (.slice IA ni ic) told HNT.out.symm (by unfold maxLen; omega) HT3.out HX3.out)
    obtain ⟨tb, htb⟩ : ∃ b, toldB N told = b := ⟨_, rfl⟩
    have HTB := Lib.hid htb
    have HANY : Hid (told.any (fun x => !isOp nr x) = !tb) := Lib.hid (by
      rw [← htb, ← HMC.out.2.2]
      unfold toldB
      rw [HNR.out, List.any_eq_not_all_not]
      simp)
    rw [HANY.out] at HCT
    have HFM : Hid (makeC N told = if faultC N told = 0 then codeN M told else emptyC) := Lib.hid (by unfold makeC; rw [← HSM.out])
    clear hb2 hnet hM hnr htb hn hni
    go_wp2_with fail
    try rw [hw3]
    clear hw3
    go_wp2_with fail
    refine HCT.out.mono ?_
    rintro e w4 ⟨rfl, n4, hw4⟩
    have HB4 : Hid (Below w3.heap.size w3 w4) := Lib.hid (by rw [hw4]; exact below_drewN (Below.refl _ _) n4)
    have HS4 : Hid (w4.heap.size = w3.heap.size) := Lib.hid (by rw [hw4]; rfl)
    have HBW4 : Hid (Below w.heap.size w w4) := Lib.hid (HBW.out.trans (HB4.out.mono HBW.out.size))
    have HX4 : Hid (NetBox w4 w2.heap.size 30 (.slice OA n oc) (.slice RA nr rc) (.slice IA ni ic)) := Lib.hid (HX3.out.below HB4.out HX3.out.lt)
    have HC4 : Hid (CodBox w4 (w.heap.size + 1) 59 nilV 0 0 nilV nilV) := Lib.hid (HC3.out.below HB4.out HC3.out.lt)
    have HN4 : Hid (NetR w4 (.slice OA n oc) (.slice RA nr rc) (.slice IA ni ic) M) := Lib.hid (HN3.out.below HB4.out (Nat.le_refl _))
    have HT4 : Hid (Ints w4 (.slice TA nt tc) told) := Lib.hid (HT3.out.below HB4.out (Nat.le_refl _))
    clear hw4
    cases tb with
    | false =>
      have hF : faultC N told = 1 := by unfold faultC; rw [HC.out, if_neg (by simp), if_pos HTB.out]
      have HF : Hid (faultC N told = 1 ∧ makeC N told = emptyC) := Lib.hid ⟨hF, by unfold makeC; rw [hF, if_neg (by decide)]⟩
      obtain ⟨q0, q1, q2, q3, q4⟩ := HC4.out.ats
      obtain ⟨f0, f1, f2, f3, f4⟩ := HC4.out.fzs
      clear hF
      try simp only [Bool.not_false, Bool.not_true]
      go_wp2_with fail
      obtain ⟨y0, y1, y2, y3, y4⟩ := (HC4.out.set5 nilV nilV nilV 0 0).ats
      refine bodyPost_ret (v := .tuple #[.agg #[nilV, .int .i64 0, .int .i64 0, nilV, nilV], .int .i64 1]) (by simp [results, Try.results36, go_sem, y0, y1, y2, y3, y4]) rfl ⟨?_, _, _, _, by rw [HF.out.1, HF.out.2]; rfl, by rw [HF.out.2]; exact cod_nil _⟩
      exact ((((HBW4.out.setCell (p := ⟨w.heap.size + 1, 0, none⟩) (by simp) _).setCell (p := ⟨w.heap.size + 1, 1, none⟩) (by simp) _).setCell (p := ⟨w.heap.size + 1, 2, none⟩) (by simp) _).setCell (p := ⟨w.heap.size + 1, 3, none⟩) (by simp) _).setCell (p := ⟨w.heap.size + 1, 4, none⟩) (by simp) _
    | true =>
      have hF : faultC N told = 0 := by unfold faultC; rw [HC.out, if_neg (by simp), if_neg (by rw [HTB.out]; simp)]
      have HF : Hid (faultC N told = 0 ∧ makeC N told = codeN M told) := Lib.hid ⟨hF, by rw [HFM.out, if_pos hF]⟩
      have HTM : Hid (toldB M told = true) := Lib.hid (by rw [HMC.out.2.2, HTB.out])
      clear hF
      try simp only [Bool.not_false, Bool.not_true]
      go_wp2_with fail
      have HS4N : Hid (∀ V, Below w4.heap.size w4 V → V.cell? ⟨w2.heap.size, 0, none⟩ = some (.slice OA n oc) ∧ V.cell? ⟨w2.heap.size, 1, none⟩ = some (.slice RA nr rc) ∧ V.cell? ⟨w2.heap.size, 2, none⟩ = some (.slice IA ni ic)) := Lib.hid (fun V hV => (HX4.out.below hV HX4.out.lt).ats)
      have KR := Lib.hid (HS4N.out _ (Below.refl _ _))
      have KD := Lib.hid (HS4N.out _ (Below.refl w4.heap.size w4).drew)
      have HKA : Hid (∀ V o, Below w4.heap.size w4 V → Below w4.heap.size w4 (V.alloc o) ∧ Below w4.heap.size w4 (V.alloc o).drew) := Lib.hid (fun V o hV => ⟨hV.alloc hV.size _, (hV.alloc hV.size _).drew⟩)
      have HEL : Hid ((endsN M).length = n) := Lib.hid (by
        have hi : isN M = true := by unfold isN; rw [HMC.out.1, HMC.out.2.1]; rfl
        unfold endsN endsOf
        rw [if_pos hi]; simp; exact HN.out)
      have HEND : Hid (∀ V, Below w4.heap.size w4 V → V.heap.size = w4.heap.size → Calls Try.prog 26 #[.agg #[.slice OA n oc, .slice RA nr rc, .slice IA ni ic]] V (fun e w' => ∃ EA ec, e = .returned (.slice EA n ec) ∧ w'.ownsRow w4.heap.size 3 1 (.slice EA n ec) n (intsOf (endsN M)) ∧ Below w4.heap.size w4 w')) := Lib.hid (fun V hV hs => by
        refine (sends_any V _ _ _ M (HN4.out.below hV (Nat.le_refl _)) (by rw [HNI.out]; omega)).mono ?_
        rintro e w' ⟨v, rfl, hown, hb⟩
        rw [HEL.out, hs] at hown
        rw [hs] at hb
        obtain ⟨EA, ec, rfl, -, -⟩ := own_slice hown
        exact ⟨EA, ec, rfl, hown, hV.trans hb⟩)
      go_region_held3 (fun V => V.cell? ⟨w2.heap.size, 0, none⟩ = some (.slice OA n oc) ∧ V.cell? ⟨w2.heap.size, 1, none⟩ = some (.slice RA nr rc) ∧ V.cell? ⟨w2.heap.size, 2, none⟩ = some (.slice IA ni ic))
        (first | exact KR.out | exact KD.out | exact HS4N.out _ HBcur.out | exact HS4N.out _ HBcur.out.drew | exact HS4N.out _ (HKA.out _ _ HBcur.out).1 | exact HS4N.out _ (HKA.out _ _ HBcur.out).2)
        (first
          | (go_at_call 26; with_reducible refine (HEND.out _ (Below.refl _ _) rfl).mono ?_; rintro e w5 ⟨EA, ec, rfl, hown5, hb5⟩; have HBcur := Lib.hid hb5; have HOW := Lib.hid hown5; clear hb5 hown5)
          | (go_at_call 26; with_reducible refine (HEND.out _ (Below.refl _ _).drew rfl).mono ?_; rintro e w5 ⟨EA, ec, rfl, hown5, hb5⟩; have HBcur := Lib.hid hb5; have HOW := Lib.hid hown5; clear hb5 hown5))
      obtain ⟨w6, hw6⟩ : ∃ V, w5.alloc (.cells #[nilV, .int .i64 0, .int .i64 0, nilV, .slice IA ni ic, .slice OA n oc, .slice EA n ec, nilV, nilV] 121) = V := ⟨_, rfl⟩
      have HM0 : Hid (MkS w4 w4.heap.size w5.heap.size M (.slice IA ni ic) (.slice OA n oc) w6 nilV nilV (.slice EA n ec) nilV nilV ⟨[], 0, 0, [], [], endsN M⟩ []) := Lib.hid (by rw [← hw6]; exact mk_new HBcur.out (by rw [HEL.out]; exact HOW.out) HN4.out.1 HN4.out.2.2)
      rw [hw6]
      have HTA : Hid (∀ i ∈ told, ∃ (ki kr : Nat) (r : Int), i = (ki : Int) ∧ ki < nr ∧ M.roots[ki]? = some r ∧ r = (kr : Int) ∧ kr < n ∧ at0 M.roots i = r) := Lib.hid (fun i hi => by
        have h1 := HTM.out
        unfold toldB at h1
        rw [List.all_eq_true] at h1
        have h2 := h1 i hi
        have h3 := isOp_iff.1 h2
        have h4 := root_in (check_ok.1 HMC.out.1).1 h2
        rw [HN.out] at h4
        rw [HNR.out] at h3
        obtain ⟨ki, rfl⟩ : ∃ k : Nat, i = (k : Int) := ⟨i.toNat, by omega⟩
        obtain ⟨r, hr⟩ : ∃ r, M.roots[ki]? = some r := ⟨_, List.getElem?_eq_getElem (by rw [HNR.out]; omega)⟩
        have h5 := at0_of hr
        rw [h5] at h4
        exact ⟨ki, r.toNat, r, rfl, by omega, hr, by omega, by omega, h5⟩)
      have HE1L : Hid (∀ q, ((told.take q).foldl (fun e i => e.set (at0 M.roots i).toNat (-2)) (endsN M)).length = n) := Lib.hid (fun q => by rw [ends_told_len]; exact HEL.out)
      have HE2L : Hid (∀ q, ((M.ops.take q).foldl (fun e o => if o.op = 21 then e.set o.a.toNat (-2) else e) (endsT M told)).length = n) := Lib.hid (fun q => by rw [ends_pre_len]; unfold endsT; rw [ends_told_len]; exact HEL.out)
      have hx2 : w2.heap.size < w4.heap.size := by rw [HS4.out, HS3.out.1]; omega
      clear hw6 HOW HBcur KR KD HKA HEND HCT HMA HT1 HX1 HC1 HB1 HBW HX3 HC3 HN3 HT3 HB3 HB4 HB23 HH HT p0 p1 p2
      go_wp2_with fail
      go_loopw [40] (fun v40 wr => ∃ q : Nat, q ≤ nt ∧ v40 = .int .i64 (q : Int) ∧ MkS w4 w4.heap.size w5.heap.size M (.slice IA ni ic) (.slice OA n oc) wr nilV nilV (.slice EA n ec) nilV nilV ⟨[], 0, 0, [], [], (told.take q).foldl (fun e i => e.set (at0 M.roots i).toNat (-2)) (endsN M)⟩ []) (fun v40 _ => nt - (intOf v40).toNat)
      case atStart => exact ⟨0, Nat.zero_le _, rfl, HM0.out⟩
      case round =>
        obtain ⟨q, hq, rfl, hm⟩ := hrel
        have HM1 := Lib.hid hm
        obtain ⟨wk, hwk⟩ : ∃ W, W = wr := ⟨_, rfl⟩
        subst hwk
        by_cases hq1 : q < nt
        · obtain ⟨i, hi⟩ : ∃ i, told[q]? = some i := ⟨_, List.getElem?_eq_getElem (by rw [HNT.out]; exact hq1)⟩
          have HI := Lib.hid hi
          obtain ⟨ki, kr, r, rfl, hki, hr, rfl, hkr, hat⟩ := HTA.out i (List.mem_of_getElem? hi)
          obtain ⟨gt, ot, rfl, hgt, ct⟩ := ints_at (HT4.out.below hm.old (Nat.le_refl _)) hi
          obtain ⟨gr, og, hRA, hgr, cr⟩ := ints_at HN4.out.2.1 hr
          subst hRA
          have crk : wk.cell? ⟨gr, og + ki, none⟩ = some (.int .i64 (kr : Int)) := (hm.old.cell hgr).trans cr
          obtain ⟨q0, q1, q2⟩ := (HX4.out.below hm.old HX4.out.lt).ats
          obtain ⟨x, hx⟩ : ∃ x, ((told.take q).foldl (fun e i => e.set (at0 M.roots i).toNat (-2)) (endsN M))[kr]? = some x := ⟨_, List.getElem?_eq_getElem (by rw [HE1L.out]; exact hkr)⟩
          have hend := hm.ends
          dsimp only at hend
          rw [HE1L.out] at hend
          obtain ⟨eg, rfl, hegB, hge, ce, fe⟩ := row_at hend hx hkr
          have hst := hm.setEnds kr (-2) (by dsimp only; rw [HE1L.out]; exact hkr)
          have HST := Lib.hid (hst.below (Below.refl _ _).drew)
          have HNX : Hid ((told.take (q + 1)).foldl (fun e i => e.set (at0 M.roots i).toNat (-2)) (endsN M) = ((told.take q).foldl (fun e i => e.set (at0 M.roots i).toNat (-2)) (endsN M)).set kr (-2)) := Lib.hid (by rw [fold_snoc hi, hat]; rfl)
          obtain ⟨t0, t1, t2, t3, t4, t5, t6, t7, t8⟩ := hm.ats
          have hbe : w5.heap.size ≠ eg := fun e => not_box hm.ends hm.box (by decide) (by rw [e]; rfl)
          have K0 : Hid (wk.cell? ⟨w5.heap.size, 6, none⟩ = some (.slice (some ⟨eg, 0, none⟩) n ec) ∧ wk.cell? ⟨w2.heap.size, 1, none⟩ = some (.slice (some ⟨gr, og, none⟩) nr rc) ∧ wk.cell? ⟨gr, og + ki, none⟩ = some (.int .i64 (kr : Int))) := Lib.hid ⟨t6, q1, crk⟩
          have hset : ∀ p : Addr, p.block ≠ eg → (wk.setCell ⟨eg, kr, none⟩ (.int .i64 (-2))).cell? p = wk.cell? p := fun p hp => World.cell?_of_block (Below.heap_setCell _ _ _ _ hp)
          have K1 : Hid ((wk.setCell ⟨eg, kr, none⟩ (.int .i64 (-2))).drew.cell? ⟨w5.heap.size, 6, none⟩ = some (.slice (some ⟨eg, 0, none⟩) n ec) ∧ (wk.setCell ⟨eg, kr, none⟩ (.int .i64 (-2))).drew.cell? ⟨w2.heap.size, 1, none⟩ = some (.slice (some ⟨gr, og, none⟩) nr rc) ∧ (wk.setCell ⟨eg, kr, none⟩ (.int .i64 (-2))).drew.cell? ⟨gr, og + ki, none⟩ = some (.int .i64 (kr : Int))) :=
            Lib.hid ⟨(hset _ hbe).trans t6, (hset _ (by show w2.heap.size ≠ eg; omega)).trans q1, (hset _ (by show gr ≠ eg; omega)).trans crk⟩
          have a1 : (0 : Int) ≤ (ki : Int) := by omega
          have a2 : (ki : Int) < (nr : Int) := by omega
          have a3 : (0 : Int) ≤ (kr : Int) := by omega
          have a4 : (kr : Int) < (n : Int) := by omega
          clear hi hr hat cr hx hend hst hm
          go_wp2_with fail
          go_region_held3 (fun V => V.cell? ⟨w5.heap.size, 6, none⟩ = some (.slice (some ⟨eg, 0, none⟩) n ec) ∧ V.cell? ⟨w2.heap.size, 1, none⟩ = some (.slice (some ⟨gr, og, none⟩) nr rc) ∧ V.cell? ⟨gr, og + ki, none⟩ = some (.int .i64 (kr : Int)))
            (first | exact K0.out | exact K1.out) (first | fail)
          go_wp2_with fail
          go_roundw
          case rel => exact ⟨q + 1, by omega, by go_num, by rw [HNX.out]; exact HST.out⟩
          case measure => simp [intOf]; omega
        · have HEX : Hid ((told.take q).foldl (fun e i => e.set (at0 M.roots i).toNat (-2)) (endsN M) = endsT M told) := Lib.hid (by rw [List.take_of_length_le (by rw [HNT.out]; omega)]; rfl)
          rw [HEX.out] at HM1
          clear hm
          obtain ⟨t0, t1, t2, t3, t4, t5, t6, t7, t8⟩ := HM1.out.ats
          have HPRE : Hid (∀ (q : Nat) (o : Op5), M.ops[q]? = some o → o.op = 21 → ∃ kr : Nat, o.a = (kr : Int) ∧ kr < n) := Lib.hid (fun q o ho hp => by
            have hq := (List.getElem?_eq_some_iff.1 ho).1
            have e : opAt M q = o := by unfold opAt; rw [List.getD_eq_getElem?_getD, ho]; rfl
            have := pre_in (check_ok.1 HMC.out.1).1 hq (by rw [e]; exact hp)
            rw [e, HN.out] at this
            exact ⟨o.a.toNat, by omega, by omega⟩)
          go_wp2_with fail
          go_loopw [60] (fun v60 wr => ∃ q : Nat, q ≤ n ∧ v60 = .int .i64 (q : Int) ∧ MkS w4 w4.heap.size w5.heap.size M (.slice IA ni ic) (.slice OA n oc) wr nilV nilV (.slice EA n ec) nilV nilV ⟨[], 0, 0, [], [], (M.ops.take q).foldl (fun e o => if o.op = 21 then e.set o.a.toNat (-2) else e) (endsT M told)⟩ []) (fun v60 _ => n - (intOf v60).toNat)
          case atStart => exact ⟨0, Nat.zero_le _, rfl, HM1.out⟩
          case round =>
            obtain ⟨q, hq, rfl, hm⟩ := hrel
            have HM2 := Lib.hid hm
            obtain ⟨wl, hwl⟩ : ∃ W, W = wr := ⟨_, rfl⟩
            subst hwl
            by_cases hq2 : q < n
            · obtain ⟨o, ho⟩ : ∃ o, M.ops[q]? = some o := ⟨_, List.getElem?_eq_getElem (by rw [HN.out]; exact hq2)⟩
              have HNX : Hid ((M.ops.take (q + 1)).foldl (fun e o => if o.op = 21 then e.set o.a.toNat (-2) else e) (endsT M told) = if o.op = 21 then ((M.ops.take q).foldl (fun e o => if o.op = 21 then e.set o.a.toNat (-2) else e) (endsT M told)).set o.a.toNat (-2) else (M.ops.take q).foldl (fun e o => if o.op = 21 then e.set o.a.toNat (-2) else e) (endsT M told)) := Lib.hid (by rw [fold_snoc ho])
              have hpre := HPRE.out q o ho
              have hB0 : Below w4.heap.size w4 wl := hm.old
              obtain ⟨g, oo, rfl, hg, d0, d1, d2, d3, d4⟩ := (HN4.out.1.below hB0 (Nat.le_refl _)).at ho
              obtain ⟨oop, oa, ob, od, on⟩ := o
              dsimp only at d0 d1 d2 d3 d4 hpre HNX
              obtain ⟨wm, hwm⟩ : ∃ V, wl.alloc (.cells #[.int .i64 oop, .int .i64 oa, .int .i64 ob, .int .i64 od, .int .i64 on] 79) = V := ⟨_, rfl⟩
              have hbm : Below wl.heap.size wl wm := by rw [← hwm]; exact below_new _ _
              have HO2 : Hid (OpBox wm wl.heap.size 79 ⟨oop, oa, ob, od, on⟩) := Lib.hid ⟨by rw [← hwm]; exact heap_alloc_new _ _⟩
              have hm2 := hm.below hbm
              have HM3 := Lib.hid hm2
              obtain ⟨ox0, ox1, ox2, ox3, ox4, -, -, -⟩ := HO2.out.ats
              dsimp only at ox0 ox1 ox2 ox3 ox4
              by_cases hp : oop = 21
              · subst hp
                obtain ⟨kr, rfl, hkr⟩ := hpre rfl
                rw [if_pos rfl] at HNX
                obtain ⟨x, hx⟩ : ∃ x, ((M.ops.take q).foldl (fun e o => if o.op = 21 then e.set o.a.toNat (-2) else e) (endsT M told))[kr]? = some x := ⟨_, List.getElem?_eq_getElem (by rw [HE2L.out]; exact hkr)⟩
                have hend := hm2.ends
                dsimp only at hend
                rw [HE2L.out] at hend
                obtain ⟨eg, rfl, hegB, hge, ce, fe⟩ := row_at hend hx hkr
                have hst := hm2.setEnds kr (-2) (by dsimp only; rw [HE2L.out]; exact hkr)
                have HST := Lib.hid (hst.below (Below.refl _ _).drew)
                obtain ⟨s0, s1, s2, s3, s4, s5, s6, s7, s8⟩ := hm2.ats
                have hbe : w5.heap.size ≠ eg := fun e => not_box hm2.ends hm2.box (by decide) (by rw [e]; rfl)
                have hoe : wl.heap.size ≠ eg := by
                  have := (hm.ends.lt eg rfl).2
                  omega
                have hset : ∀ p : Addr, p.block ≠ eg → (wm.setCell ⟨eg, kr, none⟩ (.int .i64 (-2))).cell? p = wm.cell? p := fun p hp => World.cell?_of_block (Below.heap_setCell _ _ _ _ hp)
                have K0 : Hid (wm.cell? ⟨w5.heap.size, 6, none⟩ = some (.slice (some ⟨eg, 0, none⟩) n ec) ∧ wm.cell? ⟨wl.heap.size, 1, none⟩ = some (.int .i64 (kr : Int))) := Lib.hid ⟨s6, ox1⟩
                have K1 : Hid ((wm.setCell ⟨eg, kr, none⟩ (.int .i64 (-2))).drew.cell? ⟨w5.heap.size, 6, none⟩ = some (.slice (some ⟨eg, 0, none⟩) n ec) ∧ (wm.setCell ⟨eg, kr, none⟩ (.int .i64 (-2))).drew.cell? ⟨wl.heap.size, 1, none⟩ = some (.int .i64 (kr : Int))) :=
                  Lib.hid ⟨(hset _ hbe).trans s6, (hset _ hoe).trans ox1⟩
                have a3 : (0 : Int) ≤ (kr : Int) := by omega
                have a4 : (kr : Int) < (n : Int) := by omega
                clear ho hpre hx hend hst hm hm2 hbm hB0
                go_wp2_with fail
                try rw [hwm]
                try clear hwm
                go_region_held3 (fun V => V.cell? ⟨w5.heap.size, 6, none⟩ = some (.slice (some ⟨eg, 0, none⟩) n ec) ∧ V.cell? ⟨wl.heap.size, 1, none⟩ = some (.int .i64 (kr : Int)))
                  (first | exact K0.out | exact K1.out) (first | fail)
                go_wp2_with fail
                go_roundw
                case rel => exact ⟨q + 1, by omega, by go_num, by rw [HNX.out]; exact HST.out⟩
                case measure => simp [intOf]; omega
              · have dop : (oop == 21) = false := by simpa using hp
                rw [if_neg hp] at HNX
                clear ho hpre hm hm2 hbm hB0
                go_wp2_with fail
                try rw [hwm]
                try clear hwm
                go_roundw
                case rel => exact ⟨q + 1, by omega, by go_num, by rw [HNX.out]; exact HM3.out⟩
                case measure => simp [intOf]; omega
            · have HEX2 : Hid ((M.ops.take q).foldl (fun e o => if o.op = 21 then e.set o.a.toNat (-2) else e) (endsT M told) = endsP M told) := Lib.hid (by rw [List.take_of_length_le (by rw [HN.out]; omega)]; rfl)
              rw [HEX2.out] at HM2
              clear hm
              obtain ⟨s0, s1, s2, s3, s4, s5, s6, s7, s8⟩ := HM2.out.ats
              clear t0 t1 t2 t3 t4 t5 t6 t7 t8 HM1 HM0
              go_wp2_with fail
              have HINV : Hid (∀ i, i ≤ n → Inv M (endsP M told) i (layN M told i)) := Lib.hid (fun i hi => inv_all HMC.out.1 HMC.out.2.1 HTM.out i (by rw [HN.out]; exact hi))
              go_loopw [80] (fun v80 wr => ∃ (q : Nat) (iv' lv' fv' : Value), q ≤ n ∧ v80 = .int .i64 (q : Int) ∧ MkS w4 w4.heap.size w5.heap.size M (.slice IA ni ic) (.slice OA n oc) wr iv' nilV (.slice EA n ec) lv' fv' (layN M told q) []) (fun v80 _ => n - (intOf v80).toNat)
              case atStart => exact ⟨0, nilV, nilV, nilV, Nat.zero_le _, rfl, HM2.out⟩
              case round =>
                obtain ⟨q, iv', lv', fv', hq, rfl, hm⟩ := hrel
                have HM3 := Lib.hid hm
                obtain ⟨wm, hwm⟩ : ∃ W, W = wr := ⟨_, rfl⟩
                subst hwm
                clear s0 s1 s2 s3 s4 s5 s6 s7 s8
                by_cases hq3 : q < n
                · have HO : Hid (M.ops[q]? = some (opAt M q)) := Lib.hid (op_get (by rw [HN.out]; exact hq3))
                  have HSL : Hid ((layN M told q).slots ≤ q) := Lib.hid (by
                    rw [slots_pre q (by rw [HN.out]; exact hq)]
                    have := pre_le (M.ops.take q)
                    rw [List.length_take] at this
                    omega)
                  have HFL : Hid ((opAt M q).op ≠ 21 → ∀ k ∈ [(opAt M q).a, (opAt M q).b, (opAt M q).c], k < 0 ∨ (0 ≤ k ∧ k < (q : Int))) := Lib.hid (fun hp => (fields_lt (check_ok.1 HMC.out.1).1 HMC.out.2.1 (by rw [HN.out]; exact hq3) hp).1)
                  have HI := Lib.hid (HINV.out q hq)
                  clear hm
                  go_wp2_with fail
                  refine (lay_any HM3.out q (opAt M q) HO.out HI.out.lloc HI.out.lends (by rw [HN.out]; omega) HI.out.lins (by have := HI.out.flen; omega) HI.out.regs HSL.out HFL.out).mono ?_
                  rintro e w7 ⟨rfl, iv3, lv3, fv3, hm3⟩
                  rw [← lay_succ] at hm3
                  have HM4 := Lib.hid hm3
                  clear hm3
                  go_wp2_with fail
                  go_roundw
                  case rel => exact ⟨q + 1, iv3, lv3, fv3, by omega, by go_num, HM4.out⟩
                  case measure => simp [intOf]; omega
                · have hqn : n = q := by omega
                  subst hqn
                  have HI := Lib.hid (HINV.out n (Nat.le_refl _))
                  have HPQ : Hid (∀ o ∈ M.ops, o.op = 21 → 0 ≤ o.a ∧ o.a < (n : Int)) := Lib.hid (fun o ho hp => by
                    obtain ⟨k, hk⟩ := List.getElem?_of_mem ho
                    obtain ⟨kr, h1, h2⟩ := HPRE.out k o hk hp
                    omega)
                  clear hm HM2
                  go_wp2_with fail
                  refine (store_any HM3.out n HN.out hn33 HI.out.lloc (by rw [HI.out.lins]; exact hn33) HPQ.out).mono ?_
                  rintro e w7 ⟨rfl, iv4, hm4⟩
                  obtain ⟨mF, hmF⟩ : ∃ m1 : Mk, ({ layN M told n with ins := (layN M told n).ins ++ stores (layN M told n).loc M.ops 0 } : Mk) = m1 := ⟨_, rfl⟩
                  rw [hmF] at hm4
                  have HMF : Hid (mF.loc.length = n ∧ codeN M told = ⟨mF.ins, (mF.regs : Int), (mF.slots : Int), told.map (fun i => at0 mF.loc (at0 M.roots i)), M.ins⟩) := Lib.hid (by
                    subst hmF
                    refine ⟨HI.out.lloc, ?_⟩
                    unfold codeN
                    rw [HN.out])
                  obtain ⟨OT, hOT⟩ : ∃ f : Nat → List Int, (fun q => (told.take q).map (fun i => at0 mF.loc (at0 M.roots i))) = f := ⟨_, rfl⟩
                  have HOTL : Hid (∀ q, q ≤ nt → (OT q).length = q) := Lib.hid (fun q hq => by
                    rw [← hOT]
                    simp only [List.length_map, List.length_take]
                    have := HNT.out
                    omega)
                  have HOT0 : Hid (OT 0 = []) := Lib.hid (by rw [← hOT]; rfl)
                  have HOTS : Hid (∀ q i, told[q]? = some i → OT (q + 1) = OT q ++ [at0 mF.loc (at0 M.roots i)]) := Lib.hid (fun q i hi => by
                    rw [← hOT]
                    show ((told.take (q + 1)).map _) = _
                    rw [List.take_add_one, hi, List.map_append]; rfl)
                  have HOTE : Hid (OT nt = told.map (fun i => at0 mF.loc (at0 M.roots i))) := Lib.hid (by
                    rw [← hOT]
                    show ((told.take nt).map _) = _
                    rw [List.take_of_length_le (by rw [HNT.out]; exact Nat.le_refl _)])
                  have hlv := hm4.loc
                  rw [HMF.out.1] at hlv
                  obtain ⟨LA, lc, rfl, lz1, lz2⟩ := own_slice hlv
                  unfold maxLen at lz2
                  have HM4 : Hid (MkS w4 w4.heap.size w5.heap.size M (.slice IA ni ic) (.slice OA n oc) w7 iv4 nilV (.slice EA n ec) (.slice LA n lc) fv' mF (OT 0)) := Lib.hid (by rw [HOT0.out]; exact hm4)
                  clear hm4 hmF hOT hlv HM3
                  go_wp2_with fail
                  go_loopw [91] (fun v91 wr => ∃ (q : Nat) (ov' : Value), q ≤ nt ∧ v91 = .int .i64 (q : Int) ∧ MkS w4 w4.heap.size w5.heap.size M (.slice IA ni ic) (.slice OA n oc) wr iv4 ov' (.slice EA n ec) (.slice LA n lc) fv' mF (OT q)) (fun v91 _ => nt - (intOf v91).toNat)
                  case atStart => exact ⟨0, nilV, Nat.zero_le _, rfl, HM4.out⟩
                  case round =>
                    obtain ⟨q, ov', hq, rfl, hm⟩ := hrel
                    have HM5 := Lib.hid hm
                    obtain ⟨wk3, hwk3⟩ : ∃ W, W = wr := ⟨_, rfl⟩
                    subst hwk3
                    by_cases hq4 : q < nt
                    · obtain ⟨i, hi⟩ : ∃ i, told[q]? = some i := ⟨_, List.getElem?_eq_getElem (by rw [HNT.out]; exact hq4)⟩
                      obtain ⟨ki, kr, r, rfl, hki, hr, rfl, hkr, hat⟩ := HTA.out i (List.mem_of_getElem? hi)
                      obtain ⟨gt, ot, rfl, hgt, ct⟩ := ints_at (HT4.out.below hm.old (Nat.le_refl _)) hi
                      obtain ⟨gr, og, hRA, hgr, cr⟩ := ints_at HN4.out.2.1 hr
                      subst hRA
                      have crk : wk3.cell? ⟨gr, og + ki, none⟩ = some (.int .i64 (kr : Int)) := (hm.old.cell hgr).trans cr
                      obtain ⟨q0, q1, q2⟩ := (HX4.out.below hm.old HX4.out.lt).ats
                      obtain ⟨x, hx⟩ : ∃ x, mF.loc[kr]? = some x := ⟨_, List.getElem?_eq_getElem (by rw [HMF.out.1]; exact hkr)⟩
                      have hloc := hm.loc
                      rw [HMF.out.1] at hloc
                      obtain ⟨lg, rfl, hlgB, hlg, cl, -⟩ := row_at hloc hx hkr
                      have HOTN : Hid (OT (q + 1) = OT q ++ [x]) := Lib.hid (by rw [HOTS.out q _ hi, hat, at0_of hx])
                      have hou := hm.outs
                      rw [HOTL.out q hq] at hou
                      have HROWO := Lib.hid hou
                      obtain ⟨OUA, ouc, rfl, oz1, oz2⟩ := own_slice hou
                      unfold maxLen at oz2
                      have hbl := hm.lt
                      have hBs := hm.size
                      obtain ⟨t0, t1, t2, t3, t4, t5, t6, t7, t8⟩ := hm.ats
                      obtain ⟨f0, f1, f2, f3, f7, f8⟩ := hm.fzs
                      have HG5 : Hid (∀ w7 gg cap, ((wk3.drew).alloc (.cells #[.int .i64 x] 3)).grownBy w7 (Value.slice OUA q ouc).ownBlock → w7.ownsRow w4.heap.size 3 1 (.slice (some ⟨gg, 0, none⟩) (q + 1) cap) (q + 1) (intsOf (OT q) ++ [.int .i64 (x)]) → ((Value.slice OUA q ouc).ownBlock = some gg ∨ gg = wk3.heap.size + 1) →
                          (w7.cell? ⟨w5.heap.size, 3, none⟩ = some (.slice OUA q ouc) ∧ w7.frozen? ⟨w5.heap.size, 3, none⟩ = false) ∧ MkS w4 w4.heap.size w5.heap.size M (.slice IA ni ic) (.slice OA n oc) (w7.setCell ⟨w5.heap.size, 3, none⟩ (.slice (some ⟨gg, 0, none⟩) (q + 1) cap)) iv4 (.slice (some ⟨gg, 0, none⟩) (q + 1) cap) (.slice EA n ec) (.slice (some ⟨lg, 0, none⟩) n lc) fv' mF (OT (q + 1))) := Lib.hid (fun w7 gg cap hg hown hat => by
                        have hbel : Below wk3.heap.size wk3 ((wk3.drew).alloc (.cells #[.int .i64 x] 3)) := (below_new wk3 (.cells #[.int .i64 x] 3)).drew |> fun x => by exact { os := x.os, tape := x.tape, output := x.output, size := x.size, block := x.block }
                        have hat2 : (Value.slice OUA q ouc).ownBlock = some gg ∨ wk3.heap.size ≤ gg := hat.imp id (fun e => by omega)
                        have hm2 := HM5.out
                        obtain ⟨g1, g2, g3⟩ := hm2.grow hbel hg (fun g hg => (hm2.outs.lt g hg).1) (not_box hm2.outs hm2.box (by decide)) 3 (.slice (some ⟨gg, 0, none⟩) (q + 1) cap)
                        have hadd := hm2.addOuts hbel hg (gg := gg) (cap := cap) (x := x) (by rw [HOTL.out q hq]; exact hown) hat2
                        rw [HOTL.out q hq] at hadd
                        refine ⟨⟨by simp [World.cell?, g3], by simp [World.frozen?, g3]⟩, ?_⟩
                        rw [HOTN.out]
                        exact hadd)
                      have a1 : (0 : Int) ≤ (ki : Int) := by omega
                      have a2 : (ki : Int) < (nr : Int) := by omega
                      have a3 : (0 : Int) ≤ (kr : Int) := by omega
                      have a4 : (kr : Int) < (n : Int) := by omega
                      clear hi hr hat cr hx hloc hou hm
                      go_wp2_with fail
                      go_region_law (refine step_append_lies _ (by rfl) _ _ _ (by rfl) w4.heap.size 3 i0 _ 1 8 Try.underlying23 hi0 hz0 hz1 hz2 rfl (by omega) (.slice OUA q ouc) q (intsOf (OT q)) (by rfl) (by exact HROWO.out.alloc _) ⟨wk3.heap.size, 0, none⟩ 1 1 [.int .i64 x] (by rfl) (by rfl) (World.news_of_block (cs := #[.int .i64 x]) (t := 3) (fr := (0, 0)) (heap_alloc_new _ _)) (by simp [Value.oneCell', insCells]) (by omega) (by unfold maxLen; omega) (by omega) (by simp; omega) (wk3.heap.size + 1) (by simp) ?_; intro gg cap w7 hown2 hgrow hat hlt; obtain ⟨⟨r0, r1⟩, HG⟩ := HG5.out w7 gg cap hgrow hown2 hat)
                      all_goals
                        go_wp2_with fail
                        go_roundw
                        case rel => exact ⟨q + 1, _, by omega, by go_num, HG⟩
                        case measure => simp [intOf]; omega
                    · have hqn : nt = q := by omega
                      have hmE := hm
                      rw [← hqn, HOTE.out] at hmE
                      have HME := Lib.hid hmE
                      obtain ⟨t0, t1, t2, t3, t4, t5, t6, t7, t8⟩ := hm.ats
                      have hcb := HC4.out.below hm.old (by rw [HS4.out, HS3.out.1]; have := HS3.out.2; omega)
                      have HCB := Lib.hid hcb
                      obtain ⟨c0, c1, c2, c3, c4⟩ := hcb.ats
                      obtain ⟨f0, f1, f2, f3, f4⟩ := hcb.fzs
                      have hne : w5.heap.size ≠ w.heap.size + 1 := by
                        have := hm.hb
                        have h1 := HS4.out
                        have h2 := HS3.out
                        omega
                      clear hm hmE hcb HM5 hqn
                      obtain ⟨IV, ivc, rfl, -, -⟩ := own_slice HME.out.ins
                      have hlen : (told.map (fun i => at0 mF.loc (at0 M.roots i))).length = nt := by rw [List.length_map]; exact HNT.out
                      have hou := HME.out.outs
                      rw [hlen] at hou
                      obtain ⟨OV, ovc, rfl, -, -⟩ := own_slice hou
                      have HOU := Lib.hid hou
                      have HLEN := Lib.hid hlen
                      clear hou hlen
                      have HFIN : Hid (∀ V, V = ((((wk3.setCell ⟨w.heap.size + 1, 0, none⟩ (.slice IV mF.ins.length ivc)).setCell ⟨w.heap.size + 1, 1, none⟩ (.int .i64 (mF.regs : Int))).setCell ⟨w.heap.size + 1, 2, none⟩ (.int .i64 (mF.slots : Int))).setCell ⟨w.heap.size + 1, 3, none⟩ (.slice OV nt ovc)).setCell ⟨w.heap.size + 1, 4, none⟩ (.slice IA ni ic) →
                          Below w.heap.size w V ∧ CodR V (.slice IV mF.ins.length ivc) (.slice OV nt ovc) (.slice IA ni ic) ⟨mF.ins, (mF.regs : Int), (mF.slots : Int), told.map (fun i => at0 mF.loc (at0 M.roots i)), M.ins⟩) := Lib.hid (fun V hV => by
                        have hbw : Below w.heap.size w wk3 := by
                          have h1 := HBW4.out
                          have h2 := HME.out.old
                          exact h1.trans (h2.mono (by have := HS4.out; have := HS3.out; omega))
                        have hk : ∀ g, g ≠ w.heap.size + 1 → V.heap[g]? = wk3.heap[g]? := fun g hg => by
                          rw [hV, Below.heap_setCell _ _ _ _ hg, Below.heap_setCell _ _ _ _ hg, Below.heap_setCell _ _ _ _ hg, Below.heap_setCell _ _ _ _ hg, Below.heap_setCell _ _ _ _ hg]
                        have hB4 : w.heap.size + 1 < w4.heap.size := by have := HS4.out; have := HS3.out; omega
                        refine ⟨?_, InsR.of_own (own_block HME.out.ins (fun g hg => hk g (by have := (HME.out.ins.lt g hg).1; omega))), Ints.of_own (l := told.map (fun i => at0 mF.loc (at0 M.roots i))) (by rw [HLEN.out]; exact own_block HOU.out (fun g hg => hk g (by have := (HOU.out.lt g hg).1; omega))), ?_⟩
                        · rw [hV]
                          exact ((((hbw.setCell (p := ⟨w.heap.size + 1, 0, none⟩) (by simp) _).setCell (p := ⟨w.heap.size + 1, 1, none⟩) (by simp) _).setCell (p := ⟨w.heap.size + 1, 2, none⟩) (by simp) _).setCell (p := ⟨w.heap.size + 1, 3, none⟩) (by simp) _).setCell (p := ⟨w.heap.size + 1, 4, none⟩) (by simp) _
                        · obtain ⟨A, c, e, h1, h2, h3⟩ := HN4.out.2.2.below HME.out.old (Nat.le_refl _)
                          refine ⟨A, c, e, h1, h2, fun k x hx => ?_⟩
                          obtain ⟨g, o, hA, hg, hc⟩ := h3 k x hx
                          have hge : w.heap.size + 2 ≤ g := HFR.out g (by rw [e, hA]; rfl)
                          refine ⟨g, o, hA, ?_, (World.cell?_of_block (hk g (by omega))).trans hc⟩
                          rw [hV]; simpa using hg)
                      go_wp2_with fail
                      obtain ⟨y0, y1, y2, y3, y4⟩ := (HCB.out.set5 (.slice IV mF.ins.length ivc) (.slice OV nt ovc) (.slice IA ni ic) (mF.regs : Int) (mF.slots : Int)).ats
                      refine bodyPost_ret (v := .tuple #[.agg #[.slice IV mF.ins.length ivc, .int .i64 (mF.regs : Int), .int .i64 (mF.slots : Int), .slice OV nt ovc, .slice IA ni ic], .int .i64 0]) (by simp [results, Try.results36, go_sem, y0, y1, y2, y3, y4]) rfl ⟨(HFIN.out _ rfl).1, _, _, _, by rw [HF.out.1, HF.out.2, HMF.out.2], by rw [HF.out.2, HMF.out.2]; exact (HFIN.out _ rfl).2⟩
end Go.Proofs.Ytcphjehjdhgheaa.Nt
