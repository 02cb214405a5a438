/- A law's call. Conditions: as it says. -/
import Derived.Test.YtfohjlepknnleaaBdLe
namespace Go.Proofs.Ytfohjlepknnleaa.Bd
open Go.ChangeShapes Go.WideShapes Go.ChangeAt Go.RowKit
set_option linter.unusedVariables false
set_option linter.unusedSimpArgs false

theorem pick_nat (W : World) (a : Int) (n : Nat) (ha : -9223372036854775808 ≤ a ∧ a ≤ 9223372036854775807) (hn : 1 ≤ n) (hn2 : n ≤ 1000000) :
    Calls Try.prog 25 #[.int .i64 a, .int .i64 (n : Int)] W (fun e w' => (∃ i : Nat, e = .returned (.int .i64 (i : Int)) ∧ i < n) ∧ w' = W) :=
  (pick_any W a n ha (by omega)).mono (by
    rintro e w' ⟨⟨r, rfl, h1, h2⟩, hw⟩
    refine ⟨⟨r.toNat, ?_, by omega⟩, hw⟩
    rw [Int.toNat_of_nonneg h1])
set_option maxRecDepth 100000 in
set_option maxHeartbeats 8000000 in
theorem call_any (B : Nat) (w : World) (b vars budget : Nat) (S : List Nd) (h : StAt B w b vars budget S) (hv1 : 1 ≤ vars) (hv5 : vars ≤ 5) (v : Value) (l : List (Nat × Nat)) (hm : Mds B w v vars S l) (hl0 : 1 ≤ l.length) (hl : l.length ≤ 1000)
    (a0 a1 a2 a3 a4 : Int) (cb : Bool) (ra1 : -9223372036854775808 ≤ a1 ∧ a1 ≤ 9223372036854775807) (ra2 : -9223372036854775808 ≤ a2 ∧ a2 ≤ 9223372036854775807) (ra3 : -9223372036854775808 ≤ a3 ∧ a3 ≤ 9223372036854775807) (ra4 : -9223372036854775808 ≤ a4 ∧ a4 ≤ 9223372036854775807) :
    Calls Try.prog 11 #[.pointer (some ⟨b, 0, none⟩), .int .i64 (vars : Int), .agg #[.int .i64 a0, .int .i64 a1, .int .i64 a2, .int .i64 a3, .int .i64 a4, .bool cb], v] w (CallPost B w b vars budget S (3 * (2 ^ vars - 1))) := by
  obtain ⟨A, c, rfl, hc1, hc2⟩ := hm.form
  obtain ⟨n, hn⟩ : ∃ n, l.length = n := ⟨_, rfl⟩
  rw [hn] at hm hc1 hl0 hl ⊢
  have G := h.good
  have HG := Lib.hid G
  have HN := Lib.hid hn
  have HST := Lib.hid h
  have HLE := Lib.hid (st_le h)
  have HP2 := Lib.hid (pick_nat · a2 n ra2 hl0 (by omega))
  have HP3 := Lib.hid (pick_nat · a3 n ra3 hl0 (by omega))
  have HP4 := Lib.hid (pick_nat · a4 n ra4 hl0 (by omega))
  have HP1 := Lib.hid (pick_nat · a1 vars ra1 hv1 (by omega))
  have HM := Lib.hid hm
  obtain ⟨w1, hw1⟩ : ∃ W, w.alloc (.cells #[.int .i64 a0, .int .i64 a1, .int .i64 a2, .int .i64 a3, .int .i64 a4, .bool cb] 37) = W := ⟨_, rfl⟩
  have hO1 : OpBox w1 w.heap.size a0 a1 a2 a3 a4 cb := by rw [← hw1]; exact heap_alloc_new _ _
  have hb1 : Below w.heap.size w w1 := by rw [← hw1]; exact below_new _ _
  obtain ⟨o0, o1, o2, o3, o4, o5⟩ := hO1.ats
  have hE1 : w.heap.size < w1.heap.size := block_lt hO1
  have hE1n : ¬ w.heap.size = w1.heap.size := by omega
  have HO1 := Lib.hid hO1
  have HB1 := Lib.hid hb1
  have HM1 := Lib.hid (hm.below G hb1)
  have HW1 := Lib.hid hw1
  clear hm h G hn hw1 hO1 hb1 ra1 ra2 ra3 ra4
  go_enter Try.func11, Try.ntmps11
  go_wp2_with fail
  rw [HW1.out]
  refine (HP2.out w1).mono ?_
  rintro e w1' ⟨⟨i, rfl, hi⟩, hw⟩
  subst hw
  obtain ⟨⟨fx, ft⟩, hfi⟩ : ∃ p, l[i]? = some p := ⟨_, List.getElem?_eq_getElem (by rw [HN.out]; exact hi)⟩
  obtain ⟨g, rfl, q0, q1⟩ := HM1.out.at hfi
  have HF := Lib.hid (HM.out.each i fx ft hfi)
  obtain ⟨w2, hw2⟩ : ∃ W, w1'.alloc (.cells #[.int .i64 (fx : Int), .slice (some ⟨ft, 0, none⟩) (2 ^ vars) (2 ^ vars)] 32) = W := ⟨_, rfl⟩
  have hF2 : MdBox w2 w1'.heap.size vars fx ft := by rw [← hw2]; exact heap_alloc_new _ _
  have hb2 : Below w1'.heap.size w1' w2 := by rw [← hw2]; exact below_new _ _
  have HF2 := Lib.hid hF2
  have HB2 := Lib.hid (HB1.out.trans (hb2.mono HB1.out.size))
  have HM2 := Lib.hid (HM1.out.below HG.out hb2)
  have HO2 := Lib.hid (HO1.out.keeps (Keeps.of hb2))
  have HW2 := Lib.hid hw2
  clear hw2 hF2 hb2 hfi
  go_wp2_with fail
  rw [HW2.out]
  obtain ⟨o0, o1, o2, o3, o4, o5⟩ := HO2.out.ats
  have hE2 : w.heap.size < w2.heap.size := block_lt HO2.out
  have hE2n : ¬ w.heap.size = w2.heap.size := by omega
  refine (HP3.out w2).mono ?_
  rintro e w2' ⟨⟨j, rfl, hj⟩, hw⟩
  subst hw
  obtain ⟨⟨gx, gt⟩, hfj⟩ : ∃ p, l[j]? = some p := ⟨_, List.getElem?_eq_getElem (by rw [HN.out]; exact hj)⟩
  obtain ⟨g', eg, q2, q3⟩ := HM2.out.at hfj
  injection eg with eg
  injection eg with eg
  subst eg
  have HGG := Lib.hid (HM.out.each j gx gt hfj)
  obtain ⟨w3, hw3⟩ : ∃ W, w2'.alloc (.cells #[.int .i64 (gx : Int), .slice (some ⟨gt, 0, none⟩) (2 ^ vars) (2 ^ vars)] 32) = W := ⟨_, rfl⟩
  have hF3 : MdBox w3 w2'.heap.size vars gx gt := by rw [← hw3]; exact heap_alloc_new _ _
  have hb3 : Below w2'.heap.size w2' w3 := by rw [← hw3]; exact below_new _ _
  have HF3 := Lib.hid hF3
  have HB3 := Lib.hid (HB2.out.trans (hb3.mono HB2.out.size))
  have HM3 := Lib.hid (HM2.out.below HG.out hb3)
  have HO3 := Lib.hid (HO2.out.keeps (Keeps.of hb3))
  have HK3 := Lib.hid (Keeps.of hb3)
  have HW3 := Lib.hid hw3
  clear hw3 hF3 hb3 hfj
  go_wp2_with fail
  rw [HW3.out]
  obtain ⟨o0, o1, o2, o3, o4, o5⟩ := HO3.out.ats
  have hE3 : w.heap.size < w3.heap.size := block_lt HO3.out
  have hE3n : ¬ w.heap.size = w3.heap.size := by omega
  refine (HP4.out w3).mono ?_
  rintro e w3' ⟨⟨k, rfl, hk⟩, hw⟩
  subst hw
  obtain ⟨⟨hx, ht⟩, hfk⟩ : ∃ p, l[k]? = some p := ⟨_, List.getElem?_eq_getElem (by rw [HN.out]; exact hk)⟩
  obtain ⟨g', eg, q4, q5⟩ := HM3.out.at hfk
  injection eg with eg
  injection eg with eg
  subst eg
  have HHH := Lib.hid (HM.out.each k hx ht hfk)
  obtain ⟨w4, hw4⟩ : ∃ W, w3'.alloc (.cells #[.int .i64 (hx : Int), .slice (some ⟨ht, 0, none⟩) (2 ^ vars) (2 ^ vars)] 32) = W := ⟨_, rfl⟩
  have hF4 : MdBox w4 w3'.heap.size vars hx ht := by rw [← hw4]; exact heap_alloc_new _ _
  have hb4 : Below w3'.heap.size w3' w4 := by rw [← hw4]; exact below_new _ _
  have HF4 := Lib.hid hF4
  have HB4 := Lib.hid (HB3.out.trans (hb4.mono HB3.out.size))
  have HO4 := Lib.hid (HO3.out.keeps (Keeps.of hb4))
  have HK4 := Lib.hid (Keeps.of hb4)
  have HW4 := Lib.hid hw4
  clear hw4 hF4 hb4 hfk
  go_wp2_with fail
  rw [HW4.out]
  refine (HP1.out w4).mono ?_
  rintro e w4' ⟨⟨vi, rfl, hvi⟩, hw⟩
  subst hw
  have HC1 := Lib.hid (rconst_tab · vars false (by omega))
  have HC2 := Lib.hid (rconst_tab · vars true (by omega))
  go_wp2_with fail
  refine (HC1.out w4').mono ?_
  rintro e w5 ⟨no, rfl, hno, hb5⟩
  have HNO := Lib.hid hno
  have HB5 := Lib.hid (HB4.out.trans (hb5.mono HB4.out.size))
  have HK5 := Lib.hid (Keeps.of hb5)
  clear hno hb5 HC1
  go_wp2_with fail
  refine (HC2.out w5).mono ?_
  rintro e w6 ⟨yes, rfl, hyes, hb6⟩
  have HB6 := Lib.hid (HB5.out.trans (hb6.mono HB5.out.size))
  have HK6 := Lib.hid (Keeps.of hb6)
  have HCX : Hid (Cx w6 vars S w.heap.size w1'.heap.size w2'.heap.size w3'.heap.size a0 a1 a2 a3 a4 cb fx ft gx gt hx ht no yes) := Lib.hid
    ⟨HO4.out.keeps (HK5.out.trans HK6.out), HF2.out.keeps (HK3.out.trans (HK4.out.trans (HK5.out.trans HK6.out))), HF3.out.keeps (HK4.out.trans (HK5.out.trans HK6.out)), HF4.out.keeps (HK5.out.trans HK6.out), HF.out.1, HGG.out.1, HHH.out.1,
      HF.out.2.keeps (Keeps.of HB6.out), HGG.out.2.keeps (Keeps.of HB6.out), HHH.out.2.keeps (Keeps.of HB6.out), HNO.out.keeps HK6.out, hyes⟩
  have HST6 := Lib.hid (HST.out.below HB6.out)
  obtain ⟨o0, o1, o2, o3, o4, o5⟩ := HCX.out.op.ats
  have HLE6 := Lib.hid (st_le HST6.out)
  have HBACK : Hid (∀ e W, CallPost B w6 b vars budget S (3 * (2 ^ vars - 1)) e W → CallPost B w b vars budget S (3 * (2 ^ vars - 1)) e W) := Lib.hid (fun e W hp => ⟨(HB6.out.mono HLE.out).trans hp.1, (Keeps.of HB6.out).trans hp.2.1, hp.2.2⟩)
  clear hyes hb6 HC2 q0 q1 q2 q3 q4 q5
  by_cases d0 : a0 = 0
  · subst d0
    have HOP := Lib.hid (var_any B w6 b vars budget S HST6.out vi hvi)
    have HTB := Lib.hid (rvar_tab · vars vi (by omega) hvi)
    go_wp2_with fail
    refine HOP.out.mono ?_
    rintro e w7 hp
    obtain ⟨x, y, rfl⟩ := hp.ret
    have HP := Lib.hid hp
    clear hp
    go_wp2_with fail
    refine (HTB.out w7).mono ?_
    rintro e w8 ⟨t, rfl, hr, hb⟩
    have HR := Lib.hid (HBACK.out _ _ (HP.out.call (K2 := 3 * (2 ^ vars - 1)) (by have := Nat.pow_le_pow_right (n := 2) (by omega) hv1; omega) hb rfl hr (by have := HLE6.out; have := HP.out.1.size; omega)))
    clear hr hb
    go_wp2
    refine bodyPost_ret (v := .tuple #[.int .i64 x, .int .i64 y, .slice (some ⟨t, 0, none⟩) (2 ^ vars) (2 ^ vars)]) (by simp [results, Try.results11, go_sem]) rfl HR.out
  have hd0 : (a0 == 0) = false := by simp [d0]
  obtain ⟨f0, f1⟩ := HCX.out.f.ats
  obtain ⟨g0, g1⟩ := HCX.out.g.ats
  obtain ⟨h0, h1⟩ := HCX.out.h.ats
  by_cases d1 : a0 = 1
  · subst d1
    have HOP := Lib.hid (ite_any B w6 b vars budget S HST6.out fx gx hx HF.out.1 HGG.out.1 HHH.out.1)
    go_wp2_with fail
    refine HOP.out.mono ?_
    rintro e w7 hp
    obtain ⟨x, y, rfl⟩ := hp.ret
    have HP := Lib.hid hp
    have HC7 := Lib.hid (HCX.out.keeps hp.2.1)
    clear hp f0 f1 g0 g1 h0 h1
    obtain ⟨f0, f1⟩ := HC7.out.f.ats
    obtain ⟨g0, g1⟩ := HC7.out.g.ats
    obtain ⟨h0, h1⟩ := HC7.out.h.ats
    have HTB := Lib.hid (rite_tab w7 vars ft gt ht (den S fx) (den S gx) (den S hx) (by omega) HC7.out.tf HC7.out.tg HC7.out.th)
    go_wp2_with fail
    refine HTB.out.mono ?_
    rintro e w8 ⟨t, rfl, hr, hb⟩
    have HR := Lib.hid (HBACK.out _ _ (HP.out.call (K2 := 3 * (2 ^ vars - 1)) (by omega) hb rfl hr (by have := HLE6.out; have := HP.out.1.size; omega)))
    clear hr hb
    go_wp2
    refine bodyPost_ret (v := .tuple #[.int .i64 x, .int .i64 y, .slice (some ⟨t, 0, none⟩) (2 ^ vars) (2 ^ vars)]) (by simp [results, Try.results11, go_sem]) rfl HR.out
  have hd1 : (a0 == 1) = false := by simp [d1]
  by_cases d2 : a0 = 2
  · subst d2
    have HOP := Lib.hid (not_any B w6 b vars budget S HST6.out fx HF.out.1)
    go_wp2_with fail
    refine HOP.out.mono ?_
    rintro e w7 hp
    obtain ⟨x, y, rfl⟩ := hp.ret
    have HP := Lib.hid hp
    have HC7 := Lib.hid (HCX.out.keeps hp.2.1)
    clear hp f0 f1 g0 g1 h0 h1
    obtain ⟨f0, f1⟩ := HC7.out.f.ats
    have HTB := Lib.hid (rite_tab w7 vars ft no yes (den S fx) (fun _ => false) (fun _ => true) (by omega) HC7.out.tf HC7.out.tn HC7.out.ty)
    go_wp2_with fail
    refine HTB.out.mono ?_
    rintro e w8 ⟨t, rfl, hr, hb⟩
    have HR := Lib.hid (HBACK.out _ _ (HP.out.call (K2 := 3 * (2 ^ vars - 1)) (by omega) hb (by congr 1; funext r; cases den S fx r <;> rfl) hr (by have := HLE6.out; have := HP.out.1.size; omega)))
    clear hr hb
    go_wp2
    refine bodyPost_ret (v := .tuple #[.int .i64 x, .int .i64 y, .slice (some ⟨t, 0, none⟩) (2 ^ vars) (2 ^ vars)]) (by simp [results, Try.results11, go_sem]) rfl HR.out
  have hd2 : (a0 == 2) = false := by simp [d2]
  by_cases d3 : a0 = 3
  · subst d3
    obtain ⟨wa, hwa⟩ : ∃ W, w6.alloc (.cells #[.int .i64 (fx : Int), .int .i64 (gx : Int), .int .i64 (hx : Int)] 3) = W := ⟨_, rfl⟩
    have hba : Below w6.heap.size w6 wa := by rw [← hwa]; exact below_new _ _
    have hop := and_any B wa b vars budget S (HST6.out.below hba) (.slice (some ⟨w6.heap.size, 0, none⟩) 3 3) [fx, gx, hx] (ints_three w6 fx gx hx wa hwa) (by simp [HF.out.1, HGG.out.1, HHH.out.1]) (by have : 2 ^ vars ≤ 2 ^ 5 := Nat.pow_le_pow_right (by omega) hv5; simp; omega) (by simp)
    have HOP := Lib.hid (hop.mono (fun e w' hp => OpPost.back HLE6.out hba hp))
    have HWA := Lib.hid hwa
    clear hop hba hwa
    go_wp2_with fail
    rw [HWA.out]
    refine HOP.out.mono ?_
    rintro e w7 hp
    obtain ⟨x, y, rfl⟩ := hp.ret
    have HP := Lib.hid hp
    have HC7 := Lib.hid (HCX.out.keeps hp.2.1)
    clear hp f0 f1 g0 g1 h0 h1
    obtain ⟨f0, f1⟩ := HC7.out.f.ats
    obtain ⟨g0, g1⟩ := HC7.out.g.ats
    obtain ⟨h0, h1⟩ := HC7.out.h.ats
    have HT1 := Lib.hid (rite_tab w7.drew vars gt ht no (den S gx) (den S hx) (fun _ => false) (by omega) HC7.out.tg HC7.out.th HC7.out.tn)
    have HT2 : Hid (∀ W t, Below w7.drew.heap.size w7.drew W → RowB W t (tabD vars (fun r => if den S gx r then den S hx r else (fun _ => false) r)) → Calls Try.prog 27 #[.slice (some ⟨ft, 0, none⟩) (2 ^ vars) (2 ^ vars), .slice (some ⟨t, 0, none⟩) (2 ^ vars) (2 ^ vars), .slice (some ⟨no, 0, none⟩) (2 ^ vars) (2 ^ vars)] W (fun e w' => ∃ t2, e = .returned (.slice (some ⟨t2, 0, none⟩) (2 ^ vars) (2 ^ vars)) ∧ RowB w' t2 (tabD vars (fun r => if den S fx r then (fun r => if den S gx r then den S hx r else (fun _ => false) r) r else (fun _ => false) r)) ∧ Below W.heap.size W w')) := Lib.hid (fun W t hW hr => rite_tab W vars ft t no (den S fx) _ (fun _ => false) (by omega) (RowB.keeps (w := w7.drew) HC7.out.tf (Keeps.of hW)) hr (RowB.keeps (w := w7.drew) HC7.out.tn (Keeps.of hW)))
    have HCK : Hid (∀ W, Below w7.drew.heap.size w7.drew W → W.cell? ⟨w1'.heap.size, 1, none⟩ = some (.slice (some ⟨ft, 0, none⟩) (2 ^ vars) (2 ^ vars)) ∧ W.cell? ⟨w2'.heap.size, 1, none⟩ = some (.slice (some ⟨gt, 0, none⟩) (2 ^ vars) (2 ^ vars)) ∧ W.cell? ⟨w3'.heap.size, 1, none⟩ = some (.slice (some ⟨ht, 0, none⟩) (2 ^ vars) (2 ^ vars))) := Lib.hid (fun W hW =>
      have hk := Keeps.of hW
      ⟨(MdBox.keeps (w := w7.drew) HC7.out.f hk).ats.2, (MdBox.keeps (w := w7.drew) HC7.out.g hk).ats.2, (MdBox.keeps (w := w7.drew) HC7.out.h hk).ats.2⟩)
    have HVV : Hid (tabD vars (fun r => if den S fx r then (fun r => if den S gx r then den S hx r else (fun _ => false) r) r else (fun _ => false) r) = tabD vars (fun r => [fx, gx, hx].all (fun f => den S f r))) := Lib.hid (by
      congr 1; funext r; simp only [List.all_cons, List.all_nil, List.any_cons, List.any_nil]
      cases den S fx r <;> cases den S gx r <;> cases den S hx r <;> rfl)
    have HBcur : Hid (Below w7.drew.heap.size w7.drew w7.drew) := Lib.hid (Below.refl _ _)
    go_wp2_with fail
    go_region_held3 (fun W => W.cell? ⟨w1'.heap.size, 1, none⟩ = some (.slice (some ⟨ft, 0, none⟩) (2 ^ vars) (2 ^ vars)) ∧ W.cell? ⟨w2'.heap.size, 1, none⟩ = some (.slice (some ⟨gt, 0, none⟩) (2 ^ vars) (2 ^ vars)) ∧ W.cell? ⟨w3'.heap.size, 1, none⟩ = some (.slice (some ⟨ht, 0, none⟩) (2 ^ vars) (2 ^ vars)))
      (exact HCK.out _ HBcur.out)
      (first
        | (go_at_call 27; with_reducible refine HT1.out.mono ?_; rintro e w8 ⟨t1, rfl, hr1, hb1⟩; have HR1 := Lib.hid hr1; have HBcur := Lib.hid hb1; clear hr1 hb1)
        | (go_at_call 27; with_reducible refine (HT2.out _ _ HBcur.out HR1.out).mono ?_; rintro e w9 ⟨t2, rfl, hr2, hb2⟩; have HR2 := Lib.hid hr2; have HBcur := Lib.hid (HBcur.out.trans (hb2.mono HBcur.out.size)); clear hr2 hb2))
    all_goals
      have HR := Lib.hid (HBACK.out _ _ (HP.out.call (K2 := 3 * (2 ^ vars - 1)) (by simp) ((Below.refl w7.heap.size w7).drew.trans (show Below w7.heap.size w7.drew _ from HBcur.out)) HVV.out HR2.out (by have := HLE6.out; have := HP.out.1.size; omega)))
      go_wp2
      refine bodyPost_ret (v := .tuple #[.int .i64 x, .int .i64 y, .slice (some ⟨t2, 0, none⟩) (2 ^ vars) (2 ^ vars)]) (by simp [results, Try.results11, go_sem]) rfl HR.out
  have hd3 : (a0 == 3) = false := by simp [d3]
  by_cases d4 : a0 = 4
  · subst d4
    obtain ⟨wa, hwa⟩ : ∃ W, w6.alloc (.cells #[.int .i64 (fx : Int), .int .i64 (gx : Int), .int .i64 (hx : Int)] 3) = W := ⟨_, rfl⟩
    have hba : Below w6.heap.size w6 wa := by rw [← hwa]; exact below_new _ _
    have hop := or_any B wa b vars budget S (HST6.out.below hba) (.slice (some ⟨w6.heap.size, 0, none⟩) 3 3) [fx, gx, hx] (ints_three w6 fx gx hx wa hwa) (by simp [HF.out.1, HGG.out.1, HHH.out.1]) (by have : 2 ^ vars ≤ 2 ^ 5 := Nat.pow_le_pow_right (by omega) hv5; simp; omega) (by simp)
    have HOP := Lib.hid (hop.mono (fun e w' hp => OpPost.back HLE6.out hba hp))
    have HWA := Lib.hid hwa
    clear hop hba hwa
    go_wp2_with fail
    rw [HWA.out]
    refine HOP.out.mono ?_
    rintro e w7 hp
    obtain ⟨x, y, rfl⟩ := hp.ret
    have HP := Lib.hid hp
    have HC7 := Lib.hid (HCX.out.keeps hp.2.1)
    clear hp f0 f1 g0 g1 h0 h1
    obtain ⟨f0, f1⟩ := HC7.out.f.ats
    obtain ⟨g0, g1⟩ := HC7.out.g.ats
    obtain ⟨h0, h1⟩ := HC7.out.h.ats
    have HT1 := Lib.hid (rite_tab w7.drew vars gt yes ht (den S gx) (fun _ => true) (den S hx) (by omega) HC7.out.tg HC7.out.ty HC7.out.th)
    have HT2 : Hid (∀ W t, Below w7.drew.heap.size w7.drew W → RowB W t (tabD vars (fun r => if den S gx r then (fun _ => true) r else den S hx r)) → Calls Try.prog 27 #[.slice (some ⟨ft, 0, none⟩) (2 ^ vars) (2 ^ vars), .slice (some ⟨yes, 0, none⟩) (2 ^ vars) (2 ^ vars), .slice (some ⟨t, 0, none⟩) (2 ^ vars) (2 ^ vars)] W (fun e w' => ∃ t2, e = .returned (.slice (some ⟨t2, 0, none⟩) (2 ^ vars) (2 ^ vars)) ∧ RowB w' t2 (tabD vars (fun r => if den S fx r then (fun _ => true) r else (fun r => if den S gx r then (fun _ => true) r else den S hx r) r)) ∧ Below W.heap.size W w')) := Lib.hid (fun W t hW hr => rite_tab W vars ft yes t (den S fx) (fun _ => true) _ (by omega) (RowB.keeps (w := w7.drew) HC7.out.tf (Keeps.of hW)) (RowB.keeps (w := w7.drew) HC7.out.ty (Keeps.of hW)) hr)
    have HCK : Hid (∀ W, Below w7.drew.heap.size w7.drew W → W.cell? ⟨w1'.heap.size, 1, none⟩ = some (.slice (some ⟨ft, 0, none⟩) (2 ^ vars) (2 ^ vars)) ∧ W.cell? ⟨w2'.heap.size, 1, none⟩ = some (.slice (some ⟨gt, 0, none⟩) (2 ^ vars) (2 ^ vars)) ∧ W.cell? ⟨w3'.heap.size, 1, none⟩ = some (.slice (some ⟨ht, 0, none⟩) (2 ^ vars) (2 ^ vars))) := Lib.hid (fun W hW =>
      have hk := Keeps.of hW
      ⟨(MdBox.keeps (w := w7.drew) HC7.out.f hk).ats.2, (MdBox.keeps (w := w7.drew) HC7.out.g hk).ats.2, (MdBox.keeps (w := w7.drew) HC7.out.h hk).ats.2⟩)
    have HVV : Hid (tabD vars (fun r => if den S fx r then (fun _ => true) r else (fun r => if den S gx r then (fun _ => true) r else den S hx r) r) = tabD vars (fun r => [fx, gx, hx].any (fun f => den S f r))) := Lib.hid (by
      congr 1; funext r; simp only [List.all_cons, List.all_nil, List.any_cons, List.any_nil]
      cases den S fx r <;> cases den S gx r <;> cases den S hx r <;> rfl)
    have HBcur : Hid (Below w7.drew.heap.size w7.drew w7.drew) := Lib.hid (Below.refl _ _)
    go_wp2_with fail
    go_region_held3 (fun W => W.cell? ⟨w1'.heap.size, 1, none⟩ = some (.slice (some ⟨ft, 0, none⟩) (2 ^ vars) (2 ^ vars)) ∧ W.cell? ⟨w2'.heap.size, 1, none⟩ = some (.slice (some ⟨gt, 0, none⟩) (2 ^ vars) (2 ^ vars)) ∧ W.cell? ⟨w3'.heap.size, 1, none⟩ = some (.slice (some ⟨ht, 0, none⟩) (2 ^ vars) (2 ^ vars)))
      (exact HCK.out _ HBcur.out)
      (first
        | (go_at_call 27; with_reducible refine HT1.out.mono ?_; rintro e w8 ⟨t1, rfl, hr1, hb1⟩; have HR1 := Lib.hid hr1; have HBcur := Lib.hid hb1; clear hr1 hb1)
        | (go_at_call 27; with_reducible refine (HT2.out _ _ HBcur.out HR1.out).mono ?_; rintro e w9 ⟨t2, rfl, hr2, hb2⟩; have HR2 := Lib.hid hr2; have HBcur := Lib.hid (HBcur.out.trans (hb2.mono HBcur.out.size)); clear hr2 hb2))
    all_goals
      have HR := Lib.hid (HBACK.out _ _ (HP.out.call (K2 := 3 * (2 ^ vars - 1)) (by simp) ((Below.refl w7.heap.size w7).drew.trans (show Below w7.heap.size w7.drew _ from HBcur.out)) HVV.out HR2.out (by have := HLE6.out; have := HP.out.1.size; omega)))
      go_wp2
      refine bodyPost_ret (v := .tuple #[.int .i64 x, .int .i64 y, .slice (some ⟨t2, 0, none⟩) (2 ^ vars) (2 ^ vars)]) (by simp [results, Try.results11, go_sem]) rfl HR.out
  have hd4 : (a0 == 4) = false := by simp [d4]
  have HOP := Lib.hid (restrict_any B w6 b vars budget S HST6.out fx vi cb HF.out.1 hvi)
  go_wp2_with fail
  refine HOP.out.mono ?_
  rintro e w7 hp
  obtain ⟨x, y, rfl⟩ := hp.ret
  have HP := Lib.hid hp
  have HC7 := Lib.hid (HCX.out.keeps hp.2.1)
  clear hp f0 f1 g0 g1 h0 h1 o0 o1 o2 o3 o4 o5
  obtain ⟨f0, f1⟩ := HC7.out.f.ats
  obtain ⟨o0, o1, o2, o3, o4, o5⟩ := HC7.out.op.ats
  have HTB := Lib.hid (rres_tab w7 vars ft vi cb (den S fx) (by omega) hvi HC7.out.tf)
  go_wp2_with fail
  refine HTB.out.mono ?_
  rintro e w8 ⟨t, rfl, hr, hb⟩
  have HR := Lib.hid (HBACK.out _ _ (HP.out.call (K2 := 3 * (2 ^ vars - 1)) (by omega) hb rfl hr (by have := HLE6.out; have := HP.out.1.size; omega)))
  clear hr hb
  go_wp2
  refine bodyPost_ret (v := .tuple #[.int .i64 x, .int .i64 y, .slice (some ⟨t, 0, none⟩) (2 ^ vars) (2 ^ vars)]) (by simp [results, Try.results11, go_sem]) rfl HR.out
end Go.Proofs.Ytfohjlepknnleaa.Bd
