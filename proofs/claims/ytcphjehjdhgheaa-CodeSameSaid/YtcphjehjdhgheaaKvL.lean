/- The answers that the document gives of code, as the law states them. Conditions: none. -/
import Derived.Test.YtcphjehjdhgheaaKmF
import Derived.Test.YtcphjehjdhgheaaKcD
import Derived.Test.YtcphjehjdhgheaaKdA
import Derived.Test.YtcphjehjdhgheaaKnR
import Derived.Test.YtcphjehjdhgheaaKnA
import Derived.Test.YtcphjehjdhgheaaNtLv
namespace Go.Proofs.Ytcphjehjdhgheaa.Nt
open Go.ChangeShapes Go.WideShapes Go.ChangeAt Go.RowKit Go.Proofs.Ytcphjehjdhgheaa.Tr
set_option linter.unusedVariables false
set_option linter.unusedSimpArgs false

def N1 : Net := ⟨[⟨3, -1, -1, -1, 0⟩, ⟨1, -1, -1, -1, 1⟩, ⟨14, 3, 1, -1, 0⟩, ⟨21, 2, -1, -1, 0⟩], [2, 0], [2]⟩
theorem n1_f0 : faultC N1 [0] = 0 := by decide +kernel
theorem n1_f2 : faultC N1 [2] = 1 := by decide +kernel
theorem n1_run : runK (makeC N1 [0]) [[7], [7], [7]] = ([[1], [2], [3]], 0) := by decide +kernel
theorem n1_check : checkK (makeC N1 [0]) = 0 := make_check n1_f0
theorem n1_len : (makeC N1 [0]).ins.length = 5 ∧ (makeC N1 [0]).outs.length = 1 := by decide +kernel
theorem bad_check : checkK ⟨[], 0, 0, [0], []⟩ = 1 := by decide +kernel
theorem nil_check : checkK emptyC = 0 := by decide +kernel
theorem n1_w : CodW (makeC N1 [0]) := by
  have h : ((makeC N1 [0]).ins.all fun x => decide (-1000 ≤ x.a ∧ x.a ≤ 1000 ∧ -1000 ≤ x.b ∧ x.b ≤ 1000 ∧ -1000 ≤ x.c ∧ x.c ≤ 1000 ∧ -1000 ≤ x.n ∧ x.n ≤ 1000 ∧ -1000 ≤ x.d ∧ x.d ≤ 1000)) = true ∧ ((makeC N1 [0]).outs.all fun k => decide (-1000 ≤ k ∧ k ≤ 1000)) = true := by decide +kernel
  obtain ⟨h1, h2⟩ := h
  rw [List.all_eq_true] at h1 h2
  refine ⟨fun x hx => ?_, fun k hk => ?_⟩
  · have := of_decide_eq_true (h1 x hx)
    refine ⟨?_, ?_, ?_, ?_, ?_⟩ <;> (apply w64_of <;> omega)
  · have := of_decide_eq_true (h2 k hk)
    apply w64_of <;> omega
theorem lit_rows3 (w : World) (a b c : Int) : ∀ V, V = ((((w.alloc (.cells #[.int .i64 a] 3)).alloc (.cells #[.int .i64 b] 3)).alloc (.cells #[.int .i64 c] 3)).alloc (.cells #[.slice (some ⟨w.heap.size, 0, none⟩) 1 1, .slice (some ⟨w.heap.size + 1, 0, none⟩) 1 1, .slice (some ⟨w.heap.size + 1 + 1, 0, none⟩) 1 1] 23)) →
    RowsR V (.slice (some ⟨w.heap.size + 1 + 1 + 1, 0, none⟩) 3 3) [[a], [b], [c]] ∧ Below w.heap.size w V := fun V hV => by
  obtain ⟨w1, h1⟩ : ∃ W, w.alloc (.cells #[.int .i64 a] 3) = W := ⟨_, rfl⟩
  obtain ⟨w2, h2⟩ : ∃ W, w1.alloc (.cells #[.int .i64 b] 3) = W := ⟨_, rfl⟩
  obtain ⟨w3, h3⟩ : ∃ W, w2.alloc (.cells #[.int .i64 c] 3) = W := ⟨_, rfl⟩
  rw [h1, h2, h3] at hV
  have s1 : w1.heap.size = w.heap.size + 1 := by rw [← h1]; simp
  have s2 : w2.heap.size = w.heap.size + 1 + 1 := by rw [← h2]; simp [s1]
  have s3 : w3.heap.size = w.heap.size + 1 + 1 + 1 := by rw [← h3]; simp [s2]
  have b1 : Below w.heap.size w w1 := by rw [← h1]; exact below_new _ _
  have b2 : Below w1.heap.size w1 w2 := by rw [← h2]; exact below_new _ _
  have b3 : Below w2.heap.size w2 w3 := by rw [← h3]; exact below_new _ _
  have b4 : Below w3.heap.size w3 V := by rw [hV]; exact below_new _ _
  have a1 := lit_one w a
  have a2 := lit_one w1 b
  have a3 := lit_one w2 c
  rw [h1] at a1
  rw [h2, s1] at a2
  rw [h3, s2] at a3
  have hc : V.heap[w.heap.size + 1 + 1 + 1]? = some (.cells #[.slice (some ⟨w.heap.size, 0, none⟩) 1 1, .slice (some ⟨w.heap.size + 1, 0, none⟩) 1 1, .slice (some ⟨w.heap.size + 1 + 1, 0, none⟩) 1 1] 23 (0, 0)) := by
    have := heap_alloc_new w3 (.cells #[.slice (some ⟨w.heap.size, 0, none⟩) 1 1, .slice (some ⟨w.heap.size + 1, 0, none⟩) 1 1, .slice (some ⟨w.heap.size + 1 + 1, 0, none⟩) 1 1] 23)
    rw [s3] at this
    rw [hV]; exact this
  have hl := lt_of_block hc
  refine ⟨⟨_, 3, rfl, Nat.le_refl _, by unfold maxLen; omega, fun i r hi => ?_⟩, ((b1.trans (b2.mono b1.size)).trans (b3.mono (by omega))).trans (b4.mono (by omega))⟩
  match i, hi with
  | 0, hi =>
    simp at hi; subst hi
    exact ⟨_, 0, _, rfl, hl, by simp [World.cell?, hc], ((a1.below b2 (Nat.le_refl _)).below b3 (Nat.le_refl _)).below b4 (Nat.le_refl _)⟩
  | 1, hi =>
    simp at hi; subst hi
    exact ⟨_, 0, _, rfl, hl, by simp [World.cell?, hc], (a2.below b3 (Nat.le_refl _)).below b4 (Nat.le_refl _)⟩
  | 2, hi =>
    simp at hi; subst hi
    exact ⟨_, 0, _, rfl, hl, by simp [World.cell?, hc], a3.below b4 (Nat.le_refl _)⟩
  | n + 3, hi => simp at hi
theorem lit_two (w : World) (a b : Int) : Ints (w.alloc (.cells #[.int .i64 a, .int .i64 b] 3)) (.slice (some ⟨w.heap.size, 0, none⟩) 2 2) [a, b] := by
  have := Ints.of_own (ints_lit w [a, b] (by simp [maxLen]))
  simpa [intsOf] using this
set_option maxRecDepth 100000 in
set_option maxHeartbeats 8000000 in
theorem live6_any (w : World) : Calls Try.prog 32 #[] w (fun e w' => e = .returned (.bool true) ∧ Below w.heap.size w w') := by
  obtain ⟨x, hx⟩ : ∃ W, (((w.alloc (.cells #[.int .i64 3, .int .i64 (-1), .int .i64 (-1), .int .i64 (-1), .int .i64 0, .int .i64 1, .int .i64 (-1), .int .i64 (-1), .int .i64 (-1), .int .i64 1, .int .i64 14, .int .i64 3, .int .i64 1, .int .i64 (-1), .int .i64 0, .int .i64 21, .int .i64 2, .int .i64 (-1), .int .i64 (-1), .int .i64 0] 69)).alloc (.cells #[.int .i64 2, .int .i64 0] 3)).alloc (.cells #[.int .i64 2] 3)).alloc (.cells #[.slice (some ⟨w.heap.size, 0, none⟩) 4 4, .slice (some ⟨w.heap.size + 1, 0, none⟩) 2 2, .slice (some ⟨w.heap.size + 1 + 1, 0, none⟩) 1 1] 25) = W := ⟨_, rfl⟩
  have HX := Lib.hid hx
  have HN : Hid (NetR x (.slice (some ⟨w.heap.size, 0, none⟩) 4 4) (.slice (some ⟨w.heap.size + 1, 0, none⟩) 2 2) (.slice (some ⟨w.heap.size + 1 + 1, 0, none⟩) 1 1) N1 ∧ NetBox x (w.heap.size + 1 + 1 + 1) 25 (.slice (some ⟨w.heap.size, 0, none⟩) 4 4) (.slice (some ⟨w.heap.size + 1, 0, none⟩) 2 2) (.slice (some ⟨w.heap.size + 1 + 1, 0, none⟩) 1 1) ∧ Below w.heap.size w x) := Lib.hid (by
    subst hx
    have a1 := lit_ops w N1.ops (by simp [N1])
    simp only [N1, opsOf, opCells, List.flatMap_cons, List.flatMap_nil, List.cons_append, List.nil_append, List.length_cons, List.length_nil] at a1
    obtain ⟨w1, hw1⟩ : ∃ W, w.alloc (.cells #[.int .i64 3, .int .i64 (-1), .int .i64 (-1), .int .i64 (-1), .int .i64 0, .int .i64 1, .int .i64 (-1), .int .i64 (-1), .int .i64 (-1), .int .i64 1, .int .i64 14, .int .i64 3, .int .i64 1, .int .i64 (-1), .int .i64 0, .int .i64 21, .int .i64 2, .int .i64 (-1), .int .i64 (-1), .int .i64 0] 69) = W := ⟨_, rfl⟩
    have s1 : w1.heap.size = w.heap.size + 1 := by rw [← hw1]; simp
    have a1' : OpsR w1 (.slice (some ⟨w.heap.size, 0, none⟩) 4 4) N1.ops := by rw [← hw1]; exact a1
    have b1 : Below w.heap.size w w1 := by rw [← hw1]; exact below_new _ _
    rw [hw1]
    have a2 := lit_two w1 2 0
    rw [s1] at a2
    obtain ⟨w2, hw2⟩ : ∃ W, w1.alloc (.cells #[.int .i64 2, .int .i64 0] 3) = W := ⟨_, rfl⟩
    have s2 : w2.heap.size = w.heap.size + 1 + 1 := by rw [← hw2]; simp [s1]
    have b2 : Below w1.heap.size w1 w2 := by rw [← hw2]; exact below_new _ _
    rw [hw2] at a2 ⊢
    have a3 := lit_one w2 2
    rw [s2] at a3
    obtain ⟨w3, hw3⟩ : ∃ W, w2.alloc (.cells #[.int .i64 2] 3) = W := ⟨_, rfl⟩
    have s3 : w3.heap.size = w.heap.size + 1 + 1 + 1 := by rw [← hw3]; simp [s2]
    have b3 : Below w2.heap.size w2 w3 := by rw [← hw3]; exact below_new _ _
    rw [hw3] at a3 ⊢
    have b4 := below_new w3 (.cells #[.slice (some ⟨w.heap.size, 0, none⟩) 4 4, .slice (some ⟨w.heap.size + 1, 0, none⟩) 2 2, .slice (some ⟨w.heap.size + 1 + 1, 0, none⟩) 1 1] 25)
    have a4 := box_new w3 25 (.slice (some ⟨w.heap.size, 0, none⟩) 4 4) (.slice (some ⟨w.heap.size + 1, 0, none⟩) 2 2) (.slice (some ⟨w.heap.size + 1 + 1, 0, none⟩) 1 1)
    rw [s3] at a4
    exact ⟨⟨((a1'.below b2 (Nat.le_refl _)).below b3 (Nat.le_refl _)).below b4 (Nat.le_refl _), (a2.below b3 (Nat.le_refl _)).below b4 (Nat.le_refl _), a3.below b4 (Nat.le_refl _)⟩, a4, ((b1.trans (b2.mono (by omega))).trans (b3.mono (by omega))).trans (b4.mono (by omega))⟩)
  obtain ⟨p0, p1, p2⟩ := HN.out.2.1.ats
  have hsx := HN.out.2.1.lt
  clear hx
  go_enter Try.func32, Try.ntmps32
  go_wp2_with fail
  rw [HX.out]
  refine (own_any x _ _ _ N1 HN.out.1 (by simp [N1])).mono ?_
  rintro e w1 ⟨ov1, rfl, ho1, hb1⟩
  have HN1 : Hid (NetR w1 ov1 (.slice (some ⟨w.heap.size + 1, 0, none⟩) 2 2) (.slice (some ⟨w.heap.size + 1 + 1, 0, none⟩) 1 1) N1) := Lib.hid ⟨ho1, HN.out.1.2.1.below hb1 (Nat.le_refl _), HN.out.1.2.2.below hb1 (Nat.le_refl _)⟩
  have HB1 := Lib.hid hb1
  have HL0 := Lib.hid (lit_one w1 0)
  have HBL := Lib.hid (below_new w1 (.cells #[.int .i64 0] 3))
  clear ho1 hb1
  go_wp2_with fail
  refine (make_any _ _ _ _ _ N1 [0] (HN1.out.below HBL.out (Nat.le_refl _)) HL0.out (by simp [N1]) (by simp [N1]) (by simp [N1]) (by simp)).mono ?_
  rintro e w2 ⟨hb2, iv, cv, pv, rfl, hcod⟩
  rw [n1_f0]
  obtain ⟨C, hC⟩ : ∃ C, makeC N1 [0] = C := ⟨_, rfl⟩
  have HCC : Hid (runK C [[7], [7], [7]] = ([[1], [2], [3]], 0) ∧ checkK C = 0 ∧ CodW C ∧ C.ins.length = 5 ∧ C.outs.length = 1) := Lib.hid (by rw [← hC]; exact ⟨n1_run, n1_check, n1_w, n1_len.1, n1_len.2⟩)
  rw [hC] at hcod
  rw [hC]
  have HCD := Lib.hid hcod
  obtain ⟨cA, cc, rfl, -, -⟩ := hcod.1.form
  obtain ⟨oA, oc, rfl, -, -⟩ := ints_form hcod.2.1
  obtain ⟨qA, qc, rfl, -, -⟩ := ints_form hcod.2.2
  obtain ⟨li, hli⟩ : ∃ k, C.ins.length = k := ⟨_, rfl⟩
  obtain ⟨lo, hlo⟩ : ∃ k, C.outs.length = k := ⟨_, rfl⟩
  obtain ⟨lq, hlq⟩ : ∃ k, C.inp.length = k := ⟨_, rfl⟩
  obtain ⟨rg, hrg⟩ : ∃ k, C.regs = k := ⟨_, rfl⟩
  obtain ⟨sl, hsl⟩ : ∃ k, C.slots = k := ⟨_, rfl⟩
  have HRS : Hid (C.regs = rg ∧ C.slots = sl ∧ C.ins.length = li) := Lib.hid ⟨hrg, hsl, hli⟩
  rw [hli, hlo, hlq] at HCD
  rw [hli, hlo, hlq, hrg, hsl]
  have HB2 : Hid (Below x.heap.size x w2) := Lib.hid ((HB1.out.trans (HBL.out.mono HB1.out.size)).trans (hb2.mono (by have := HB1.out.size; simp; omega)))
  obtain ⟨w3, hw3⟩ : ∃ V, w2.alloc (.cells #[.slice cA li cc, .int .i64 rg, .int .i64 sl, .slice oA lo oc, .slice qA lq qc] 59) = V := ⟨_, rfl⟩
  have HB23 : Hid (Below w2.heap.size w2 w3) := Lib.hid (by rw [← hw3]; exact below_new _ _)
  have HB3 : Hid (Below x.heap.size x w3) := Lib.hid (HB2.out.trans (HB23.out.mono HB2.out.size))
  have HC3 : Hid (CodBox w3 w2.heap.size 59 (.slice cA li cc) rg sl (.slice oA lo oc) (.slice qA lq qc)) := Lib.hid (by rw [← hw3]; exact codbox_new _ _ _ _ _ _ _)
  have HCR3 : Hid (CodR w3 (.slice cA li cc) (.slice oA lo oc) (.slice qA lq qc) C) := Lib.hid ⟨HCD.out.1.below HB23.out (Nat.le_refl _), HCD.out.2.1.below HB23.out (Nat.le_refl _), HCD.out.2.2.below HB23.out (Nat.le_refl _)⟩
  have HN3 := Lib.hid (HN.out.1.below HB3.out (Nat.le_refl _))
  obtain ⟨q0, q1, q2⟩ := (HN.out.2.1.below HB3.out HN.out.2.1.lt).ats
  clear hb2 hcod hC hli hlo hlq hrg hsl p0 p1 p2
  go_wp2_with fail
  try rw [hw3]
  clear hw3
  try go_wp2_with fail
  refine (own_any w3 _ _ _ N1 HN3.out (by simp [N1])).mono ?_
  rintro e w4 ⟨ov4, rfl, ho4, hb4⟩
  have HN4 : Hid (NetR w4 ov4 (.slice (some ⟨w.heap.size + 1, 0, none⟩) 2 2) (.slice (some ⟨w.heap.size + 1 + 1, 0, none⟩) 1 1) N1) := Lib.hid ⟨ho4, HN3.out.2.1.below hb4 (Nat.le_refl _), HN3.out.2.2.below hb4 (Nat.le_refl _)⟩
  have HB34 := Lib.hid hb4
  have HL4 := Lib.hid (lit_one w4 2)
  have HBL4 := Lib.hid (below_new w4 (.cells #[.int .i64 2] 3))
  clear ho4 hb4
  go_wp2_with fail
  refine (make_any _ _ _ _ _ N1 [2] (HN4.out.below HBL4.out (Nat.le_refl _)) HL4.out (by simp [N1]) (by simp [N1]) (by simp [N1]) (by simp)).mono ?_
  rintro e w5 ⟨hb5, iv5, cv5, pv5, rfl, hcod5⟩
  rw [n1_f2]
  obtain ⟨C2, hC2⟩ : ∃ C, makeC N1 [2] = C := ⟨_, rfl⟩
  rw [hC2] at hcod5
  rw [hC2]
  obtain ⟨cA5, cc5, rfl, -, -⟩ := hcod5.1.form
  obtain ⟨oA5, oc5, rfl, -, -⟩ := ints_form hcod5.2.1
  obtain ⟨qA5, qc5, rfl, -, -⟩ := ints_form hcod5.2.2
  obtain ⟨w6, hw6⟩ : ∃ V, w5.alloc (.cells #[.slice cA5 C2.ins.length cc5, .int .i64 C2.regs, .int .i64 C2.slots, .slice oA5 C2.outs.length oc5, .slice qA5 C2.inp.length qc5] 59) = V := ⟨_, rfl⟩
  have HB36 : Hid (Below w3.heap.size w3 w6) := Lib.hid (by
    rw [← hw6]
    exact ((HB34.out.trans (HBL4.out.mono HB34.out.size)).trans (hb5.mono (by have := HB34.out.size; simp; omega))).alloc (by have := HB34.out.size; have := hb5.size; simp at this; omega) _)
  have HC6 := Lib.hid (HC3.out.below HB36.out HC3.out.lt)
  have HCR6 : Hid (CodR w6 (.slice cA li cc) (.slice oA lo oc) (.slice qA lq qc) C) := Lib.hid ⟨HCR3.out.1.below HB36.out (Nat.le_refl _), HCR3.out.2.1.below HB36.out (Nat.le_refl _), HCR3.out.2.2.below HB36.out (Nat.le_refl _)⟩
  obtain ⟨p0, p1, p2, p3, p4⟩ := HC6.out.ats
  clear hb5 hcod5 hC2 q0 q1 q2
  go_wp2_with fail
  try rw [hw6]
  clear hw6
  try go_wp2_with fail
  have HTO := Lib.hid (mtold_any w6 _ _ _ C HCR6.out (by rw [HCC.out.2.2.2.1]; omega))
  rw [HRS.out.1, HRS.out.2.1] at HTO
  refine HTO.out.mono ?_
  rintro e w7 ⟨iv7, rfl, hi7, hb7⟩
  obtain ⟨tA, tc, rfl, -, -⟩ := hi7.form
  rw [HRS.out.2.2] at hi7 ⊢
  obtain ⟨w8, hw8⟩ : ∃ V, w7.alloc (.cells #[.slice tA li tc, .int .i64 rg, .int .i64 sl, .slice oA lo oc, .slice qA lq qc] 54) = V := ⟨_, rfl⟩
  have HB68 : Hid (Below w6.heap.size w6 w8) := Lib.hid (by rw [← hw8]; exact hb7.alloc hb7.size _)
  have HD8 : Hid (CodBox w8 w7.heap.size 54 (.slice tA li tc) rg sl (.slice oA lo oc) (.slice qA lq qc)) := Lib.hid (by rw [← hw8]; exact codbox_new _ _ _ _ _ _ _)
  have HDR8 : Hid (CodR w8 (.slice tA li tc) (.slice oA lo oc) (.slice qA lq qc) C) := Lib.hid ⟨hi7.below (by rw [← hw8]; exact below_new _ _) (Nat.le_refl _), HCR6.out.2.1.below HB68.out (Nat.le_refl _), HCR6.out.2.2.below HB68.out (Nat.le_refl _)⟩
  obtain ⟨V, hV⟩ : ∃ V, ((((w8.alloc (.cells #[.int .i64 7] 3)).alloc (.cells #[.int .i64 7] 3)).alloc (.cells #[.int .i64 7] 3)).alloc (.cells #[.slice (some ⟨w8.heap.size, 0, none⟩) 1 1, .slice (some ⟨w8.heap.size + 1, 0, none⟩) 1 1, .slice (some ⟨w8.heap.size + 1 + 1, 0, none⟩) 1 1] 23)) = V := ⟨_, rfl⟩
  obtain ⟨hrV, hbV⟩ := lit_rows3 w8 7 7 7 V hV.symm
  have HRV := Lib.hid hrV
  have HBV := Lib.hid hbV
  have HV := Lib.hid hV
  obtain ⟨q0, q1, q2, q3, q4⟩ := HD8.out.ats
  have hs8 : w8.heap.size = w7.heap.size + 1 := by rw [← hw8]; simp
  have HRN := Lib.hid (krun_any V _ _ _ _ C [[7], [7], [7]] ⟨HDR8.out.1.below HBV.out (Nat.le_refl _), HDR8.out.2.1.below HBV.out (Nat.le_refl _), HDR8.out.2.2.below HBV.out (Nat.le_refl _)⟩ HRV.out (by rw [HCC.out.2.2.2.2]; omega) (by simp))
  rw [HRS.out.1, HRS.out.2.1, HCC.out.1] at HRN
  clear hi7 hb7 hrV hbV hV hs8 p0 p1 p2 p3 p4
  go_wp2_with fail
  try rw [hw8]
  clear hw8
  try go_wp2_with fail
  try rw [HV.out]
  refine HRN.out.mono ?_
  rintro e w9 ⟨rv, rfl, hr9, hb9⟩
  obtain ⟨rA, rc, rfl, -, -⟩ := hr9.form
  have HR9 := Lib.hid hr9
  have HB89 : Hid (Below w8.heap.size w8 w9) := Lib.hid (HBV.out.trans (hb9.mono HBV.out.size))
  have HB9 : Hid (Below w6.heap.size w6 w9) := Lib.hid (HB68.out.trans (HB89.out.mono HB68.out.size))
  have HL9 := Lib.hid (lit_one w9 0)
  have HBL9 := Lib.hid (below_new w9 (.cells #[.int .i64 0] 3))
  have HCK := Lib.hid (ccheck_any (w9.alloc (.cells #[.int .i64 0] 3)) nilV (.slice (some ⟨w9.heap.size, 0, none⟩) 1 1) nilV ⟨[], 0, 0, [0], []⟩ ⟨(cod_nil _).1, HL9.out, (cod_nil _).2.2⟩ ⟨fun x hx => by simp at hx, fun k hk => by simp at hk; subst hk; apply w64_of <;> omega⟩)
  rw [bad_check] at HCK
  dsimp only at HCK
  clear hr9 hb9 q0 q1 q2 q3 q4
  go_wp2_with fail
  refine HCK.out.mono ?_
  rintro e w10 ⟨rfl, hb10⟩
  have HB910 : Hid (Below w9.heap.size w9 w10) := Lib.hid (HBL9.out.trans (hb10.mono HBL9.out.size))
  have HB610 : Hid (Below w6.heap.size w6 w10) := Lib.hid (HB9.out.trans (HB910.out.mono HB9.out.size))
  have HR10 := Lib.hid (HR9.out.below HB910.out (Nat.le_refl _))
  obtain ⟨V2, hV2⟩ : ∃ V, ((((w10.alloc (.cells #[.int .i64 1] 3)).alloc (.cells #[.int .i64 2] 3)).alloc (.cells #[.int .i64 3] 3)).alloc (.cells #[.slice (some ⟨w10.heap.size, 0, none⟩) 1 1, .slice (some ⟨w10.heap.size + 1, 0, none⟩) 1 1, .slice (some ⟨w10.heap.size + 1 + 1, 0, none⟩) 1 1] 23)) = V := ⟨_, rfl⟩
  obtain ⟨hrV2, hbV2⟩ := lit_rows3 w10 1 2 3 V2 hV2.symm
  have HRV2 := Lib.hid hrV2
  have HBV2 := Lib.hid hbV2
  have HV2 := Lib.hid hV2
  have HEQ := Lib.hid (rows_eq V2 _ _ [[1], [2], [3]] (HR10.out.below HBV2.out (Nat.le_refl _)) HRV2.out)
  clear hb10 hrV2 hbV2 hV2
  go_wp2_with fail
  try rw [HV2.out]
  refine HEQ.out.mono ?_
  rintro e w11 ⟨rfl, hb11⟩
  have HB611 : Hid (Below w6.heap.size w6 w11) := Lib.hid ((HB610.out.trans (HBV2.out.mono HB610.out.size)).trans (hb11.mono (by have := HB610.out.size; have := HBV2.out.size; omega)))
  obtain ⟨p0, p1, p2, p3, p4⟩ := (HC6.out.below HB611.out HC6.out.lt).ats
  have HCR11 : Hid (CodR w11 (.slice cA li cc) (.slice oA lo oc) (.slice qA lq qc) C) := Lib.hid ⟨HCR6.out.1.below HB611.out (Nat.le_refl _), HCR6.out.2.1.below HB611.out (Nat.le_refl _), HCR6.out.2.2.below HB611.out (Nat.le_refl _)⟩
  have HCK2 := Lib.hid (ccheck_any w11 _ _ _ C HCR11.out HCC.out.2.2.1)
  rw [HRS.out.1, HRS.out.2.1, HCC.out.2.1] at HCK2
  clear hb11
  go_wp2_with fail
  refine HCK2.out.mono ?_
  rintro e w12 ⟨rfl, hb12⟩
  have HB612 : Hid (Below w6.heap.size w6 w12) := Lib.hid (HB611.out.trans (hb12.mono HB611.out.size))
  have HCK3 := Lib.hid (ccheck_any w12 nilV nilV nilV emptyC (cod_nil _) ⟨fun x hx => by simp [emptyC] at hx, fun k hk => by simp [emptyC] at hk⟩)
  rw [nil_check] at HCK3
  dsimp only [emptyC] at HCK3
  clear hb12 p0 p1 p2 p3 p4
  go_wp2_with fail
  refine HCK3.out.mono ?_
  rintro e w13 ⟨rfl, hb13⟩
  have HEND : Hid (Below w.heap.size w w13) := Lib.hid (HN.out.2.2.trans ((HB3.out.trans ((HB36.out.trans ((HB612.out.trans (hb13.mono HB612.out.size)).mono HB36.out.size)).mono HB3.out.size)).mono HN.out.2.2.size))
  clear hb13
  go_wp2
  go_ret
  exact ⟨rfl, HEND.out⟩
end Go.Proofs.Ytcphjehjdhgheaa.Nt
