/- The answers that the document gives, as the law states them. Conditions: none. -/
import Derived.Test.YtcphjehjdhgheaaNtS2
import Derived.Test.YtcphjehjdhgheaaNtR
import Derived.Test.YtcphjehjdhgheaaNtT
import Derived.Test.YtcphjehjdhgheaaNtV
import Derived.Test.YtcphjehjdhgheaaNtP
namespace Go.Proofs.Ytcphjehjdhgheaa.Nt
open Go.ChangeShapes Go.WideShapes Go.ChangeAt Go.RowKit Go.Proofs.Ytcphjehjdhgheaa.Tr
set_option linter.unusedVariables false
set_option linter.unusedSimpArgs false

def N0 : Net := ⟨[⟨14, 1, 2, -1, 0⟩, ⟨3, -1, -1, -1, 0⟩, ⟨1, -1, -1, -1, 3⟩], [0], [2]⟩
def M0 : Net := ⟨[⟨3, -1, -1, -1, 0⟩, ⟨1, -1, -1, -1, 3⟩, ⟨14, 0, 1, -1, 0⟩], [2], [2]⟩
theorem n0_check : checkN N0 = 0 := by decide +kernel
theorem n0_order : orderN N0 = [1, 2, 0] := by decide +kernel
theorem n0_sort : sortN N0 = M0 := by decide +kernel
theorem n0_is : isN N0 = false := by decide +kernel
theorem m0_is : isN M0 = true := by decide +kernel
theorem m0_ends : endsN M0 = [2, 2, -1] := by decide +kernel
theorem ints_eq (w : World) (u v : Value) (l : List Int) (hu : Ints w u l) (hv : Ints w v l) : Calls Try.prog 21 #[u, v] w (fun e w' => e = .returned (.bool true) ∧ Below w.heap.size w w') :=
  (ints_any u v l l w hu hv).mono (by
    rintro e w' ⟨rfl, n, rfl⟩
    exact ⟨by simp, below_drewN (Below.refl _ _) n⟩)
theorem lit_one (w : World) (a : Int) : Ints (w.alloc (.cells #[.int .i64 a] 3)) (.slice (some ⟨w.heap.size, 0, none⟩) 1 1) [a] := by
  have := Ints.of_own (ints_lit w [a] (by simp [maxLen]))
  simpa [intsOf] using this
theorem lit_three (w : World) (a b c : Int) : Ints (w.alloc (.cells #[.int .i64 a, .int .i64 b, .int .i64 c] 3)) (.slice (some ⟨w.heap.size, 0, none⟩) 3 3) [a, b, c] := by
  have := Ints.of_own (ints_lit w [a, b, c] (by simp [maxLen]))
  simpa [intsOf] using this
theorem lit_ops (w : World) (l : List Op5) (h : l.length ≤ 1000) : OpsR (w.alloc (.cells (opsOf l).toArray 69)) (.slice (some ⟨w.heap.size, 0, none⟩) l.length l.length) l := by
  have := World.ownsRow_lit (base := w.heap.size) (e := 69) (size := 5) w (opsOf l).toArray l.length (Nat.le_refl _) (by unfold maxLen; omega) (by simp [ops_len])
  exact OpsR.of_own (b := w.heap.size) (T := 69) (by simpa using this)
set_option maxRecDepth 100000 in
set_option maxHeartbeats 8000000 in
theorem live_any (w : World) : Calls Try.prog 15 #[] w (fun e w' => e = .returned (.bool true) ∧ Below w.heap.size w w') := by
  obtain ⟨x, hx⟩ : ∃ W, (((w.alloc (.cells #[.int .i64 14, .int .i64 1, .int .i64 2, .int .i64 (-1), .int .i64 0, .int .i64 3, .int .i64 (-1), .int .i64 (-1), .int .i64 (-1), .int .i64 0, .int .i64 1, .int .i64 (-1), .int .i64 (-1), .int .i64 (-1), .int .i64 3] 69)).alloc (.cells #[.int .i64 0] 3)).alloc (.cells #[.int .i64 2] 3)).alloc (.cells #[.slice (some ⟨w.heap.size, 0, none⟩) 3 3, .slice (some ⟨w.heap.size + 1, 0, none⟩) 1 1, .slice (some ⟨w.heap.size + 1 + 1, 0, none⟩) 1 1] 25) = W := ⟨_, rfl⟩
  have HX := Lib.hid hx
  have HN : Hid (NetR x (.slice (some ⟨w.heap.size, 0, none⟩) 3 3) (.slice (some ⟨w.heap.size + 1, 0, none⟩) 1 1) (.slice (some ⟨w.heap.size + 1 + 1, 0, none⟩) 1 1) N0 ∧ NetBox x (w.heap.size + 1 + 1 + 1) 25 (.slice (some ⟨w.heap.size, 0, none⟩) 3 3) (.slice (some ⟨w.heap.size + 1, 0, none⟩) 1 1) (.slice (some ⟨w.heap.size + 1 + 1, 0, none⟩) 1 1) ∧ Below w.heap.size w x) := Lib.hid (by
    subst hx
    have a1 := lit_ops w N0.ops (by simp [N0])
    simp only [N0, opsOf, opCells, List.flatMap_cons, List.flatMap_nil, List.cons_append, List.nil_append, List.length_cons, List.length_nil] at a1
    obtain ⟨w1, hw1⟩ : ∃ W, w.alloc (.cells #[.int .i64 14, .int .i64 1, .int .i64 2, .int .i64 (-1), .int .i64 0, .int .i64 3, .int .i64 (-1), .int .i64 (-1), .int .i64 (-1), .int .i64 0, .int .i64 1, .int .i64 (-1), .int .i64 (-1), .int .i64 (-1), .int .i64 3] 69) = W := ⟨_, rfl⟩
    have s1 : w1.heap.size = w.heap.size + 1 := by rw [← hw1]; simp
    have a1' : OpsR w1 (.slice (some ⟨w.heap.size, 0, none⟩) 3 3) N0.ops := by rw [← hw1]; exact a1
    have b1 : Below w.heap.size w w1 := by rw [← hw1]; exact below_new _ _
    rw [hw1]
    have a2 := lit_one w1 0
    rw [s1] at a2
    obtain ⟨w2, hw2⟩ : ∃ W, w1.alloc (.cells #[.int .i64 0] 3) = W := ⟨_, rfl⟩
    have s2 : w2.heap.size = w.heap.size + 1 + 1 := by rw [← hw2]; simp [s1]
    have b2 : Below w1.heap.size w1 w2 := by rw [← hw2]; exact below_new _ _
    rw [hw2] at a2 ⊢
    have a3 := lit_one w2 2
    rw [s2] at a3
    obtain ⟨w3, hw3⟩ : ∃ W, w2.alloc (.cells #[.int .i64 2] 3) = W := ⟨_, rfl⟩
    have s3 : w3.heap.size = w.heap.size + 1 + 1 + 1 := by rw [← hw3]; simp [s2]
    have b3 : Below w2.heap.size w2 w3 := by rw [← hw3]; exact below_new _ _
    rw [hw3] at a3 ⊢
    have b4 := below_new w3 (.cells #[.slice (some ⟨w.heap.size, 0, none⟩) 3 3, .slice (some ⟨w.heap.size + 1, 0, none⟩) 1 1, .slice (some ⟨w.heap.size + 1 + 1, 0, none⟩) 1 1] 25)
    have a4 := box_new w3 25 (.slice (some ⟨w.heap.size, 0, none⟩) 3 3) (.slice (some ⟨w.heap.size + 1, 0, none⟩) 1 1) (.slice (some ⟨w.heap.size + 1 + 1, 0, none⟩) 1 1)
    rw [s3] at a4
    exact ⟨⟨((a1'.below b2 (Nat.le_refl _)).below b3 (Nat.le_refl _)).below b4 (Nat.le_refl _), (a2.below b3 (Nat.le_refl _)).below b4 (Nat.le_refl _), a3.below b4 (Nat.le_refl _)⟩, a4, ((b1.trans (b2.mono (by omega))).trans (b3.mono (by omega))).trans (b4.mono (by omega))⟩)
  obtain ⟨p0, p1, p2⟩ := HN.out.2.1.ats
  have hsx := HN.out.2.1.lt
  clear hx
  go_enter Try.func15, Try.ntmps15
  go_wp2_with fail
  rw [HX.out]
  refine (own_any x _ _ _ N0 HN.out.1 (by simp [N0])).mono ?_
  rintro e w1 ⟨ov1, rfl, ho1, hb1⟩
  have HN1 : Hid (NetR w1 ov1 (.slice (some ⟨w.heap.size + 1, 0, none⟩) 1 1) (.slice (some ⟨w.heap.size + 1 + 1, 0, none⟩) 1 1) N0) := Lib.hid ⟨ho1, HN.out.1.2.1.below hb1 (Nat.le_refl _), HN.out.1.2.2.below hb1 (Nat.le_refl _)⟩
  have HB1 := Lib.hid hb1
  clear ho1 hb1
  go_wp2_with fail
  refine (sorder_any w1 _ _ _ N0 HN1.out (by simp [N0]) (by simp [N0])).mono ?_
  rintro e w2 ⟨hb2, ⟨hc, -⟩ | ⟨-, vo, rfl, hv⟩⟩
  · exact absurd n0_check hc
  have HV : Hid (Ints w2 vo [1, 2, 0]) := Lib.hid (by
    have := Ints.of_own (l := natI (orderN N0)) (b := w1.heap.size) (by rw [show (natI (orderN N0)).length = (orderN N0).length by simp [natI]]; exact hv)
    rw [n0_order] at this; exact this)
  have HB2 : Hid (Below x.heap.size x w2) := Lib.hid (HB1.out.trans (hb2.mono HB1.out.size))
  obtain ⟨oA, oc, rfl, ol1, ol2⟩ := ints_form HV.out
  clear hb2 hv
  have HX2 := Lib.hid (HN.out.2.1.below HB2.out HN.out.2.1.lt)
  obtain ⟨q0, q1, q2⟩ := HX2.out.ats
  go_wp2_with fail
  refine (own_any w2 _ _ _ N0 (HN.out.1.below HB2.out (Nat.le_refl _)) (by simp [N0])).mono ?_
  rintro e w3 ⟨ov3, rfl, ho3, hb3⟩
  have HB3 : Hid (Below x.heap.size x w3) := Lib.hid (HB2.out.trans (hb3.mono HB2.out.size))
  have HV3 := Lib.hid (HV.out.below hb3 (Nat.le_refl _))
  have HN3 : Hid (NetR w3 ov3 (.slice (some ⟨w.heap.size + 1, 0, none⟩) 1 1) (.slice (some ⟨w.heap.size + 1 + 1, 0, none⟩) 1 1) N0) := Lib.hid ⟨ho3, HN.out.1.2.1.below HB3.out (Nat.le_refl _), HN.out.1.2.2.below HB3.out (Nat.le_refl _)⟩
  clear ho3 hb3
  go_wp2_with fail
  refine (ssort_any w3 _ _ _ N0 HN3.out (by simp [N0]) (by simp [N0]) (by simp [N0])).mono ?_
  rintro e w4 ⟨hb4, mo, mr, mi, rfl, hm⟩
  rw [n0_sort] at hm
  rw [n0_check]
  have HB4 : Hid (Below x.heap.size x w4) := Lib.hid (HB3.out.trans (hb4.mono HB3.out.size))
  have HV4 := Lib.hid (HV3.out.below hb4 (Nat.le_refl _))
  have HM4 := Lib.hid hm
  obtain ⟨mA, mc, rfl, m1, m2⟩ := hm.1.form
  obtain ⟨rA, rc, rfl, m3, m4⟩ := ints_form hm.2.1
  obtain ⟨iA, ic, rfl, m5, m6⟩ := ints_form hm.2.2
  rw [show M0.ops.length = 3 from rfl] at HM4 m1 ⊢
  rw [show M0.roots.length = 1 from rfl] at HM4 m3 ⊢
  rw [show M0.ins.length = 1 from rfl] at HM4 m5 ⊢
  clear hb4 hm
  obtain ⟨y, hy⟩ : ∃ W, w4.alloc (.cells #[.slice mA 3 mc, .slice rA 1 rc, .slice iA 1 ic] 30) = W := ⟨_, rfl⟩
  have HY := Lib.hid hy
  have hyb : Below w4.heap.size w4 y := by rw [← hy]; exact below_new _ _
  have HBY : Hid (Below x.heap.size x y) := Lib.hid (HB4.out.trans (hyb.mono HB4.out.size))
  have HVY := Lib.hid (HV4.out.below hyb (Nat.le_refl _))
  have HMY := Lib.hid (HM4.out.below hyb (Nat.le_refl _))
  have HXY : Hid (NetBox y w4.heap.size 30 (.slice mA 3 mc) (.slice rA 1 rc) (.slice iA 1 ic)) := Lib.hid (by rw [← hy]; exact box_new _ _ _ _ _)
  obtain ⟨t0, t1, t2⟩ := HXY.out.ats
  have hsy : y.heap.size = w4.heap.size + 1 := by rw [← hy]; simp
  have HL1 : Hid (Ints (y.alloc (.cells #[.int .i64 1, .int .i64 2, .int .i64 0] 3)) (.slice (some ⟨w4.heap.size + 1, 0, none⟩) 3 3) [1, 2, 0]) := Lib.hid (by have := lit_three y 1 2 0; rw [hsy] at this; exact this)
  have HLB : Hid (∀ o, Below y.heap.size y (y.alloc o)) := Lib.hid (fun o => below_new _ _)
  clear hy hyb hsy
  go_wp2_with fail
  rw [HY.out]
  go_wp2_with fail
  refine (ints_eq _ _ _ [1, 2, 0] (HVY.out.below (HLB.out _) (Nat.le_refl _)) HL1.out).mono ?_
  rintro e z1 ⟨rfl, hb5⟩
  have HZ1 : Hid (Below y.heap.size y z1) := Lib.hid ((HLB.out _).trans (hb5.mono (HLB.out _).size))
  have HMZ := Lib.hid (HMY.out.below HZ1.out (Nat.le_refl _))
  have HXZ := Lib.hid (HXY.out.below HZ1.out HXY.out.lt)
  obtain ⟨mg, mof, rfl, hmg, e0, e1, e2, e3, e4⟩ := HMZ.out.1.at (i := 2) (x := ⟨14, 0, 1, -1, 0⟩) rfl
  dsimp only at e0 e1 e2 e3 e4
  obtain ⟨t0, t1, t2⟩ := HXZ.out.ats
  have HL2 := Lib.hid (lit_one z1 2)
  clear hb5
  go_wp2_with fail
  refine (ints_eq _ _ _ [2] (HMZ.out.2.1.below (below_new _ _) (Nat.le_refl _)) HL2.out).mono ?_
  rintro e z2 ⟨rfl, hb6⟩
  have HZ2 : Hid (Below y.heap.size y z2) := Lib.hid ((HZ1.out.trans ((below_new z1 _).mono HZ1.out.size)).trans (hb6.mono (by have := HZ1.out.size; simp; omega)))
  have HXX2 := Lib.hid (HN.out.2.1.below (HBY.out.trans (HZ2.out.mono HBY.out.size)) HN.out.2.1.lt)
  obtain ⟨q0, q1, q2⟩ := HXX2.out.ats
  have HNZ2 := Lib.hid (HN.out.1.below (HBY.out.trans (HZ2.out.mono HBY.out.size)) (Nat.le_refl _))
  clear hb6
  go_wp2_with fail
  refine (own_any z2 _ _ _ N0 HNZ2.out (by simp [N0])).mono ?_
  rintro e z3 ⟨ov5, rfl, ho5, hb7⟩
  have HN5 : Hid (NetR z3 ov5 (.slice (some ⟨w.heap.size + 1, 0, none⟩) 1 1) (.slice (some ⟨w.heap.size + 1 + 1, 0, none⟩) 1 1) N0) := Lib.hid ⟨ho5, HNZ2.out.2.1.below hb7 (Nat.le_refl _), HNZ2.out.2.2.below hb7 (Nat.le_refl _)⟩
  have HZ3 : Hid (Below y.heap.size y z3) := Lib.hid (HZ2.out.trans (hb7.mono HZ2.out.size))
  clear ho5 hb7
  go_wp2_with fail
  refine (sis_any z3 _ _ _ N0 HN5.out (by simp [N0])).mono ?_
  rw [n0_is]
  rintro e z4 ⟨rfl, hb8⟩
  have HZ4 : Hid (Below y.heap.size y z4) := Lib.hid (HZ3.out.trans (hb8.mono HZ3.out.size))
  have HXZ4 := Lib.hid (HXY.out.below HZ4.out HXY.out.lt)
  obtain ⟨t0, t1, t2⟩ := HXZ4.out.ats
  clear hb8
  go_wp2_with fail
  refine (sis_any z4 _ _ _ M0 (HMY.out.below HZ4.out (Nat.le_refl _)) (by simp [M0])).mono ?_
  rw [m0_is]
  rintro e z5 ⟨rfl, hb9⟩
  have HZ5 : Hid (Below y.heap.size y z5) := Lib.hid (HZ4.out.trans (hb9.mono HZ4.out.size))
  have HXZ5 := Lib.hid (HXY.out.below HZ5.out HXY.out.lt)
  obtain ⟨t0, t1, t2⟩ := HXZ5.out.ats
  clear hb9
  go_wp2_with fail
  refine (sends_any z5 _ _ _ M0 (HMY.out.below HZ5.out (Nat.le_refl _)) (by simp [M0])).mono ?_
  rw [m0_ends]
  rintro e z6 ⟨ve, rfl, hoe, hb10⟩
  have HZ6 : Hid (Below y.heap.size y z6) := Lib.hid (HZ5.out.trans (hb10.mono HZ5.out.size))
  have HE6 := Lib.hid (Ints.of_own hoe)
  have HL3 := Lib.hid (lit_three z6 2 2 (-1))
  clear hoe hb10
  go_wp2_with fail
  refine (ints_eq _ _ _ [2, 2, -1] (HE6.out.below (below_new _ _) (Nat.le_refl _)) HL3.out).mono ?_
  rintro e z7 ⟨rfl, hb11⟩
  have HZ7 : Hid (Below w.heap.size w z7) := Lib.hid (HN.out.2.2.trans ((HBY.out.trans ((HZ6.out.trans (((below_new z6 _).trans (hb11.mono (by simp))).mono HZ6.out.size)).mono HBY.out.size)).mono HN.out.2.2.size))
  clear hb11
  go_wp2
  go_ret
  exact ⟨rfl, HZ7.out⟩
end Go.Proofs.Ytcphjehjdhgheaa.Nt
