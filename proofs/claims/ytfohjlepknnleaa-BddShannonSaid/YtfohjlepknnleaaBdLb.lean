/- The answers that the document gives of diagrams, as the law states them. Conditions: none. -/
import Derived.Test.YtfohjlepknnleaaBdLa
namespace Go.Proofs.Ytfohjlepknnleaa.Bd
open Go.ChangeShapes Go.WideShapes Go.ChangeAt Go.RowKit
set_option linter.unusedVariables false
set_option linter.unusedSimpArgs false

theorem new_live (w : World) : Calls Try.prog 9 #[.int .i64 2, .int .i64 100] w (fun e w' => ∃ b, e = .returned (.tuple #[.pointer (some ⟨b, 0, none⟩), .int .i64 0]) ∧ StAt w.heap.size w' b 2 100 [(2, 0, 0), (2, 1, 1)] ∧ Below w.heap.size w w') :=
  (new_ok w 2 100 ⟨by omega, by omega, by omega⟩).mono (by
    rintro e w' ⟨h1, b, rfl, h2⟩
    exact ⟨b, rfl, h2.at (by omega) (by omega) (by simp), h1⟩)
theorem st_pt {B : Nat} {w : World} {b vars budget : Nat} {S : List Nd} (h : StAt B w b vars budget S) : PtAt w (.pointer (some ⟨b, 0, none⟩)) S.length := by
  obtain ⟨nv, pb, h⟩ := h
  exact .inr ⟨B, b, vars, budget, nv, pb, S, rfl, h, rfl⟩
theorem st_le {B : Nat} {w : World} {b vars budget : Nat} {S : List Nd} (h : StAt B w b vars budget S) : B ≤ w.heap.size := by
  obtain ⟨nv, pb, h⟩ := h
  have := h.hb; have := h.box.lt; omega
theorem const_st {B : Nat} {w : World} {b vars budget : Nat} {S : List Nd} (h : StAt B w b vars budget S) (c : Bool) :
    Calls Try.prog 24 #[.pointer (some ⟨b, 0, none⟩), .bool c] w (fun e w' => e = .returned (.int .i64 (if c then 1 else 0)) ∧ Below w.heap.size w w') := by
  obtain ⟨nv, pb, h⟩ := h
  exact const_any B w b vars budget nv pb S h c
set_option maxRecDepth 100000 in
set_option maxHeartbeats 8000000 in
theorem live_any (w : World) : Calls Try.prog 8 #[] w (fun e w' => e = .returned (.bool true) ∧ Below w.heap.size w w') := by
  have HNB := Lib.hid (fun W => new_bad W 31 100 (by omega))
  go_enter Try.func8, Try.ntmps8
  go_wp2_with fail
  refine (new_live w).mono ?_
  rintro e w1 ⟨b, rfl, hst1, hb1⟩
  have HST1 := Lib.hid hst1
  have HB1 := Lib.hid hb1
  clear hst1 hb1
  go_wp2_with fail
  refine (HNB.out w1).mono ?_
  rintro e w1' ⟨rfl, hw1⟩
  subst hw1
  have HVA := Lib.hid ((var_any w.heap.size w1' b 2 100 _ HST1.out 0 (by omega)).mono fun e w' h => h.ok (by simp))
  go_wp2_with fail
  refine HVA.out.mono ?_
  rintro e w2 ⟨m2, a, rfl, hst2, hl2, ha2, hb2, -⟩
  obtain ⟨S2, hS2⟩ : ∃ S, [(2, 0, 0), (2, 1, 1)] ++ m2 = S := ⟨_, rfl⟩
  rw [hS2] at hst2 hl2 ha2
  have hl2 : S2.length ≤ 3 := hl2
  have HST2 := Lib.hid hst2
  have HA2 := Lib.hid ha2
  have HB2 := Lib.hid (HB1.out.trans hb2)
  have HVB := Lib.hid ((var_any w.heap.size w2 b 2 100 _ hst2 1 (by omega)).mono fun e w' h => h.ok (by omega))
  clear hst2 ha2 hb2 hS2 HVA
  go_wp2_with fail
  refine HVB.out.mono ?_
  rintro e w3 ⟨m3, bb, rfl, hst3, hl3, hbb3, hb3, -⟩
  have hl3 : (S2 ++ m3).length ≤ 4 := by omega
  have ha3 := HA2.out.app HST2.out.good m3
  obtain ⟨S3, hS3⟩ : ∃ S, S2 ++ m3 = S := ⟨_, rfl⟩
  rw [hS3] at hst3 hl3 hbb3 ha3
  have HST3 := Lib.hid hst3
  have HA3 := Lib.hid ha3
  have HBB3 := Lib.hid hbb3
  have HB3 := Lib.hid (HB2.out.trans hb3)
  have HN := Lib.hid ((not_any w.heap.size w3 b 2 100 _ hst3 a ha3.1).mono fun e w' h => h.ok (by omega))
  clear hst3 ha3 hbb3 hb3 hS3 HVB
  go_wp2_with fail
  refine HN.out.mono ?_
  rintro e w4 ⟨m4, n, rfl, hst4, hl4, hn4, hb4, -⟩
  have hl4 : (S3 ++ m4).length ≤ 7 := by omega
  have ha4 := HA3.out.app HST3.out.good m4
  have hbb4 := HBB3.out.app HST3.out.good m4
  have hn4 : FnAt (S3 ++ m4) n (fun r => !r 0) := ⟨hn4.1, fun r => (hn4.2 r).trans (by show (!den S3 a r) = !r 0; rw [HA3.out.2])⟩
  obtain ⟨S4, hS4⟩ : ∃ S, S3 ++ m4 = S := ⟨_, rfl⟩
  rw [hS4] at hst4 hl4 hbb4 ha4 hn4
  have HB4 := Lib.hid (HB3.out.trans hb4)
  obtain ⟨w5, hw5⟩ : ∃ W, w4.alloc (.cells #[.int .i64 (a : Int), .int .i64 (n : Int)] 3) = W := ⟨_, rfl⟩
  have hb5 : Below w4.heap.size w4 w5 := by rw [← hw5]; exact below_new _ _
  have HST4 := Lib.hid (hst4.below hb5)
  have HA4 := Lib.hid ha4
  have HBB4 := Lib.hid hbb4
  have HN4 := Lib.hid hn4
  have HB5 := Lib.hid (HB4.out.trans (hb5.mono (st_le hst4)))
  have HW5 := Lib.hid hw5
  have HOR := Lib.hid ((or_any w.heap.size w5 b 2 100 _ HST4.out _ [a, n] (ints_two w4 a n w5 hw5) (by simp [HA4.out.1, HN4.out.1]) (by simp) (by simp)).mono fun e w' h => h.ok (by simp; omega))
  clear hst4 ha4 hbb4 hn4 hb4 hS4 HN hw5 hb5
  go_wp2_with fail
  rw [HW5.out]
  refine HOR.out.mono ?_
  rintro e w6 ⟨m6, t, rfl, hst6, hl6, ht6, hb6, -⟩
  have hl6 : (S4 ++ m6).length ≤ 13 := by simp at hl6 ⊢; omega
  have ht1 : t = 1 := FnAt.one hst6.good ht6 (fn_yes hst6.good) (fun r => by simp [HA4.out.2, HN4.out.2])
  subst ht1
  have ha6 := HA4.out.app HST4.out.good m6
  have hbb6 := HBB4.out.app HST4.out.good m6
  have hn6 := HN4.out.app HST4.out.good m6
  obtain ⟨S6, hS6⟩ : ∃ S, S4 ++ m6 = S := ⟨_, rfl⟩
  rw [hS6] at hst6 hl6 hbb6 ha6 hn6
  have HB6 := Lib.hid (HB5.out.trans hb6)
  obtain ⟨w7, hw7⟩ : ∃ W, w6.alloc (.cells #[.int .i64 (n : Int), .int .i64 (bb : Int)] 3) = W := ⟨_, rfl⟩
  have hb7 : Below w6.heap.size w6 w7 := by rw [← hw7]; exact below_new _ _
  have HST6 := Lib.hid (hst6.below hb7)
  have HA6 := Lib.hid ha6
  have HBB6 := Lib.hid hbb6
  have HN6 := Lib.hid hn6
  have HB7 := Lib.hid (HB6.out.trans (hb7.mono (st_le hst6)))
  have HW7 := Lib.hid hw7
  have HAN := Lib.hid ((and_any w.heap.size w7 b 2 100 _ HST6.out _ [n, bb] (ints_two w6 n bb w7 hw7) (by simp [HN6.out.1, HBB6.out.1]) (by simp) (by simp)).mono fun e w' h => h.ok (by simp; omega))
  clear hst6 ha6 hbb6 hn6 hb6 hS6 HOR hw7 hb7 ht6
  go_wp2_with fail
  rw [HW7.out]
  refine HAN.out.mono ?_
  rintro e w8 ⟨m8, x, rfl, hst8, hl8, hx8, hb8, -⟩
  have hl8 : (S6 ++ m8).length ≤ 19 := by simp at hl8 ⊢; omega
  have ha8 := HA6.out.app HST6.out.good m8
  have hbb8 := HBB6.out.app HST6.out.good m8
  have hn8 := HN6.out.app HST6.out.good m8
  have hx8 : FnAt (S6 ++ m8) x (fun r => !r 0 && r 1) := ⟨hx8.1, fun r => (hx8.2 r).trans (by simp [HN6.out.2, HBB6.out.2])⟩
  obtain ⟨S8, hS8⟩ : ∃ S, S6 ++ m8 = S := ⟨_, rfl⟩
  rw [hS8] at hst8 hl8 hbb8 ha8 hn8 hx8
  obtain ⟨hx0, hwl, hcn⟩ := wit_live hst8.good hx8
  have HB8 := Lib.hid (HB7.out.trans hb8)
  have HST8 := Lib.hid hst8
  have HX8 := Lib.hid hx8
  have H5 : Hid (5 ≤ S8.length) := Lib.hid (by
    have y0 := fn_no hst8.good
    have y1 := fn_yes hst8.good
    have := ha8.1; have := hbb8.1; have := hn8.1
    have := ha8.ne y0 (fun _ => true) (by simp); have := ha8.ne y1 (fun _ => false) (by simp)
    have := hbb8.ne y0 (fun _ => true) (by simp); have := hbb8.ne y1 (fun _ => false) (by simp)
    have := hn8.ne y0 (fun _ => false) (by simp); have := hn8.ne y1 (fun _ => true) (by simp)
    have := ha8.ne hbb8 (fun i => decide (i = 0)) (by simp); have := ha8.ne hn8 (fun _ => true) (by simp); have := hbb8.ne hn8 (fun _ => true) (by simp)
    omega)
  have HWI := Lib.hid (witness_any w.heap.size w8 b 2 100 _ hst8 x hx8.1 hx0)
  rw [hwl] at HWI
  have HCN := Lib.hid hcn
  clear hst8 ha8 hbb8 hn8 hb8 hS8 HAN hx8 hx0 hwl hcn
  go_wp2_with fail
  refine HWI.out.mono ?_
  rintro e w9 ⟨⟨g, rfl, hrow⟩, hb9⟩
  have HR9 := Lib.hid hrow
  have HB9 := Lib.hid (HB8.out.trans (hb9.mono (st_le HST8.out)))
  have HST9 := Lib.hid (HST8.out.below hb9)
  have HCO := Lib.hid (count_any w.heap.size w9 b 2 100 _ HST9.out x HX8.out.1)
  rw [HCN.out] at HCO
  clear hrow hb9 HWI
  go_wp2_with fail
  refine HCO.out.mono ?_
  rintro e wA ⟨rfl, hbA⟩
  have HRA : Hid (RowB wA g [false, true]) := Lib.hid (HR9.out.keeps (Keeps.of hbA))
  have HBA := Lib.hid (HB9.out.trans (hbA.mono (st_le HST9.out)))
  have HSTA := Lib.hid (HST9.out.below hbA)
  obtain ⟨wB, hwB⟩ : ∃ W, wA.alloc (.cells #[.bool false, .bool true] 4) = W := ⟨_, rfl⟩
  have hbB : Below wA.heap.size wA wB := by rw [← hwB]; exact below_new _ _
  have HSTB := Lib.hid (HSTA.out.below hbB)
  have HRB : Hid (RowB wB g [false, true]) := Lib.hid (HRA.out.keeps (Keeps.of hbB))
  have HBB := Lib.hid (HBA.out.trans (hbB.mono (st_le HSTA.out)))
  have HWB := Lib.hid hwB
  have HVL : Hid (Calls Try.prog 14 #[.pointer (some ⟨b, 0, none⟩), .int .i64 (x : Int), .slice (some ⟨wA.heap.size, 0, none⟩) 2 2] wB (fun e w' => e = .returned (.tuple #[.bool true, .int .i64 0]) ∧ Below wB.heap.size wB w')) := Lib.hid (by
    have h := value_any w.heap.size wB b 2 100 _ HSTB.out x HX8.out.1 _ [false, true] (bools_two wA false true wB hwB) rfl
    rw [HX8.out.2] at h
    exact h)
  clear hbA hwB hbB HCO
  go_wp2_with fail
  rw [HWB.out]
  refine HVL.out.mono ?_
  rintro e wC ⟨rfl, hbC⟩
  have HRC : Hid (RowB wC g [false, true]) := Lib.hid (HRB.out.keeps (Keeps.of hbC))
  have HBC := Lib.hid (HBB.out.trans (hbC.mono (st_le HSTB.out)))
  have HSTC := Lib.hid (HSTB.out.below hbC)
  have HRE := Lib.hid ((restrict_any w.heap.size wC b 2 100 _ HSTC.out x 0 true HX8.out.1 (by omega)).mono fun e w' h => h.ok (by omega))
  clear hbC HVL
  go_wp2_with fail
  refine HRE.out.mono ?_
  rintro e wD ⟨mD, r, rfl, hstD, hlD, hrD, hbD, hkD⟩
  have hr0 : r = 0 := FnAt.one hstD.good hrD (fn_no hstD.good) (fun r => by rw [HX8.out.2]; simp [upd])
  subst hr0
  have h5D : 5 ≤ (S8 ++ mD).length := by rw [List.length_append]; have := H5.out; omega
  obtain ⟨S9, hS9⟩ : ∃ S, S8 ++ mD = S := ⟨_, rfl⟩
  rw [hS9] at hstD hlD hrD h5D
  have hlD : S9.length ≤ 22 := by omega
  have HRD : Hid (RowB wD g [false, true]) := Lib.hid (HRC.out.keeps hkD)
  have HBD := Lib.hid (HBC.out.trans hbD)
  have HSTD := Lib.hid hstD
  have HVX := Lib.hid (var_bad w.heap.size wD b 2 100 _ hstD 2 (by omega))
  clear hbD hstD hrD hkD hS9 HRE
  go_wp2_with fail
  refine HVX.out.mono ?_
  rintro e wD' ⟨rfl, hwD⟩
  subst hwD
  obtain ⟨wE, hwE⟩ : ∃ W, wD'.alloc (.cells #[.bool false, .bool true] 4) = W := ⟨_, rfl⟩
  have hbE : Below wD'.heap.size wD' wE := by rw [← hwE]; exact below_new _ _
  have HSTE := Lib.hid (HSTD.out.below hbE)
  have HBE := Lib.hid (HBD.out.trans (hbE.mono (st_le HSTD.out)))
  have HSA := Lib.hid (rsame_any wE _ _ [false, true] [false, true] (by simp) (by simp) ((HRD.out.keeps (Keeps.of hbE)).bools (n := 2) rfl) (bools_two wD' false true wE hwE))
  have HWE := Lib.hid hwE
  clear hbE hwE HVX
  go_wp2_with fail
  rw [HWE.out]
  refine HSA.out.mono ?_
  rintro e wF ⟨rfl, hbF⟩
  have HSTF := Lib.hid (HSTE.out.below hbF)
  have HBF := Lib.hid (HBE.out.trans (hbF.mono (st_le HSTE.out)))
  clear hbF HSA
  go_wp2_with fail
  refine (const_st HSTF.out true).mono ?_
  rintro e wG ⟨rfl, hbG⟩
  have HSTG := Lib.hid (HSTF.out.below hbG)
  have HBG := Lib.hid (HBF.out.trans (hbG.mono (st_le HSTF.out)))
  clear hbG
  go_wp2_with fail
  refine (psize_any wG _ _ (st_pt HSTG.out)).mono ?_
  rintro e wH ⟨rfl, hwH⟩
  subst hwH
  have h5i : (5 : Int) ≤ (S9.length : Int) := by omega
  go_wp2_with fail
  refine bodyPost_ret (v := .bool true) (by simp [results, Try.results8, go_sem]) rfl ⟨rfl, HBG.out⟩
end Go.Proofs.Ytfohjlepknnleaa.Bd
