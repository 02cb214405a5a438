/- InitsArrow: the walk. Conditions: none. -/
import Derived.Test.YtndmhbocfmnhgaaQb05
namespace Go.Proofs.Ytndmhbocfmnhgaa.initsArrow
open Go.ChangeShapes Go.WideShapes Go.ChangeAt Go.RowKit Go.Proofs.Ytndmhbocfmnhgaa.Tr
open Go.Proofs.Ytndmhbocfmnhgaa.In (ofM inT live_any of_any rof_any NodePost of_lit)
set_option linter.unusedVariables false
set_option linter.unusedSimpArgs false

set_option maxRecDepth 100000 in
set_option maxHeartbeats 4000000 in
def oneT : T := .l0 ⟨1, 1, []⟩
theorem one_may : May (oneT.flat 0) := may_flat oneT (by decide) (by decide) (by decide) (by decide)
theorem one_join : joinM 1 1 [] [] = oneT.flat 0 := Ex.joinM_leaf 1 1 [] (by decide)
theorem one_depth : depthM (oneT.flat 0) = 1 := by
  rw [← one_may.root_depth, root_flat oneT (by decide)]; rfl
/-- What the three are. -/
theorem arrow_val {e : List Nd} (h : May e) (hl : e.length ≤ 200) (hd : depthM e ≤ 38) :
    mayB (pairM ⟨19, 0, []⟩ (oneT.flat 0) e) = true ∧ mayB (pairM ⟨19, 0, []⟩ e (oneT.flat 0)) = true ∧ mayB (In.preM e) = true ∧
    ((ofM e = (0, 11) ∧ ofM (pairM ⟨19, 0, []⟩ (oneT.flat 0) e) = (0, 11) ∧ ofM (pairM ⟨19, 0, []⟩ e (oneT.flat 0)) = (0, 11) ∧ ofM (In.preM e) = (0, 11)) ∨
     (ofM e = (0, 0) ∧ ofM (pairM ⟨19, 0, []⟩ (oneT.flat 0) e) = (0, 0) ∧ ofM (pairM ⟨19, 0, []⟩ e (oneT.flat 0)) = (0, 0) ∧ ofM (In.preM e) = (1, 0)) ∨
     (ofM e = (1, 0) ∧ ofM (pairM ⟨19, 0, []⟩ (oneT.flat 0) e) = (0, 0) ∧ ofM (pairM ⟨19, 0, []⟩ e (oneT.flat 0)) = (0, 11) ∧ ofM (In.preM e) = (0, 11))) := by
  have hol : (oneT.flat 0).length = 1 := by rw [T.flat_len]; rfl
  have h1 : May (pairM ⟨19, 0, []⟩ (oneT.flat 0) e) := pair_may one_may h (In.plain_bin (by decide)) (by decide) (by omega) (by rw [one_depth]; omega) (by omega)
  have h2 : May (pairM ⟨19, 0, []⟩ e (oneT.flat 0)) := pair_may h one_may (In.plain_bin (by decide)) (by decide) (by omega) (by omega) (by rw [one_depth]; omega)
  have h3 : May (In.preM e) := In.pre_may h (by omega) (by omega)
  refine ⟨may_yes h1, may_yes h2, may_yes h3, ?_⟩
  rw [In.ofM_may h, In.ofM_may h1, In.ofM_may h2, In.ofM_may h3, pair_root one_may h (In.plain_bin (by decide)) (by decide), pair_root h one_may (In.plain_bin (by decide)) (by decide), In.pre_root h.ahead h.pos, root_flat oneT (by decide)]
  have h0 : inT oneT = some 0 := by rfl
  cases hx : inT (root e) with
  | none => exact .inl ⟨rfl, by simp [inT, hx, h0], by simp [inT, hx, h0], by simp [inT, hx]⟩
  | some x =>
    have hx1 := In.inT_le _ _ hx
    have hx2 : x = 0 ∨ x = 1 := by omega
    rcases hx2 with rfl | rfl
    · exact .inr (.inl ⟨rfl, by simp only [inT, hx, h0, Option.bind_some]; rfl, by simp only [inT, hx, h0, Option.bind_some]; rfl, by simp only [inT, hx, Option.bind_some]; rfl⟩)
    · exact .inr (.inr ⟨rfl, by simp only [inT, hx, h0, Option.bind_some]; rfl, by simp only [inT, hx, h0, Option.bind_some]; rfl, by simp only [inT, hx, Option.bind_some]; rfl⟩)
set_option maxRecDepth 100000 in
set_option maxHeartbeats 8000000 in
theorem walk (w : World) (v : Value) (e : List Nd) (hv : Nodes w v e) : Calls Try.prog 5 #[v] w fun r w' => r = .returned (.bool true) ∧ Below w.heap.size w w' := by
  have HV := Lib.hid hv
  obtain ⟨A, c, rfl, h1, h2, hA⟩ := hv
  unfold maxLen at h2
  have HA := Lib.hid hA
  clear hA
  by_cases hf : (e.length : Int) ≤ 200
  rotate_left
  · have hd : decide ((200 : Int) < (e.length : Int)) = true := decide_eq_true (by omega)
    have hd' : decide (200 < e.length) = true := decide_eq_true (by omega)
    go_enter Try.func5, Try.ntmps5
    go_wp2_with fail
    refine (live_any _).mono ?_
    rintro r w9 ⟨rfl, hb9⟩
    go_wp2
    go_ret
    exact ⟨rfl, hb9⟩
  have hd : decide ((200 : Int) < (e.length : Int)) = false := decide_eq_false (by omega)
  have hd' : decide (200 < e.length) = false := decide_eq_false (by omega)
  have hn : e.length ≤ 200 := by omega
  clear hf
  obtain ⟨B, hB⟩ : ∃ B, mayB e = B := ⟨_, rfl⟩
  have HM := Lib.hid hB
  clear hB
  cases B with
  | false =>
    go_enter Try.func5, Try.ntmps5
    go_wp2_with fail
    refine (rmay_lit _ e false _ HV.out HM.out).mono ?_
    rintro r w1 ⟨rfl, hb1⟩
    have HB1 := Lib.hid hb1
    clear hb1
    go_wp2_with fail
    refine (live_any _).mono ?_
    rintro r w9 ⟨rfl, hb9⟩
    go_wp2
    go_ret
    exact ⟨rfl, HB1.out.trans (hb9.mono HB1.out.size)⟩
  | true =>
    obtain ⟨D, hD⟩ : ∃ D, depthM e = D := ⟨_, rfl⟩
    have HD := Lib.hid hD
    have HRD : Hid (∀ w', Nodes w' (.slice A e.length c) e → Calls Try.prog 16 #[.slice A e.length c] w' (fun r w'' => r = .returned (.int .i64 (D : Int)) ∧ Below w'.heap.size w' w'')) := Lib.hid (fun w' h => by
      have := rdepth_any _ e w' h (by omega)
      rw [hD] at this; exact this)
    clear hD
    by_cases hd38 : D ≤ 38
    rotate_left
    · have hdd : decide ((38 : Int) < (D : Int)) = true := decide_eq_true (by omega)
      have hdd' : decide (38 < D) = true := decide_eq_true (by omega)
      go_enter Try.func5, Try.ntmps5
      go_wp2_with fail
      refine (rmay_lit _ e true _ HV.out HM.out).mono ?_
      rintro r w1 ⟨rfl, hb1⟩
      have HB1 := Lib.hid hb1
      have HV1 := Lib.hid (HV.out.below hb1 (Nat.le_refl _))
      clear hb1
      go_wp2_with fail
      refine (HRD.out _ HV1.out).mono ?_
      rintro r w2 ⟨rfl, hb2⟩
      have HB2 := Lib.hid (HB1.out.trans (hb2.mono HB1.out.size))
      clear hb2
      go_wp2_with fail
      refine (live_any _).mono ?_
      rintro r w9 ⟨rfl, hb9⟩
      go_wp2
      go_ret
      exact ⟨rfl, HB2.out.trans (hb9.mono HB2.out.size)⟩
    have hdd : decide ((38 : Int) < (D : Int)) = false := decide_eq_false (by omega)
    have hdd' : decide (38 < D) = false := decide_eq_false (by omega)
    obtain ⟨m1, m2, m3, hval⟩ := arrow_val (may_of HM.out) hn (by rw [HD.out]; omega)
    clear hd38
    obtain ⟨⟨p0, q0⟩, hx0⟩ : ∃ x, ofM e = x := ⟨_, rfl⟩
    obtain ⟨⟨p1, q1⟩, hx1⟩ : ∃ x, ofM (pairM ⟨19, 0, []⟩ (oneT.flat 0) e) = x := ⟨_, rfl⟩
    obtain ⟨⟨p2, q2⟩, hx2⟩ : ∃ x, ofM (pairM ⟨19, 0, []⟩ e (oneT.flat 0)) = x := ⟨_, rfl⟩
    obtain ⟨⟨p3, q3⟩, hx3⟩ : ∃ x, ofM (In.preM e) = x := ⟨_, rfl⟩
    rw [hx0, hx1, hx2, hx3] at hval
    simp only [Prod.mk.injEq] at hval
    have HX0 := Lib.hid hx0
    have HX1 := Lib.hid hx1
    have HX2 := Lib.hid hx2
    have HX3 := Lib.hid hx3
    have HVAL := Lib.hid hval
    have HJ1 := Lib.hid (In.join_pair one_may (may_of HM.out) 19 (by decide))
    have HJ2 := Lib.hid (In.join_pair (may_of HM.out) one_may 19 (by decide))
    have HJ3 := Lib.hid (In.join_pre (may_of HM.out).pos (In.may_zero (may_of HM.out)))
    have hol : (oneT.flat 0).length = 1 := by rw [T.flat_len]; rfl
    have HOL := Lib.hid hol
    have HJP : Hid (∀ (w' : World) (u1 u2 : Value) (l1 l2 : List Nd), Nodes w' u1 l1 → Nodes w' u2 l2 → l1.length + l2.length ≤ 1000 → Calls Try.prog 17 #[.int .i64 19, .int .i64 0, .string ⟨#[]⟩, .slice (some ⟨w'.heap.size, 0, none⟩) 2 2] (w'.alloc (.cells #[u1, u2] 23)) (NodesPost (w'.alloc (.cells #[u1, u2] 23)) (joinM 19 0 [] [l1, l2]))) := Lib.hid (fun w' u1 u2 l1 l2 h5 h6 h7 => rjoin_all _ [l1, l2] 19 0 [] _ (Rf.parts_two h5 h6) (by simp [roomM]; omega))
    have HJU : Hid (∀ (w' : World) (u1 : Value) (l1 : List Nd), Nodes w' u1 l1 → l1.length ≤ 1000 → Calls Try.prog 17 #[.int .i64 21, .int .i64 0, .string ⟨#[]⟩, .slice (some ⟨w'.heap.size, 0, none⟩) 1 1] (w'.alloc (.cells #[u1] 23)) (NodesPost (w'.alloc (.cells #[u1] 23)) (joinM 21 0 [] [l1]))) := Lib.hid (fun w' u1 l1 h5 h7 => rjoin_all _ [l1] 21 0 [] _ (Rf.parts_one h5) (by simp [roomM]; omega))
    clear hx0 hx1 hx2 hx3 hval m1 m2 m3 hol
    go_enter Try.func5, Try.ntmps5
    go_wp2_with fail
    refine (rmay_lit _ e true _ HV.out HM.out).mono ?_
    rintro r w1 ⟨rfl, hb1⟩
    have HB1 := Lib.hid hb1
    have HV1 := Lib.hid (HV.out.below hb1 (Nat.le_refl _))
    clear hb1
    go_wp2_with fail
    refine (HRD.out _ HV1.out).mono ?_
    rintro r w2 ⟨rfl, hb2⟩
    have HB2 := Lib.hid (HB1.out.trans (hb2.mono HB1.out.size))
    have HV2 := Lib.hid (HV1.out.below hb2 (Nat.le_refl _))
    clear hb2
    go_wp2_with fail
    refine (of_lit HV2.out HX0.out).mono ?_
    rintro r w3 ⟨rfl, hb3⟩
    have HB3 := Lib.hid (HB2.out.trans (hb3.mono HB2.out.size))
    have HV3 := Lib.hid (HV2.out.below hb3 (Nat.le_refl _))
    clear hb3
    go_wp2_with fail
    refine (rjoin_all _ [] 1 1 [] _ (Rf.parts_none w3) (by simp [roomM])).mono ?_
    rintro r w4 ⟨ov, rfl, hoo, hb4⟩
    rw [one_join] at hoo
    have HB4 := Lib.hid (HB3.out.trans (hb4.mono HB3.out.size))
    have HV4 := Lib.hid (HV3.out.below hb4 (Nat.le_refl _))
    have HO4 := Lib.hid (Nodes.of_own hoo)
    obtain ⟨AO, co, rfl, -, -, -⟩ := Nodes.of_own hoo
    rw [HOL.out] at HO4 ⊢
    clear hb4 hoo
    go_wp2_with fail
    refine (HJP.out w4 _ _ _ _ HO4.out HV4.out (by rw [HOL.out]; omega)).mono ?_
    rintro r w5 ⟨jv, rfl, hjo, hb5⟩
    have hbz := ((below_new w4 (.cells #[.slice AO 1 co, .slice A e.length c] 23)).trans (hb5.mono (by simp)))
    have HB5 := Lib.hid (HB4.out.trans (hbz.mono HB4.out.size))
    have HV5 := Lib.hid (HV4.out.below hbz (Nat.le_refl _))
    have HO5 := Lib.hid (HO4.out.below hbz (Nat.le_refl _))
    have HJV5 := Lib.hid (Nodes.of_own hjo)
    obtain ⟨AJ, cj, rfl, -, -, -⟩ := Nodes.of_own hjo
    rw [HJ1.out] at HJV5 ⊢
    clear hb5 hjo hbz
    go_wp2_with fail
    refine (of_lit HJV5.out HX1.out).mono ?_
    rintro r w6 ⟨rfl, hb6⟩
    have HB6 := Lib.hid (HB5.out.trans (hb6.mono HB5.out.size))
    have HV6 := Lib.hid (HV5.out.below hb6 (Nat.le_refl _))
    have HO6 := Lib.hid (HO5.out.below hb6 (Nat.le_refl _))
    clear hb6
    go_wp2_with fail
    refine (HJP.out w6 _ _ _ _ HV6.out HO6.out (by rw [HOL.out]; omega)).mono ?_
    rintro r w7 ⟨jv, rfl, hjo, hb7⟩
    have hbz := ((below_new w6 (.cells #[.slice A e.length c, .slice AO 1 co] 23)).trans (hb7.mono (by simp)))
    have HB7 := Lib.hid (HB6.out.trans (hbz.mono HB6.out.size))
    have HV7 := Lib.hid (HV6.out.below hbz (Nat.le_refl _))
    have HJV7 := Lib.hid (Nodes.of_own hjo)
    obtain ⟨AK, ck, rfl, -, -, -⟩ := Nodes.of_own hjo
    rw [HJ2.out] at HJV7 ⊢
    clear hb7 hjo hbz
    go_wp2_with fail
    refine (of_lit HJV7.out HX2.out).mono ?_
    rintro r w8 ⟨rfl, hb8⟩
    have HB8 := Lib.hid (HB7.out.trans (hb8.mono HB7.out.size))
    have HV8 := Lib.hid (HV7.out.below hb8 (Nat.le_refl _))
    clear hb8
    go_wp2_with fail
    refine (HJU.out w8 _ _ HV8.out (by omega)).mono ?_
    rintro r wa ⟨jv, rfl, hjo, hba⟩
    have hbz := ((below_new w8 (.cells #[.slice A e.length c] 23)).trans (hba.mono (by simp)))
    have HBA := Lib.hid (HB8.out.trans (hbz.mono HB8.out.size))
    have HJVA := Lib.hid (Nodes.of_own hjo)
    obtain ⟨AM, cm, rfl, -, -, -⟩ := Nodes.of_own hjo
    rw [HJ3.out] at HJVA ⊢
    clear hba hjo hbz
    go_wp2_with fail
    refine (of_lit HJVA.out HX3.out).mono ?_
    rintro r wb ⟨rfl, hbb⟩
    have HBB := Lib.hid (HBA.out.trans (hbb.mono HBA.out.size))
    clear hbb
    rcases HVAL.out with ⟨⟨rfl, rfl⟩, ⟨rfl, rfl⟩, ⟨rfl, rfl⟩, ⟨rfl, rfl⟩⟩ | ⟨⟨rfl, rfl⟩, ⟨rfl, rfl⟩, ⟨rfl, rfl⟩, ⟨rfl, rfl⟩⟩ | ⟨⟨rfl, rfl⟩, ⟨rfl, rfl⟩, ⟨rfl, rfl⟩, ⟨rfl, rfl⟩⟩
    all_goals
      go_wp2_with fail
      refine (live_any _).mono ?_
      rintro r w9 ⟨rfl, hb9⟩
      go_wp2
      go_ret
      exact ⟨rfl, HBB.out.trans (hb9.mono HBB.out.size)⟩
end Go.Proofs.Ytndmhbocfmnhgaa.initsArrow
