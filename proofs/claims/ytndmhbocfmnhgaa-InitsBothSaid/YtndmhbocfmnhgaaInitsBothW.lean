/- InitsBoth: the walk. Conditions: none. -/
import Derived.Test.YtndmhbocfmnhgaaQb05
namespace Go.Proofs.Ytndmhbocfmnhgaa.initsBoth
open Go.ChangeShapes Go.WideShapes Go.ChangeAt Go.RowKit Go.Proofs.Ytndmhbocfmnhgaa.Tr
open Go.Proofs.Ytndmhbocfmnhgaa.In (ofM inT live_any of_any rof_any NodePost of_lit)
set_option linter.unusedVariables false
set_option linter.unusedSimpArgs false

set_option maxRecDepth 100000 in
set_option maxHeartbeats 4000000 in
theorem both_val {a b : List Nd} (ha : May a) (hb : May b) (hm : May (pairM ⟨14, 0, []⟩ a b)) :
    (ofM a = (0, 11) ∧ ofM (pairM ⟨14, 0, []⟩ a b) = (0, 11)) ∨ (ofM b = (0, 11) ∧ ofM (pairM ⟨14, 0, []⟩ a b) = (0, 11)) ∨ ∃ x y : Nat, x ≤ 1 ∧ y ≤ 1 ∧ ofM a = ((x : Int), 0) ∧ ofM b = ((y : Int), 0) ∧ ofM (pairM ⟨14, 0, []⟩ a b) = (((max x y : Nat) : Int), 0) := by
  rw [In.ofM_may ha, In.ofM_may hb, In.ofM_may hm, pair_root ha hb (In.plain_bin (by decide)) (by decide)]
  cases hx : inT (root a) with
  | none => exact .inl ⟨rfl, by simp [inT, hx]⟩
  | some x =>
    cases hy : inT (root b) with
    | none => exact .inr (.inl ⟨rfl, by simp [inT, hx, hy]⟩)
    | some y =>
      refine .inr (.inr ⟨x, y, In.inT_le _ _ hx, In.inT_le _ _ hy, rfl, rfl, ?_⟩)
      have : inT (.l2 ⟨14, 0, []⟩ (root a) (root b)) = some (max x y) := by
        simp only [inT, hx, hy, Option.bind_some]
        simp [In.stepI, In.allB, In.most]
      rw [this]
set_option maxRecDepth 100000 in
set_option maxHeartbeats 4000000 in
theorem walk (w : World) (v : Value) (a : List Nd) (hv : Nodes w v a) (u : Value) (b : List Nd) (hu : Nodes w u b) : Calls Try.prog 8 #[v, u] w fun r w' => r = .returned (.bool true) ∧ Below w.heap.size w w' := by
  have HV := Lib.hid hv
  have HU := Lib.hid hu
  obtain ⟨A, c, rfl, h1, h2, -⟩ := hv
  obtain ⟨C, d, rfl, h3, h4, -⟩ := hu
  unfold maxLen at h2 h4
  by_cases hf : (a.length : Int) ≤ 100
  rotate_left
  · have hd : decide ((100 : Int) < (a.length : Int)) = true := decide_eq_true (by omega)
    have hd' : decide (100 < a.length) = true := decide_eq_true (by omega)
    go_enter Try.func8, Try.ntmps8
    go_wp2_with fail
    refine (live_any _).mono ?_
    rintro r w9 ⟨rfl, hb9⟩
    go_wp2
    go_ret
    exact ⟨rfl, hb9⟩
  have hd : decide ((100 : Int) < (a.length : Int)) = false := decide_eq_false (by omega)
  have hd' : decide (100 < a.length) = false := decide_eq_false (by omega)
  have hna : a.length ≤ 100 := by omega
  clear hf
  by_cases hf : (b.length : Int) ≤ 100
  rotate_left
  · have he : decide ((100 : Int) < (b.length : Int)) = true := decide_eq_true (by omega)
    have he' : decide (100 < b.length) = true := decide_eq_true (by omega)
    go_enter Try.func8, Try.ntmps8
    go_wp2_with fail
    refine (live_any _).mono ?_
    rintro r w9 ⟨rfl, hb9⟩
    go_wp2
    go_ret
    exact ⟨rfl, hb9⟩
  have he : decide ((100 : Int) < (b.length : Int)) = false := decide_eq_false (by omega)
  have he' : decide (100 < b.length) = false := decide_eq_false (by omega)
  have hnb : b.length ≤ 100 := by omega
  clear hf
  obtain ⟨B, hB⟩ : ∃ B, mayB a = B := ⟨_, rfl⟩
  have HM := Lib.hid hB
  clear hB
  cases B with
  | false =>
    go_enter Try.func8, Try.ntmps8
    go_wp2_with fail
    refine (rmay_lit _ a false _ HV.out HM.out).mono ?_
    rintro r w1 ⟨rfl, hb1⟩
    have HB1 := Lib.hid hb1
    clear hb1
    go_wp2_with fail
    refine (live_any _).mono ?_
    rintro r w9 ⟨rfl, hb9⟩
    go_wp2
    go_ret
    exact ⟨rfl, HB1.out.trans (hb9.mono HB1.out.size)⟩
  | true =>
  obtain ⟨B, hB⟩ : ∃ B, mayB b = B := ⟨_, rfl⟩
  have HMB := Lib.hid hB
  clear hB
  cases B with
  | false =>
    go_enter Try.func8, Try.ntmps8
    go_wp2_with fail
    refine (rmay_lit _ a true _ HV.out HM.out).mono ?_
    rintro r w1 ⟨rfl, hb1⟩
    have HB1 := Lib.hid hb1
    have HU1 := Lib.hid (HU.out.below hb1 (Nat.le_refl _))
    clear hb1
    go_wp2_with fail
    refine (rmay_lit _ b false _ HU1.out HMB.out).mono ?_
    rintro r w2 ⟨rfl, hb2⟩
    have HB2 := Lib.hid (HB1.out.trans (hb2.mono HB1.out.size))
    clear hb2
    go_wp2_with fail
    refine (live_any _).mono ?_
    rintro r w9 ⟨rfl, hb9⟩
    go_wp2
    go_ret
    exact ⟨rfl, HB2.out.trans (hb9.mono HB2.out.size)⟩
  | true =>
  obtain ⟨B, hB⟩ : ∃ B, mayB (pairM ⟨14, 0, []⟩ a b) = B := ⟨_, rfl⟩
  have HMP := Lib.hid hB
  have HJ := Lib.hid (In.join_pair (may_of HM.out) (may_of HMB.out) 14 (by decide))
  clear hB
  have HJC : Hid (∀ w', Nodes w' (.slice A a.length c) a → Nodes w' (.slice C b.length d) b → Calls Try.prog 17 #[.int .i64 14, .int .i64 0, .string ⟨#[]⟩, .slice (some ⟨w'.heap.size, 0, none⟩) 2 2] (w'.alloc (.cells #[.slice A a.length c, .slice C b.length d] 23)) (NodesPost (w'.alloc (.cells #[.slice A a.length c, .slice C b.length d] 23)) (pairM ⟨14, 0, []⟩ a b))) := Lib.hid (fun w' h5 h6 => by
    rw [← HJ.out]
    exact rjoin_all _ [a, b] 14 0 [] _ (Rf.parts_two h5 h6) (by simp [roomM]; omega))
  cases B with
  | false =>
    go_enter Try.func8, Try.ntmps8
    go_wp2_with fail
    refine (rmay_lit _ a true _ HV.out HM.out).mono ?_
    rintro r w1 ⟨rfl, hb1⟩
    have HB1 := Lib.hid hb1
    have HU1 := Lib.hid (HU.out.below hb1 (Nat.le_refl _))
    have HV1 := Lib.hid (HV.out.below hb1 (Nat.le_refl _))
    clear hb1
    go_wp2_with fail
    refine (rmay_lit _ b true _ HU1.out HMB.out).mono ?_
    rintro r w2 ⟨rfl, hb2⟩
    have HB2 := Lib.hid (HB1.out.trans (hb2.mono HB1.out.size))
    have HC := Lib.hid (HJC.out w2 (HV1.out.below hb2 (Nat.le_refl _)) (HU1.out.below hb2 (Nat.le_refl _)))
    clear hb2
    go_wp2_with fail
    refine HC.out.mono ?_
    rintro r w3 ⟨jv, rfl, hjo, hb3⟩
    have HB3 := Lib.hid ((HB2.out.alloc HB2.out.size _).trans (hb3.mono (by have := HB2.out.size; simp; omega)))
    have HJ3 := Lib.hid (Nodes.of_own hjo)
    obtain ⟨A3, c3, rfl, -, -, -⟩ := Nodes.of_own hjo
    clear hb3 hjo
    go_wp2_with fail
    refine (rmay_lit _ _ false _ HJ3.out HMP.out).mono ?_
    rintro r w4 ⟨rfl, hb4⟩
    have HB4 := Lib.hid (HB3.out.trans (hb4.mono HB3.out.size))
    clear hb4
    go_wp2_with fail
    refine (live_any _).mono ?_
    rintro r w9 ⟨rfl, hb9⟩
    go_wp2
    go_ret
    exact ⟨rfl, HB4.out.trans (hb9.mono HB4.out.size)⟩
  | true =>
  have HVAL := Lib.hid (both_val (may_of HM.out) (may_of HMB.out) (may_of HMP.out))
  obtain ⟨⟨p1, q1⟩, hx1⟩ : ∃ x, ofM a = x := ⟨_, rfl⟩
  obtain ⟨⟨p2, q2⟩, hx2⟩ : ∃ x, ofM b = x := ⟨_, rfl⟩
  obtain ⟨⟨p3, q3⟩, hx3⟩ : ∃ x, ofM (pairM ⟨14, 0, []⟩ a b) = x := ⟨_, rfl⟩
  have HX1 := Lib.hid hx1
  have HX2 := Lib.hid hx2
  have HX3 := Lib.hid hx3
  have HV2 : Hid ((q1 = 11 ∧ q3 = 11) ∨ (q2 = 11 ∧ q3 = 11) ∨ ∃ x y : Nat, x ≤ 1 ∧ y ≤ 1 ∧ p1 = (x : Int) ∧ q1 = 0 ∧ p2 = (y : Int) ∧ q2 = 0 ∧ p3 = ((max x y : Nat) : Int) ∧ q3 = 0) := Lib.hid (by
    have := HVAL.out
    rw [hx1, hx2, hx3] at this
    simp only [Prod.mk.injEq] at this
    rcases this with h | h | ⟨x, y, h5, h6, h7, h8, h9⟩
    · exact .inl ⟨h.1.2, h.2.2⟩
    · exact .inr (.inl ⟨h.1.2, h.2.2⟩)
    · exact .inr (.inr ⟨x, y, h5, h6, h7.1, h7.2, h8.1, h8.2, h9.1, h9.2⟩))
  clear hx1 hx2 hx3 HVAL
  go_enter Try.func8, Try.ntmps8
  go_wp2_with fail
  refine (rmay_lit _ a true _ HV.out HM.out).mono ?_
  rintro r w1 ⟨rfl, hb1⟩
  have HB1 := Lib.hid hb1
  have HU1 := Lib.hid (HU.out.below hb1 (Nat.le_refl _))
  have HV1 := Lib.hid (HV.out.below hb1 (Nat.le_refl _))
  clear hb1
  go_wp2_with fail
  refine (rmay_lit _ b true _ HU1.out HMB.out).mono ?_
  rintro r w2 ⟨rfl, hb2⟩
  have HB2 := Lib.hid (HB1.out.trans (hb2.mono HB1.out.size))
  have HA2 := Lib.hid (HV1.out.below hb2 (Nat.le_refl _))
  have HD2 := Lib.hid (HU1.out.below hb2 (Nat.le_refl _))
  have HC := Lib.hid (HJC.out w2 HA2.out HD2.out)
  clear hb2
  go_wp2_with fail
  refine HC.out.mono ?_
  rintro r w3 ⟨jv, rfl, hjo, hb3⟩
  have hbz := ((below_new w2 (.cells #[.slice A a.length c, .slice C b.length d] 23)).trans (hb3.mono (by simp)))
  have HB3 := Lib.hid (HB2.out.trans (hbz.mono HB2.out.size))
  have HA3 := Lib.hid (HA2.out.below hbz (Nat.le_refl _))
  have HD3 := Lib.hid (HD2.out.below hbz (Nat.le_refl _))
  have HJ3 := Lib.hid (Nodes.of_own hjo)
  obtain ⟨A3, c3, rfl, -, -, -⟩ := Nodes.of_own hjo
  clear hb3 hjo hbz
  go_wp2_with fail
  refine (rmay_lit _ _ true _ HJ3.out HMP.out).mono ?_
  rintro r w4 ⟨rfl, hb4⟩
  have HB4 := Lib.hid (HB3.out.trans (hb4.mono HB3.out.size))
  have HA4 := Lib.hid (HA3.out.below hb4 (Nat.le_refl _))
  have HD4 := Lib.hid (HD3.out.below hb4 (Nat.le_refl _))
  have HJ4 := Lib.hid (HJ3.out.below hb4 (Nat.le_refl _))
  clear hb4
  go_wp2_with fail
  refine (of_lit HA4.out HX1.out).mono ?_
  rintro r w5 ⟨rfl, hb5⟩
  have HB5 := Lib.hid (HB4.out.trans (hb5.mono HB4.out.size))
  have HD5 := Lib.hid (HD4.out.below hb5 (Nat.le_refl _))
  have HJ5 := Lib.hid (HJ4.out.below hb5 (Nat.le_refl _))
  clear hb5
  go_wp2_with fail
  refine (of_lit HD5.out HX2.out).mono ?_
  rintro r w6 ⟨rfl, hb6⟩
  have HB6 := Lib.hid (HB5.out.trans (hb6.mono HB5.out.size))
  have HJ6 := Lib.hid (HJ5.out.below hb6 (Nat.le_refl _))
  clear hb6
  go_wp2_with fail
  refine (of_lit HJ6.out HX3.out).mono ?_
  rintro r w7 ⟨rfl, hb7⟩
  have HB7 := Lib.hid (HB6.out.trans (hb7.mono HB6.out.size))
  clear hb7
  rcases HV2.out with ⟨rfl, rfl⟩ | ⟨rfl, rfl⟩ | ⟨x, y, hx, hy, rfl, rfl, rfl, rfl, rfl, rfl⟩
  · go_wp2_with fail
    refine (live_any _).mono ?_
    rintro r w9 ⟨rfl, hb9⟩
    go_wp2
    go_ret
    exact ⟨rfl, HB7.out.trans (hb9.mono HB7.out.size)⟩
  · by_cases hq1 : q1 = 0
    · subst hq1
      go_wp2_with fail
      refine (live_any _).mono ?_
      rintro r w9 ⟨rfl, hb9⟩
      go_wp2
      go_ret
      exact ⟨rfl, HB7.out.trans (hb9.mono HB7.out.size)⟩
    · have hq1' : (q1 != 0) = true := by simpa using hq1
      clear hq1
      go_wp2_with fail
      refine (live_any _).mono ?_
      rintro r w9 ⟨rfl, hb9⟩
      go_wp2
      go_ret
      exact ⟨rfl, HB7.out.trans (hb9.mono HB7.out.size)⟩
  · have hx2 : x = 0 ∨ x = 1 := by omega
    have hy2 : y = 0 ∨ y = 1 := by omega
    clear hx hy
    rcases hx2 with rfl | rfl
    all_goals rcases hy2 with rfl | rfl
    all_goals
      go_wp2_with fail
      refine (live_any _).mono ?_
      rintro r w9 ⟨rfl, hb9⟩
      go_wp2
      go_ret
      exact ⟨rfl, HB7.out.trans (hb9.mono HB7.out.size)⟩
end Go.Proofs.Ytndmhbocfmnhgaa.initsBoth
