/- Of what two expressions are joined to, the operands are these two, in order: TreeApart returns true at every argument, and each argument reads afterwards as it read before. Conditions: none. -/
import Derived.Test.YtmggedjolocgdaaTreeT5
import Derived.Test.YtmggedjolocgdaaTreeLb
import Derived.Test.YtmggedjolocgdaaTreeLj
namespace Go.Proofs.Ytmggedjolocgdaa.treeApart
open Go.ChangeShapes Go.WideShapes Go.ChangeAt Go.RowKit Go.Proofs.Ytmggedjolocgdaa.Tr
set_option linter.unusedVariables false
set_option linter.unusedSimpArgs false

set_option maxRecDepth 100000 in
set_option maxHeartbeats 2000000 in
theorem walk (w : World) (v1 : Value) (a : List Nd) (hv1 : Nodes w v1 a) (hsa : Short a) (hza : ∀ c, v1 = .slice none 0 c → c = 0) (v2 : Value) (b : List Nd) (hv2 : Nodes w v2 b) (hsb : Short b) (hzb : ∀ c, v2 = .slice none 0 c → c = 0) : Calls Try.prog 7 #[v1, v2] w fun r w' => r = .returned (.bool true) ∧ Below w.heap.size w w' := by
  have HV1 := Lib.hid hv1
  have HV2 := Lib.hid hv2
  obtain ⟨A1, c1, rfl, x1, x2, _⟩ := hv1
  obtain ⟨A2, c2, rfl, x3, x4, _⟩ := hv2
  unfold maxLen at x2 x4
  by_cases hf1 : (a.length : Int) ≤ 100
  rotate_left
  · have HF1 := Lib.hid (decide_eq_false hf1)
    clear hf1
    go_enter Try.func7, Try.ntmps7
    go_wp2_with fail
    refine (few_lit _ a 100 false _ HV1.out HF1.out).mono ?_
    rintro r wf ⟨rfl, rfl⟩
    go_wp2_with fail
    refine (live_any _).mono ?_
    rintro r wz ⟨rfl, hbz⟩
    go_wp2
    go_ret
    exact ⟨rfl, hbz⟩
  have HF1 := Lib.hid (decide_eq_true hf1)
  have hal : a.length ≤ 100 := by omega
  clear hf1
  by_cases hf2 : (b.length : Int) ≤ 100
  rotate_left
  · have HF2 := Lib.hid (decide_eq_false hf2)
    clear hf2
    go_enter Try.func7, Try.ntmps7
    go_wp2_with fail
    refine (few_lit _ a 100 true _ HV1.out HF1.out).mono ?_
    rintro r wf ⟨rfl, rfl⟩
    go_wp2_with fail
    refine (few_lit _ b 100 false _ HV2.out HF2.out).mono ?_
    rintro r wf ⟨rfl, rfl⟩
    go_wp2_with fail
    refine (live_any _).mono ?_
    rintro r wz ⟨rfl, hbz⟩
    go_wp2
    go_ret
    exact ⟨rfl, hbz⟩
  have HF2 := Lib.hid (decide_eq_true hf2)
  have hbl : b.length ≤ 100 := by omega
  clear hf2
  rcases Bool.eq_false_or_eq_true (mayB a) with hma | hma
  rotate_left
  · have HMA := Lib.hid hma
    clear hma
    go_enter Try.func7, Try.ntmps7
    go_wp2_with fail
    refine (few_lit _ a 100 true _ HV1.out HF1.out).mono ?_
    rintro r wf ⟨rfl, rfl⟩
    go_wp2_with fail
    refine (few_lit _ b 100 true _ HV2.out HF2.out).mono ?_
    rintro r wf ⟨rfl, rfl⟩
    go_wp2_with fail
    refine (may_lit _ a false _ HV1.out HMA.out).mono ?_
    rintro r w1 ⟨rfl, hb1⟩
    have HB1 := Lib.hid (hb1)
    clear hb1
    go_wp2_with fail
    refine (live_any _).mono ?_
    rintro r wz ⟨rfl, hbz⟩
    go_wp2
    go_ret
    exact ⟨rfl, HB1.out.trans (hbz.mono HB1.out.size)⟩
  have HMA := Lib.hid hma
  have HA := Lib.hid (may_of hma)
  clear hma
  rcases Bool.eq_false_or_eq_true (mayB b) with hmb | hmb
  rotate_left
  · have HMB := Lib.hid hmb
    clear hmb
    go_enter Try.func7, Try.ntmps7
    go_wp2_with fail
    refine (few_lit _ a 100 true _ HV1.out HF1.out).mono ?_
    rintro r wf ⟨rfl, rfl⟩
    go_wp2_with fail
    refine (few_lit _ b 100 true _ HV2.out HF2.out).mono ?_
    rintro r wf ⟨rfl, rfl⟩
    go_wp2_with fail
    refine (may_lit _ a true _ HV1.out HMA.out).mono ?_
    rintro r w1 ⟨rfl, hb1⟩
    have HB1 := Lib.hid (hb1)
    have HV2b := Lib.hid (HV2.out.below hb1 (Nat.le_refl _))
    clear hb1
    go_wp2_with fail
    refine (may_lit _ b false _ HV2b.out HMB.out).mono ?_
    rintro r w2 ⟨rfl, hb2⟩
    have HB2 := Lib.hid (HB1.out.trans (hb2.mono HB1.out.size))
    clear hb2
    go_wp2_with fail
    refine (live_any _).mono ?_
    rintro r wz ⟨rfl, hbz⟩
    go_wp2
    go_ret
    exact ⟨rfl, HB2.out.trans (hbz.mono HB2.out.size)⟩
  have HMB := Lib.hid hmb
  have HB := Lib.hid (may_of hmb)
  clear hmb
  obtain ⟨J, hJ⟩ : ∃ J, pairM ⟨6, 0, []⟩ a b = J := ⟨_, rfl⟩
  have HJ := Lib.hid (show joinM 6 0 [] [a, b] = J from (join_pair HA.out HB.out 6 (by decide)).trans hJ)
  obtain ⟨N, hN⟩ : ∃ N, a.length + b.length = N := ⟨_, rfl⟩
  have HJL := Lib.hid (show J.length = N + 1 by rw [← hJ, pair_len, hN])
  have HLAST := Lib.hid (show J[N]? = some ⟨6, (a.length : Int) - 1, (a.length : Int) + (b.length : Int) - 1, -1, 0, []⟩ by rw [← hJ, ← hN, pair_last]; simp [mkL])
  have hNe : (a.length : Int) + (b.length : Int) = (N : Int) := by omega
  have hNl : N ≤ 200 := by omega
  have HNE := Lib.hid hNe
  obtain ⟨da, hda⟩ : ∃ da, depthM a = da := ⟨_, rfl⟩
  obtain ⟨db, hdb⟩ : ∃ db, depthM b = db := ⟨_, rfl⟩
  have HDA := Lib.hid hda
  have HDB := Lib.hid hdb
  have HMY := Lib.hid (show (da < 40 → db < 40 → May J) ∧ (40 ≤ da ∨ 40 ≤ db → ¬ May J) from by
    rw [← hJ, ← hda, ← hdb]
    exact ⟨pair_may HA.out HB.out (by decide) (by decide) (by omega), pair_not HA.out HB.out (by decide) (by decide)⟩)
  have HSL := Lib.hid (show May J → subM J ((a.length : Int) - 1) = normB a from by rw [← hJ]; exact pair_subL HA.out HB.out (by decide))
  have HSR := Lib.hid (show May J → subM J ((N : Int) - 1) = normB b from by rw [← hJ, ← hNe]; exact pair_subR HA.out HB.out (by decide))
  clear hJ hda hdb hN hNe
  go_enter Try.func7, Try.ntmps7
  go_wp2_with fail
  refine (few_lit _ a 100 true _ HV1.out HF1.out).mono ?_
  rintro r wf ⟨rfl, rfl⟩
  go_wp2_with fail
  refine (few_lit _ b 100 true _ HV2.out HF2.out).mono ?_
  rintro r wf ⟨rfl, rfl⟩
  go_wp2_with fail
  refine (may_lit _ a true _ HV1.out HMA.out).mono ?_
  rintro r w1 ⟨rfl, hb1⟩
  have HB1 := Lib.hid (hb1)
  have HV11 := Lib.hid (HV1.out.below hb1 (Nat.le_refl _))
  have HV21 := Lib.hid (HV2.out.below hb1 (Nat.le_refl _))
  clear hb1
  go_wp2_with fail
  refine (may_lit _ b true _ HV21.out HMB.out).mono ?_
  rintro r w2 ⟨rfl, hb2⟩
  have HB2 := Lib.hid (HB1.out.trans (hb2.mono HB1.out.size))
  have HV12 := Lib.hid (HV11.out.below hb2 (Nat.le_refl _))
  have HV22 := Lib.hid (HV21.out.below hb2 (Nat.le_refl _))
  have hs2 := HB2.out.size
  clear hb2
  go_wp2_with fail
  refine (join_any _ [a, b] 6 0 [] _ (parts_two HV12.out HV22.out) (by unfold roomM; simp; omega)).mono ?_
  rintro r w3 ⟨ve, rfl, hoe, hb3⟩
  rw [HJ.out] at hoe
  have hbb3 := (below_new w2 (.cells #[.slice A1 a.length c1, .slice A2 b.length c2] 23)).trans (hb3.mono (by simp))
  have HV13 := Lib.hid (HV12.out.below hbb3 (Nat.le_refl _))
  have HV23 := Lib.hid (HV22.out.below hbb3 (Nat.le_refl _))
  have HOE := Lib.hid hoe
  have HB3 := Lib.hid (HB2.out.trans (hbb3.mono hs2))
  have hs3 := HB3.out.size
  obtain ⟨ge, ce, rfl, e1, e2, hge, E⟩ := own_nd hoe HLAST.out
  rw [HJL.out] at e1 ⊢
  unfold maxLen at e2
  clear hoe hb3 hbb3 E
  have hNe := HNE.out
  go_wp2_with fail
  refine (depth_lit _ a da _ HV13.out (by omega) HDA.out).mono ?_
  rintro r w4 ⟨rfl, hb4⟩
  have HV14 := Lib.hid (HV13.out.below hb4 (Nat.le_refl _))
  have HV24 := Lib.hid (HV23.out.below hb4 (Nat.le_refl _))
  have HOE4 := Lib.hid (own_below HOE.out hb4)
  have HB4 := Lib.hid (HB3.out.trans (hb4.mono hs3))
  have hs4 := HB4.out.size
  clear hb4
  by_cases hda : 40 ≤ da
  · have HMJ := Lib.hid (may_no (HMY.out.2 (.inl hda)))
    have hdi : decide ((40 : Int) ≤ (da : Int)) = true := decide_eq_true (by omega)
    go_wp2_with fail
    refine (may_lit _ J false _ (by have := Nodes.of_own HOE4.out; rw [HJL.out] at this; exact this) HMJ.out).mono ?_
    rintro r w5 ⟨rfl, hb5⟩
    have HB5 := Lib.hid (HB4.out.trans (hb5.mono hs4))
    clear hb5
    go_wp2_with fail
    refine (live_any _).mono ?_
    rintro r wz ⟨rfl, hbz⟩
    go_wp2
    go_ret
    exact ⟨rfl, HB5.out.trans (hbz.mono HB5.out.size)⟩
  have hda' : da < 40 := by omega
  have hda'' : decide ((40 : Int) ≤ (da : Int)) = false := decide_eq_false (by omega)
  clear hda
  go_wp2_with fail
  refine (depth_lit _ b db _ HV24.out (by omega) HDB.out).mono ?_
  rintro r w5 ⟨rfl, hb5⟩
  have HV15 := Lib.hid (HV14.out.below hb5 (Nat.le_refl _))
  have HV25 := Lib.hid (HV24.out.below hb5 (Nat.le_refl _))
  have HOE5 := Lib.hid (own_below HOE4.out hb5)
  have HB5 := Lib.hid (HB4.out.trans (hb5.mono hs4))
  have hs5 := HB5.out.size
  clear hb5
  by_cases hdb : 40 ≤ db
  · have HMJ := Lib.hid (may_no (HMY.out.2 (.inr hdb)))
    have hdi : decide ((40 : Int) ≤ (db : Int)) = true := decide_eq_true (by omega)
    go_wp2_with fail
    refine (may_lit _ J false _ (by have := Nodes.of_own HOE5.out; rw [HJL.out] at this; exact this) HMJ.out).mono ?_
    rintro r w6 ⟨rfl, hb6⟩
    have HB6 := Lib.hid (HB5.out.trans (hb6.mono hs5))
    clear hb6
    go_wp2_with fail
    refine (live_any _).mono ?_
    rintro r wz ⟨rfl, hbz⟩
    go_wp2
    go_ret
    exact ⟨rfl, HB6.out.trans (hbz.mono HB6.out.size)⟩
  have hdb' : db < 40 := by omega
  have hdb'' : decide ((40 : Int) ≤ (db : Int)) = false := decide_eq_false (by omega)
  clear hdb
  have HMJ := Lib.hid (HMY.out.1 hda' hdb')
  obtain ⟨ge', ce', q1, _, _, hge5, E⟩ := own_nd HOE5.out HLAST.out
  rw [HJL.out] at q1
  simp only [Value.slice.injEq, Option.some.injEq, Addr.mk.injEq, and_true, true_and] at q1
  obtain ⟨rfl, rfl⟩ := q1
  have E1 := E 1 (by omega)
  simp [ndCells] at E1
  clear E
  go_wp2_with fail
  refine (sub_lit _ J _ (normB a) _ (by have := Nodes.of_own HOE5.out; rw [HJL.out] at this; exact this) (HSL.out HMJ.out)).mono ?_
  rintro r w6 ⟨vx, rfl, hox, hb6⟩
  have HOX := Lib.hid (Nodes.of_own hox)
  have HV16 := Lib.hid (HV15.out.below hb6 (Nat.le_refl _))
  have HV26 := Lib.hid (HV25.out.below hb6 (Nat.le_refl _))
  have HOE6 := Lib.hid (own_below HOE5.out hb6)
  have HB6 := Lib.hid (HB5.out.trans (hb6.mono hs5))
  have hs6 := HB6.out.size
  obtain ⟨ge', ce', q1, _, _, hge6, E⟩ := own_nd HOE6.out HLAST.out
  rw [HJL.out] at q1
  simp only [Value.slice.injEq, Option.some.injEq, Addr.mk.injEq, and_true, true_and] at q1
  obtain ⟨rfl, rfl⟩ := q1
  have E2 := E 2 (by omega)
  simp [ndCells, HNE.out] at E2
  clear E hox hb6 E1
  go_wp2_with fail
  refine (sub_lit _ J _ (normB b) _ (by have := Nodes.of_own HOE6.out; rw [HJL.out] at this; exact this) (HSR.out HMJ.out)).mono ?_
  rintro r w7 ⟨vy, rfl, hoy, hb7⟩
  have HOY := Lib.hid (Nodes.of_own hoy)
  have HOX7 := Lib.hid (HOX.out.below hb7 (Nat.le_refl _))
  have HV17 := Lib.hid (HV16.out.below hb7 (Nat.le_refl _))
  have HV27 := Lib.hid (HV26.out.below hb7 (Nat.le_refl _))
  have HOE7 := Lib.hid (own_below HOE6.out hb7)
  have HB7 := Lib.hid (HB6.out.trans (hb7.mono hs6))
  have hs7 := HB7.out.size
  clear hoy hb7 E2
  go_wp2_with fail
  refine (may_lit _ J true _ (by have := Nodes.of_own HOE7.out; rw [HJL.out] at this; exact this) (may_yes HMJ.out)).mono ?_
  rintro r w8 ⟨rfl, hb8⟩
  have HOX8 := Lib.hid (HOX7.out.below hb8 (Nat.le_refl _))
  have HOY8 := Lib.hid (HOY.out.below hb8 (Nat.le_refl _))
  have HV18 := Lib.hid (HV17.out.below hb8 (Nat.le_refl _))
  have HV28 := Lib.hid (HV27.out.below hb8 (Nat.le_refl _))
  have HB8 := Lib.hid (HB7.out.trans (hb8.mono hs7))
  have hs8 := HB8.out.size
  clear hb8
  go_wp2_with fail
  refine (sub_norm _ a (normB a) _ HV18.out rfl).mono ?_
  rintro r w9 ⟨vs, rfl, hos, hb9⟩
  have HOS := Lib.hid (Nodes.of_own hos)
  have HOX9 := Lib.hid (HOX8.out.below hb9 (Nat.le_refl _))
  have HOY9 := Lib.hid (HOY8.out.below hb9 (Nat.le_refl _))
  have HV29 := Lib.hid (HV28.out.below hb9 (Nat.le_refl _))
  have HB9 := Lib.hid (HB8.out.trans (hb9.mono hs8))
  have hs9 := HB9.out.size
  clear hos hb9
  go_wp2_with fail
  refine (same_lit _ _ (normB a) (normB a) true _ HOX9.out HOS.out (by simp)).mono ?_
  rintro r w10 ⟨rfl, n1, rfl⟩
  go_wp2_with fail
  refine (sub_norm _ b (normB b) _ (HV29.out.drewN n1) rfl).mono ?_
  rintro r w11 ⟨vt, rfl, hot, hb11⟩
  have hb11' : Below w9.heap.size w9 w11 := (below_drewN (Below.refl _ _) n1).trans hb11
  have HOT := Lib.hid (Nodes.of_own hot)
  have HOY11 := Lib.hid (HOY9.out.below hb11' (Nat.le_refl _))
  have HB11 := Lib.hid (HB9.out.trans (hb11'.mono hs9))
  have hs11 := HB11.out.size
  clear hot hb11 hb11'
  go_wp2_with fail
  refine (same_lit _ _ (normB b) (normB b) true _ HOY11.out HOT.out (by simp)).mono ?_
  rintro r w12 ⟨rfl, n2, rfl⟩
  go_wp2_with fail
  refine (live_any _).mono ?_
  rintro r wz ⟨rfl, hbz⟩
  have hbz' : Below w11.heap.size w11 wz := (below_drewN (Below.refl _ _) n2).trans hbz
  go_wp2
  go_ret
  exact ⟨rfl, HB11.out.trans (hbz'.mono hs11)⟩

theorem own : ownKnob Try.prog.godebug = none := by kernel_rfl
theorem laid : laidOutB Try.prog = true := by kernel_rfl
set_option maxRecDepth 100000 in
theorem lifted (os : Os) (started : os.Started) (H : Type) (enc : TypeId × Value → H) :
    ReturnsInHanded {} Try.checked os 7 .any (Rows.treeApartSpec.pre6 enc Try.prog Try.f7 Rows.treeApartRow.domain false) (Rows.treeApartSpec.post enc Try.prog Try.f7 false true false false) := by
  refine returnsInHanded_of_change (C := Try.checked) own started (by kernel_rfl) Try.func7
    (ChangeSpec.witness6 (enc := enc) (C := Try.checked) false ⟨#[], #[.slice none 0 0, .slice none 0 0], []⟩ 8 (by kernel_rfl) (by kernel_rfl) (by kernel_rfl) (by kernel_rfl)) ?_
  intro W base args ds gs before hval0 hW hcnd _
  have hval : ∀ (j : Nat) t v, Try.f7.params[j]? = some t → args[j]? = some v → Value.okWide Try.prog W .any base t v := hval0
  have hW' := hW
  obtain ⟨p, q, hA0, hV, rfl, hfz, hnd⟩ := hW
  have hA : DataW.TrodAll enc Try.prog W 0 (fun _ => true) true Try.f7.params.toList args.toList ds p := hA0
  rw [Try.params7] at hA hval
  obtain ⟨v0, vs0, d0, ds0, p0, q0, hargs, rfl, rfl, h0, r0⟩ := trodAll_cons hA
  obtain ⟨v1, vs1, d1, ds1, p1, q1, rfl, rfl, rfl, h1, r1⟩ := trodAll_cons r0
  obtain ⟨rfl, rfl, rfl⟩ := trodAll_nil r1
  obtain rfl : args = #[v0, v1] := by cases args; simp_all
  obtain ⟨rfl, rfl⟩ := trodVars_none hV
  clear hA0 hval0
  simp only [List.append_nil] at hW'
  have hlt : ∀ x ∈ p0 ++ p1, x.block < W.heap.size := fun x hx => by
    apply hW'.lt x
    simpa using hx
  obtain ⟨a0, n0, s0, z0⟩ := open_nodes (hval 0 23 v0 rfl rfl) h0
  obtain ⟨a1, n1, s1, z1⟩ := open_nodes (hval 1 23 v1 rfl rfl) h1
  refine (walk W v0 a0 n0 s0 z0 v1 a1 n1 s1 z1).mono fun e W' ⟨he, hg⟩ => ?_
  subst he
  exact ⟨_, rfl, post_kept (pv := []) hW' (fun _ => (trodAll_cons_mk (shut_bool Try.underlying4 _) trodAll_mk0)) (trodAll_cons_mk (Below.trod laid (by kernel_rfl) (of_decide_eq_true (by kernel_rfl)) h0 hg (fun x hx => hlt x (by simp [hx]))) (trodAll_cons_mk (Below.trod laid (by kernel_rfl) (of_decide_eq_true (by kernel_rfl)) h1 hg (fun x hx => hlt x (by simp [hx]))) trodAll_mk0)) rfl hg⟩

theorem over : Rows.treeApartRow.holds Try.pinned (OpenSpec.ofChange Rows.treeApartSpec) :=
  OpenClaim.holds_of_wide 7 Try.f7 rfl rfl rfl rfl rfl rfl rfl ⟨rfl, rfl, rfl, rfl, rfl⟩ rfl rfl rfl rfl rfl (by kernel_rfl) Try.func7 (by kernel_rfl)
    (of_decide_eq_true (by kernel_rfl)) (by unfold Func.isWrapper; first | (rw [if_pos (by decide +kernel)]; kernel_rfl) | (rw [if_neg (by decide +kernel)]; exact ⟨rfl, rfl⟩))
    (fun os started H enc _ => lifted os started H enc)

theorem proved : Rows.TreeApartSaid :=
  over
#print axioms proved
end Go.Proofs.Ytmggedjolocgdaa.treeApart
