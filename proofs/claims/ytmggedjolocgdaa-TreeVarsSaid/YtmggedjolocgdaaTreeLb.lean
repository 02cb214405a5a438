/- Some answers that the document gives are what the program returns. Conditions: none. -/
import Derived.Test.YtmggedjolocgdaaTreeLa
import Derived.Test.YtmggedjolocgdaaTreeB
namespace Go.Proofs.Ytmggedjolocgdaa.Tr
open Go.ChangeShapes Go.WideShapes Go.ChangeAt Go.RowKit
set_option linter.unusedVariables false
set_option linter.unusedSimpArgs false

attribute [local go_sem ↓] neq_nd eql_nd guard_nd
theorem kids_c5 : kidsM ⟨28, 4, 1, -1, 0, []⟩ = [1, 4] := by decide
theorem short_ee : Short (normB ee) := by
  rw [live_ee.2.1]
  intro x hx
  have : x.name.length ≤ 1 := by revert x; decide
  unfold maxLen; omega
theorem short_ec : Short (normB ec) := by
  rw [live_ec.2.1]
  intro x hx
  have : x.name.length ≤ 1 := by revert x; decide
  unfold maxLen; omega
theorem depth_lit (v : Value) (e : List Nd) (d : Nat) (w : World) (hv : Nodes w v e) (hn : e.length ≤ 100000) (h : depthM e = d) : Calls Try.prog 18 #[v] w fun r w' => r = .returned (.int .i64 (d : Int)) ∧ Below w.heap.size w w' := by rw [← h]; exact depth_any v e w hv hn
theorem same_lit (u v : Value) (l m : List Nd) (b : Bool) (w : World) (hu : Nodes w u l) (hv : Nodes w v m) (h : decide (l = m) = b) : Calls Try.prog 20 #[u, v] w fun e w' => e = .returned (.bool b) ∧ ∃ n, w' = w.drewN n := by rw [← h]; exact same_any u v l m w hu hv
theorem texts_lit (u v : Value) (l m : List Bytes) (b : Bool) (w : World) (hu : Strs w u l) (hv : Strs w v m) (h : decide (l = m) = b) : Calls Try.prog 23 #[u, v] w fun e w' => e = .returned (.bool b) ∧ ∃ n, w' = w.drewN n := by rw [← h]; exact texts_any u v l m w hu hv
set_option maxRecDepth 100000 in
set_option maxHeartbeats 2000000 in
theorem live_any (w : World) : Calls Try.prog 12 #[] w fun r w' => r = .returned (.bool true) ∧ Below w.heap.size w w' := by
  go_enter Try.func12, Try.ntmps12
  go_wp2_with fail
  refine (join_any _ [] 3 0 [97] _ (parts_none _) (by decide)).mono ?_
  rintro r w1 ⟨va, rfl, hoa, hb1⟩
  rw [live_a] at hoa
  obtain ⟨ga, ca, rfl, a1, a2, hga, _⟩ := own_nd hoa (i := 0) (x := ⟨3, -1, -1, -1, 0, [97]⟩) (by rfl)
  have hla : ea.length = 1 := rfl
  rw [hla] at a1 ⊢
  unfold maxLen at a2
  have HOA := Lib.hid hoa
  have HB1 := Lib.hid hb1
  have hs1 := hb1.size
  clear hoa hb1
  go_wp2_with fail
  refine (join_any _ [] 1 7 [] _ (parts_none _) (by decide)).mono ?_
  rintro r w2 ⟨vb, rfl, hob, hb2⟩
  rw [live_b] at hob
  obtain ⟨gb, cb, rfl, b1, b2, hgb, _⟩ := own_nd hob (i := 0) (x := ⟨1, -1, -1, -1, 7, []⟩) (by rfl)
  have hlb : eb.length = 1 := rfl
  rw [hlb] at b1 ⊢
  unfold maxLen at b2
  have HNA := Lib.hid ((Nodes.of_own HOA.out).below hb2 (Nat.le_refl _))
  have HNB := Lib.hid (Nodes.of_own hob)
  have HB2 := Lib.hid (HB1.out.trans (hb2.mono hs1))
  have hs2 := HB2.out.size
  clear hob hb2
  go_wp2_with fail
  refine (join_any _ [ea, eb] 13 0 [] _ (parts_two HNA.out HNB.out) (by decide)).mono ?_
  rintro r w3 ⟨ve, rfl, hoe, hb3⟩
  rw [live_e] at hoe
  obtain ⟨ge, ce, rfl, e1, e2, hge, _⟩ := own_nd hoe (i := 2) (x := ⟨13, 0, 1, -1, 0, []⟩) (by rfl)
  have hle : ee.length = 3 := rfl
  rw [hle] at e1 ⊢
  unfold maxLen at e2
  have hbb3 := (below_new w2 (.cells #[.slice (some ⟨ga, 0, none⟩) 1 ca, .slice (some ⟨gb, 0, none⟩) 1 cb] 23)).trans (hb3.mono (by simp))
  have HNA3 := Lib.hid (HNA.out.below hbb3 (Nat.le_refl _))
  have HOE := Lib.hid hoe
  have HB3 := Lib.hid (HB2.out.trans (hbb3.mono hs2))
  have hs3 := HB3.out.size
  clear hoe hb3 hbb3
  go_wp2_with fail
  refine (join_any _ [ea, ee] 27 0 [102] _ (parts_two HNA3.out (Nodes.of_own HOE.out)) (by decide)).mono ?_
  rintro r w4 ⟨vc, rfl, hoc, hb4⟩
  rw [live_c] at hoc
  have hbb4 := (below_new w3 (.cells #[.slice (some ⟨ga, 0, none⟩) 1 ca, .slice (some ⟨ge, 0, none⟩) 3 ce] 23)).trans (hb4.mono (by simp))
  have HOE4 := Lib.hid (own_below HOE.out hbb4)
  have HNA4 := Lib.hid (HNA3.out.below hbb4 (Nat.le_refl _))
  have HOC := Lib.hid hoc
  have HB4 := Lib.hid (HB3.out.trans (hbb4.mono hs3))
  have hs4 := HB4.out.size
  obtain ⟨gc, cc, rfl, d1, d2, hgc, _⟩ := own_nd HOC.out (i := 6) (x := ⟨27, 5, -1, -1, 0, [102]⟩) (by rfl)
  clear hoc hb4 hbb4
  have hlc : ec.length = 7 := rfl
  rw [hlc] at d1 ⊢
  unfold maxLen at d2
  have HNC4 := Lib.hid (Nodes.of_own HOC.out)
  have HNC5 := Lib.hid (HNC4.out.below (below_new w4 (.cells #[.string (str [97])] 9)) (Nat.le_refl _))
  have HST5 := Lib.hid ((strs_one w4 [97]).below (below_new _ (.cells #[.slice (some ⟨gc, 0, none⟩) 7 cc] 23)) (Nat.le_refl _))
  have HNE5 := Lib.hid (((Nodes.of_own HOE4.out).below (below_new w4 (.cells #[.string (str [97])] 9)) (Nat.le_refl _)).below (below_new _ (.cells #[.slice (some ⟨gc, 0, none⟩) 7 cc] 23)) (Nat.le_refl _))
  go_wp2_with fail
  have h97 : ∀ s ∈ [([97] : Bytes)], s.length ≤ maxLen := by intro s hs; simp at hs; subst hs; unfold maxLen; simp
  have hcall := put_any _ _ _ ee [[97]] [ec] _ HNE5.out HST5.out (parts_one HNC5.out) h97 short_ee (by decide) (by decide) live_room
  have hs97 : str [97] = ⟨#[97]⟩ := rfl
  have hz97 : (w4.alloc (.cells #[.string (str [97])] 9)).heap.size = w4.heap.size + 1 := by simp
  rw [hz97, hle, hs97] at hcall
  have HCALL := Lib.hid hcall
  clear hcall
  refine HCALL.out.mono ?_
  rintro r w5 ⟨vp, rfl, hop, hb5⟩
  have hpn : (putM ee [[97]] [ec]).length = 9 := live_p
  obtain ⟨Ap, cp, rfl, p1, p2, _⟩ := Nodes.of_own hop
  rw [hpn] at p1 ⊢
  unfold maxLen at p2
  have hbb5 := ((below_new w4 (.cells #[.string (str [97])] 9)).alloc (by simp) (.cells #[.slice (some ⟨gc, 0, none⟩) 7 cc] 23)).trans (hb5.mono (by simp; omega))
  have HOE5 := Lib.hid (own_below HOE4.out hbb5)
  have HOC5 := Lib.hid (own_below HOC.out hbb5)
  have HNA5 := Lib.hid (HNA4.out.below hbb5 (Nat.le_refl _))
  have HB5 := Lib.hid (HB4.out.trans (hbb5.mono hs4))
  have hs5 := HB5.out.size
  clear hop hb5 hbb5 hpn
  go_wp2_with fail
  refine (join_any _ [ea] 13 0 [] _ (parts_one HNA5.out) (by decide)).mono ?_
  rintro r w6 ⟨vn, rfl, hon, hb6⟩
  rw [live_n] at hon
  obtain ⟨An, cn, rfl, n1, n2, _⟩ := Nodes.of_own hon
  have hbb6 := (below_new w5 (.cells #[.slice (some ⟨ga, 0, none⟩) 1 ca] 23)).trans (hb6.mono (by simp))
  have HOE6 := Lib.hid (own_below HOE5.out hbb6)
  have HOC6 := Lib.hid (own_below HOC5.out hbb6)
  have HB6 := Lib.hid (HB5.out.trans (hbb6.mono hs5))
  have hs6 := HB6.out.size
  unfold maxLen at n2
  simp only [List.length_nil] at n1 ⊢
  obtain ⟨ge', ce', q1, _, _, hge6, E⟩ := own_nd HOE6.out (i := 2) (x := ⟨13, 0, 1, -1, 0, []⟩) (by rfl)
  simp only [Value.slice.injEq, Option.some.injEq, Addr.mk.injEq, and_true, true_and] at q1
  obtain ⟨rfl, -, rfl⟩ := q1
  obtain ⟨gc', cc', q1, _, _, hgc6, F⟩ := own_nd HOC6.out (i := 6) (x := ⟨27, 5, -1, -1, 0, [102]⟩) (by rfl)
  simp only [Value.slice.injEq, Option.some.injEq, Addr.mk.injEq, and_true, true_and] at q1
  obtain ⟨rfl, -, rfl⟩ := q1
  obtain ⟨gc', cc', q1, _, _, _, G⟩ := own_nd HOC6.out (i := 5) (x := ⟨28, 4, 1, -1, 0, []⟩) (by rfl)
  simp only [Value.slice.injEq, Option.some.injEq, Addr.mk.injEq, and_true, true_and] at q1
  obtain ⟨rfl, -, rfl⟩ := q1
  clear hon hb6 hbb6
  have E0 := E 0 (by omega)
  have E1 := E 1 (by omega)
  have E2 := E 2 (by omega)
  have E3 := E 3 (by omega)
  have E4 := E 4 (by omega)
  have E5 := E 5 (by omega)
  have F0 := F 0 (by omega)
  have F1 := F 1 (by omega)
  have F2 := F 2 (by omega)
  have F3 := F 3 (by omega)
  have F4 := F 4 (by omega)
  have F5 := F 5 (by omega)
  have G0 := G 0 (by omega)
  have G1 := G 1 (by omega)
  have G2 := G 2 (by omega)
  have G3 := G 3 (by omega)
  have G4 := G 4 (by omega)
  have G5 := G 5 (by omega)
  simp [ndCells] at E0 E1 E2 E3 E4 E5 F0 F1 F2 F3 F4 F5 G0 G1 G2 G3 G4 G5
  have hs0 : str [] = ⟨#[]⟩ := rfl
  have hs102 : str [102] = ⟨#[102]⟩ := rfl
  rw [hs0] at E5 G5
  rw [hs102] at F5
  have k1 : ndB 13 0 1 (-1) 0 13 0 1 (-1) 0 ⟨#[]⟩ ⟨#[]⟩ = true := by rw [← hs0]; exact (ndB_str ⟨13, 0, 1, -1, 0, []⟩ ⟨13, 0, 1, -1, 0, []⟩).trans (by decide)
  have k2 : ndB 27 5 (-1) (-1) 0 27 5 (-1) (-1) 0 ⟨#[102]⟩ ⟨#[102]⟩ = true := by rw [← hs102]; exact (ndB_str ⟨27, 5, -1, -1, 0, [102]⟩ ⟨27, 5, -1, -1, 0, [102]⟩).trans (by decide)
  have k3 : ndB 28 4 1 (-1) 0 28 4 1 (-1) 0 ⟨#[]⟩ ⟨#[]⟩ = true := by rw [← hs0]; exact (ndB_str ⟨28, 4, 1, -1, 0, []⟩ ⟨28, 4, 1, -1, 0, []⟩).trans (by decide)
  clear E F G hs0 hs102
  go_wp2_with fail
  refine (may_lit _ ec true _ (by exact Nodes.of_own HOC6.out) live_ec.1).mono ?_
  rintro r w7 ⟨rfl, hb7⟩
  have HOE7 := Lib.hid (own_below HOE6.out hb7)
  have HOC7 := Lib.hid (own_below HOC6.out hb7)
  have HB7 := Lib.hid (HB6.out.trans (hb7.mono hs6))
  have hs7 := HB7.out.size
  clear hb7
  go_wp2_with fail
  refine (depth_lit _ ee 2 _ (by exact Nodes.of_own HOE7.out) (by decide) live_ee.2.2).mono ?_
  rintro r w8 ⟨rfl, hb8⟩
  have HOE8 := Lib.hid (own_below HOE7.out hb8)
  have HOC8 := Lib.hid (own_below HOC7.out hb8)
  have HB8 := Lib.hid (HB7.out.trans (hb8.mono hs7))
  have hs8 := HB8.out.size
  clear hb8
  go_wp2_with fail
  refine (sub_any _ ec 4 _ (by exact Nodes.of_own HOC8.out)).mono ?_
  rintro r w9 ⟨vs, rfl, hos, hb9⟩
  rw [live_s] at hos
  have HOS := Lib.hid hos
  have HOE9 := Lib.hid (own_below HOE8.out hb9)
  have HOC9 := Lib.hid (own_below HOC8.out hb9)
  have HB9 := Lib.hid (HB8.out.trans (hb9.mono hs8))
  have hs9 := HB9.out.size
  clear hos hb9
  go_wp2_with fail
  refine (same_lit _ _ ee ee true _ (by exact Nodes.of_own HOS.out) (by exact Nodes.of_own HOE9.out) (by simp)).mono ?_
  rintro r w10 ⟨rfl, n1, rfl⟩
  go_wp2_with fail
  refine (vars_any _ ec _ (by exact Nodes.of_own HOC9.out) short_ec (by decide) (by rw [live_ec.2.1]; decide)).mono ?_
  rintro r w11 ⟨vv, rfl, hov, hb11⟩
  rw [live_v] at hov
  have hb11' : Below w9.heap.size w9 w11 := (below_drewN (Below.refl _ _) n1).trans hb11
  have HOV := Lib.hid hov
  have HOC11 := Lib.hid (own_below HOC9.out hb11')
  have HB11 := Lib.hid (HB9.out.trans (hb11'.mono hs9))
  have hs11 := HB11.out.size
  clear hov hb11 hb11'
  go_wp2_with fail
  have hcall := texts_lit vv _ [[97]] [[97]] true _ ((Strs.of_own HOV.out).below (below_new w11 (.cells #[.string (str [97])] 9)) (Nat.le_refl _)) (strs_one w11 [97]) (by simp)
  have hs97 : str [97] = ⟨#[97]⟩ := rfl
  rw [hs97] at hcall
  have HC2 := Lib.hid hcall
  clear hcall hs97
  refine HC2.out.mono ?_
  rintro r w12 ⟨rfl, n2, rfl⟩
  have HOC12 := Lib.hid (own_below HOC11.out (below_drewN (below_new w11 (.cells #[.string ⟨#[97]⟩] 9)) n2))
  have HB12 := Lib.hid (HB11.out.trans ((below_drewN (below_new w11 (.cells #[.string ⟨#[97]⟩] 9)) n2).mono hs11))
  obtain ⟨gc', cc', q1, _, _, hgc12, G⟩ := own_nd HOC12.out (i := 5) (x := ⟨28, 4, 1, -1, 0, []⟩) (by rfl)
  simp only [Value.slice.injEq, Option.some.injEq, Addr.mk.injEq, and_true, true_and] at q1
  obtain ⟨rfl, -, rfl⟩ := q1
  have J0 := G 0 (by omega)
  have J1 := G 1 (by omega)
  have J2 := G 2 (by omega)
  have J3 := G 3 (by omega)
  have J4 := G 4 (by omega)
  have J5 := G 5 (by omega)
  simp [ndCells] at J0 J1 J2 J3 J4 J5
  have hs0 : str [] = ⟨#[]⟩ := rfl
  rw [hs0] at J5
  clear G hs0
  go_wp2_with fail
  refine (kids_any ⟨28, 4, 1, -1, 0, []⟩ _).mono ?_
  rintro r w13 ⟨kv, rfl, hok, hb13⟩
  rw [kids_c5] at hok
  obtain ⟨A13, c13, rfl, z1, z2, _⟩ := Ints.of_own hok
  simp only [List.length_cons, List.length_nil] at z1 ⊢
  unfold maxLen at z2
  have HB13 := Lib.hid (HB12.out.trans (hb13.mono HB12.out.size))
  clear hok hb13
  go_wp2
  go_ret
  exact ⟨rfl, HB13.out⟩
end Go.Proofs.Ytmggedjolocgdaa.Tr
