/- ExprRound's walk: round signs around an expression change nothing. Conditions: none. -/
import Derived.Test.YtgohhnbdicdenaaDoorPk28
import Derived.Test.YtgohhnbdicdenaaDoorPk07
namespace Go.Proofs.YtgohhnbdicdenaaDoor.exprRound
open Go.ChangeShapes Go.WideShapes Go.ChangeAt Go.RowKit
open Go.Proofs.YtgohhnbdicdenaaDoor.Ex
open Go.Proofs.YtgohhnbdicdenaaDoor.Tr (str ret_bool ret_int Bytes Nd Nodes mayB rmay_lit may_yes)
set_option linter.unusedVariables false
set_option linter.unusedSimpArgs false
theorem around (s : ByteArray) : ((ByteArray.mk #[40]) ++ s ++ (ByteArray.mk #[10, 41])).toList = 40 :: (s.toList ++ [10, 41]) := by
  rw [Lx.app_toList, Lx.app_toList, show (ByteArray.mk #[40]) = str [40] from rfl, show (ByteArray.mk #[10, 41]) = str [10, 41] from rfl, Tr.str_toList, Tr.str_toList]; simp
set_option maxRecDepth 100000 in
set_option maxHeartbeats 4000000 in
theorem walk (s : ByteArray) (hs : s.size ≤ maxLen) (w : World) (hv : Ex.VarAt w w.heap.size) : Calls Tryd.prog 3 #[.string s] w fun r w' => r = .returned (.bool true) ∧ Below w.heap.size w w' := by
  have HV := Lib.hid hv
  have HM := Lib.hid hs
  unfold maxLen at hs
  clear hv
  by_cases hbig : s.size ≤ 1500
  rotate_left
  · go_enter Tryd.func3, Tryd.ntmps3
    go_wp2_with fail
    refine (live_any _ HV.out).mono ?_
    rintro r w1 ⟨rfl, hb⟩
    go_wp2
    go_ret
    exact ⟨rfl, hb⟩
  obtain ⟨E, C, A, hX⟩ : ∃ E C A, readM s.toList = (E, C, A) := ⟨_, _, _, rfl⟩
  have HX := Lib.hid hX
  by_cases hC : C = 0
  rotate_left
  · obtain rfl : E = [] := by have := read_bad (s := s.toList) (by rw [hX]; exact hC); rw [hX] at this; exact this
    have hcn : (C != 0) = true := by simpa using hC
    clear hX hC
    go_enter Tryd.func3, Tryd.ntmps3
    go_wp2_with fail
    refine (read_at HX.out HM.out HV.out).mono ?_
    rintro r w1 ⟨v1, rfl, hp1, hb1⟩
    obtain ⟨⟨A1, c1, hv1, y1, y2, _⟩, _⟩ := hp1
    simp only at hv1
    subst hv1
    simp only [List.length_nil] at y1 ⊢
    unfold maxLen at y2
    have HB1 := Lib.hid (hb1.alloc hb1.size (.cells #[.int .i64 C, .int .i64 A] 27))
    clear hb1
    go_wp2_with fail
    refine (live_any _ (HV.out.up HB1.out)).mono ?_
    rintro r w2 ⟨rfl, hb2⟩
    go_wp2
    go_ret
    exact ⟨rfl, HB1.out.trans (hb2.mono HB1.out.size)⟩
  subst hC
  obtain ⟨E2, C2, A2, hX2⟩ : ∃ E C A, readM (40 :: (s.toList ++ [10, 41])) = (E, C, A) := ⟨_, _, _, rfl⟩
  have hlaw := round_law (s := s.toList) (by rw [Lx.toList_len]; exact hbig) (by rw [hX])
  rw [hX, hX2] at hlaw
  obtain ⟨hmay, hlaw⟩ := hlaw
  simp only at hmay hlaw
  have HMAY := Lib.hid (may_yes hmay)
  have HX2 : Hid (readM ((ByteArray.mk #[40]) ++ s ++ (ByteArray.mk #[10, 41])).toList = (E2, C2, A2)) := Lib.hid (by rw [around]; exact hX2)
  have HM2 : Hid (((ByteArray.mk #[40]) ++ s ++ (ByteArray.mk #[10, 41])).size ≤ maxLen) := Lib.hid (by
    rw [← Lx.toList_len, around]; simp only [List.length_cons, List.length_append, Lx.toList_len, List.length_nil]; unfold maxLen; omega)
  clear hX hX2 hmay
  have HLAW := Lib.hid hlaw
  clear hlaw
  go_enter Tryd.func3, Tryd.ntmps3
  go_wp2_with fail
  refine (read_at HX.out HM.out HV.out).mono ?_
  rintro r w1 ⟨v1, rfl, hp1, hb1⟩
  have HP1 := Lib.hid hp1
  obtain ⟨⟨A1, c1, hv1, y1, y2, _⟩, _⟩ := hp1
  simp only at hv1
  subst hv1
  simp only at y1 ⊢
  unfold maxLen at y2
  have HB1 := Lib.hid (hb1.alloc hb1.size (.cells #[.int .i64 0, .int .i64 A] 27))
  have hs1 := HB1.out.size
  clear hb1
  go_wp2_with fail
  refine (read_at HX2.out HM2.out (HV.out.up HB1.out)).mono ?_
  rintro r w2 ⟨v2, rfl, hp2, hb2⟩
  have HP2 := Lib.hid hp2
  obtain ⟨⟨A2', c2, hv2, y3, y4, _⟩, _⟩ := hp2
  simp only at hv2
  subst hv2
  simp only at y3 ⊢
  unfold maxLen at y4
  have HB2 := Lib.hid ((HB1.out.trans (hb2.mono hs1)).alloc (Nat.le_trans hs1 hb2.size) (.cells #[.int .i64 C2, .int .i64 A2] 27))
  have hs2 := HB2.out.size
  have HP12 := Lib.hid (((HP1.out.below (below_new w1 (.cells #[.int .i64 0, .int .i64 A] 27))).below hb2).below (below_new w2 (.cells #[.int .i64 C2, .int .i64 A2] 27)))
  have HP22 := Lib.hid (HP2.out.below (below_new w2 (.cells #[.int .i64 C2, .int .i64 A2] 27)))
  clear hb2
  by_cases h6 : C2 = 6
  · have hd6 : (C2 == 6) = true := by simpa using h6
    clear h6
    go_wp2_with fail
    refine (rmay_lit _ E true _ HP12.out.1 HMAY.out).mono ?_
    rintro r w3 ⟨rfl, hb3⟩
    have HB3 := Lib.hid (HB2.out.trans (hb3.mono hs2))
    clear hb3
    go_wp2_with fail
    refine (live_any _ (HV.out.up HB3.out)).mono ?_
    rintro r w4 ⟨rfl, hb4⟩
    go_wp2
    go_ret
    exact ⟨rfl, HB3.out.trans (hb4.mono HB3.out.size)⟩
  · obtain ⟨hc0, hE⟩ := HLAW.out.resolve_left h6
    subst hc0
    subst hE
    clear h6
    go_wp2_with fail
    refine (Tr.same_any _ _ E2 E2 _ HP12.out.1 HP22.out.1).mono ?_
    rw [decide_eq_true rfl]
    rintro r w3 ⟨rfl, n3, rfl⟩
    go_wp2_with fail
    refine (rmay_lit _ E2 true _ (HP12.out.1.drewN n3) HMAY.out).mono ?_
    rintro r w4 ⟨rfl, hb4⟩
    have HB4 := Lib.hid ((Tr.below_drewN HB2.out n3).trans (hb4.mono hs2))
    clear hb4
    go_wp2_with fail
    refine (live_any _ (HV.out.up HB4.out)).mono ?_
    rintro r w5 ⟨rfl, hb5⟩
    go_wp2
    go_ret
    exact ⟨rfl, HB4.out.trans (hb5.mono HB4.out.size)⟩
end Go.Proofs.YtgohhnbdicdenaaDoor.exprRound
