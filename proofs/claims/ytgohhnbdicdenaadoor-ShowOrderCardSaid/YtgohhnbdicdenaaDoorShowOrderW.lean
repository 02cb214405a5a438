/- An expression, and it in order, are written alike: the walk. Conditions: none. -/
import Derived.Test.YtgohhnbdicdenaaDoorPq24
import Derived.Test.YtgohhnbdicdenaaDoorPk07
namespace Go.Proofs.YtgohhnbdicdenaaDoor.showOrder
open Go.ChangeShapes Go.WideShapes Go.ChangeAt Go.RowKit
open Go.Proofs.YtgohhnbdicdenaaDoor.Sh
open Go.Proofs.YtgohhnbdicdenaaDoor.Tr (str ret_bool ret_int Bytes Nd T Nodes May tree mayB Short root normM normB NodesPost)
set_option linter.unusedVariables false
set_option linter.unusedSimpArgs false

set_option maxRecDepth 100000 in
set_option maxHeartbeats 4000000 in
theorem walk (w : World) (hw : ShAt w) (v : Value) (a : List Nd) (hv : Nodes w v a) (hs : Short a) : Calls Tryd.prog 9 #[v] w fun r w' => r = .returned (.bool true) ∧ Below w.heap.size w w' := by
  have HV := Lib.hid hv
  have HS := Lib.hid hs
  have HW := Lib.hid hw
  have HMY := Lib.hid (Tr.rmay_any v a w hv)
  obtain ⟨A, c, rfl, h1, h2, hA⟩ := hv
  unfold maxLen at h2
  clear hA hs hw
  by_cases hl : (a.length : Int) ≤ 300
  rotate_left
  · have hd : decide ((300 : Int) < (a.length : Int)) = true := by simpa using hl
    have hd2 : 300 < a.length := by omega
    clear hl
    go_enter Tryd.func9, Tryd.ntmps9
    go_wp2_with fail
    refine (live_any _ HW.out).mono ?_
    rintro r w1 ⟨rfl, hb1⟩
    have HB1 := Lib.hid hb1
    clear hb1
    go_wp2
    go_ret
    exact ⟨rfl, HB1.out⟩
  have hd : decide ((300 : Int) < (a.length : Int)) = false := by simpa using hl
  have hd2 : ¬ 300 < a.length := by omega
  clear hl
  rcases Bool.eq_false_or_eq_true (mayB a) with hm | hm
  rotate_left
  · rw [hm] at HMY
    clear hm
    go_enter Tryd.func9, Tryd.ntmps9
    go_wp2_with fail
    refine HMY.out.mono ?_
    rintro r w1 ⟨rfl, hb1⟩
    have HB1 := Lib.hid hb1
    clear hb1
    go_wp2_with fail
    refine (live_any _ (HW.out.below HB1.out)).mono ?_
    rintro r w2 ⟨rfl, hb2⟩
    have HB2 := Lib.hid (HB1.out.trans (hb2.mono HB1.out.size))
    clear hb2
    go_wp2
    go_ret
    exact ⟨rfl, HB2.out⟩
  have HM := Lib.hid (Tr.may_of hm)
  rw [hm] at HMY
  obtain ⟨T, hT⟩ : ∃ T, showM a = T := ⟨_, rfl⟩
  have HT := Lib.hid hT
  have HT2 := Lib.hid (show showM (normM a) = T from (show_norm HM.out).trans hT)
  clear hm hT
  go_enter Tryd.func9, Tryd.ntmps9
  go_wp2_with fail
  refine HMY.out.mono ?_
  rintro r w1 ⟨rfl, hb1⟩
  have HB1 := Lib.hid hb1
  clear hb1
  go_wp2_with fail
  refine (show_lit (HV.out.below HB1.out (Nat.le_refl _)) HS.out (HW.out.below HB1.out) HT.out).mono ?_
  rintro r w2 ⟨rfl, hb2⟩
  have HB2 := Lib.hid (HB1.out.trans (hb2.mono HB1.out.size))
  clear hb2
  go_wp2_with fail
  refine (norm_lit (HV.out.below HB2.out (Nat.le_refl _)) (norm_eqN HM.out)).mono ?_
  rintro r w3 ⟨u3, rfl, hn3, hb3⟩
  have HB3 := Lib.hid (HB2.out.trans (hb3.mono HB2.out.size))
  have HN3 := Lib.hid hn3
  clear hb3 hn3
  go_wp2_with fail
  refine (show_lit HN3.out (short_norm HM.out HS.out) (HW.out.below HB3.out) HT2.out).mono ?_
  rintro r w4 ⟨rfl, hb4⟩
  have HB4 := Lib.hid (HB3.out.trans (hb4.mono HB3.out.size))
  clear hb4
  go_wp2_with fail
  refine (live_any _ (HW.out.below HB4.out)).mono ?_
  rintro r w5 ⟨rfl, hb5⟩
  have HB5 := Lib.hid (HB4.out.trans (hb5.mono HB4.out.size))
  clear hb5
  go_wp2
  go_ret
  exact ⟨rfl, HB5.out⟩
end Go.Proofs.YtgohhnbdicdenaaDoor.showOrder
