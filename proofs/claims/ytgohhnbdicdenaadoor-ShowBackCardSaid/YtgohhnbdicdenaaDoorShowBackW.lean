/- What is written is read: the walk. Conditions: none. -/
import Derived.Test.YtgohhnbdicdenaaDoorPq24
namespace Go.Proofs.YtgohhnbdicdenaaDoor.showBack
open Go.ChangeShapes Go.WideShapes Go.ChangeAt Go.RowKit
open Go.Proofs.YtgohhnbdicdenaaDoor.Sh
open Go.Proofs.YtgohhnbdicdenaaDoor.Tr (str ret_bool ret_int Bytes Nd T Nodes May tree mayB Short root normM normB NodesPost)
set_option linter.unusedVariables false
set_option linter.unusedSimpArgs false

set_option maxRecDepth 100000 in
set_option maxHeartbeats 4000000 in
theorem walk (w : World) (hw : ShAt w) (v : Value) (a : List Nd) (hv : Nodes w v a) (hs : Short a) : Calls Tryd.prog 7 #[v] w fun r w' => r = .returned (.bool true) ∧ Below w.heap.size w w' := by
  have HV := Lib.hid hv
  have HS := Lib.hid hs
  have HW := Lib.hid hw
  have k5 : (str ([] : Bytes)).toList.isEmpty = true := by rw [Tr.str_toList]; rfl
  obtain ⟨A, c, rfl, h1, h2, hA⟩ := hv
  unfold maxLen at h2
  clear hA hs hw
  by_cases hl : (a.length : Int) ≤ 300
  rotate_left
  · have hd : decide ((300 : Int) < (a.length : Int)) = true := by simpa using hl
    have hd2 : 300 < a.length := by omega
    clear hl
    go_enter Tryd.func7, Tryd.ntmps7
    go_wp2_with fail
    refine (live_any _ HW.out).mono ?_
    rintro r w1 ⟨rfl, hb1⟩
    have HB1 := Lib.hid hb1
    clear hb1
    go_wp2
    go_ret
    exact ⟨rfl, HB1.out⟩
  have hd : decide ((300 : Int) < (a.length : Int)) = false := by simpa using hl
  have hd2 : ¬ 300 < a.length := by omega
  have hlen : a.length ≤ 400 := by omega
  obtain ⟨T, hT⟩ : ∃ T, showM a = T := ⟨_, rfl⟩
  have HT := Lib.hid hT
  cases hm : smayB a with
  | false =>
    have HM := Lib.hid hm
    have hTn : T = [] := by rw [← hT]; exact show_no hm
    subst hTn
    clear hm hT hl
    go_enter Tryd.func7, Tryd.ntmps7
    go_wp2_with fail
    refine (show_lit HV.out HS.out HW.out HT.out).mono ?_
    rintro r w1 ⟨rfl, hb1⟩
    have HB1 := Lib.hid hb1
    clear hb1
    go_wp2_with fail
    refine (smay_lit (HV.out.below HB1.out (Nat.le_refl _)) HS.out HM.out).mono ?_
    rintro r w2 ⟨rfl, hb2⟩
    have HB2 := Lib.hid (HB1.out.trans (hb2.mono HB1.out.size))
    clear hb2
    go_wp2_with fail
    refine (live_any _ (HW.out.below HB2.out)).mono ?_
    rintro r w3 ⟨rfl, hb3⟩
    have HB3 := Lib.hid (HB2.out.trans (hb3.mono HB2.out.size))
    clear hb3
    go_wp2
    go_ret
    exact ⟨rfl, HB3.out⟩
  | true =>
    have HM := Lib.hid hm
    have HMAY := Lib.hid (smay_may hm).1
    have HR : Hid (∀ w1, Calls Tryd.prog 22 #[.string (str T)] w1 (fun r w' => ∃ ev, r = .returned (.tuple #[ev, .agg #[.int .i64 0, .int .i64 0]]) ∧ Nodes w' ev (normM a) ∧ Below w1.heap.size w1 w')) := Lib.hid (fun w1 => by rw [← hT]; exact read_back hm hlen)
    clear hm hT hl
    go_enter Tryd.func7, Tryd.ntmps7
    go_wp2_with fail
    refine (show_lit HV.out HS.out HW.out HT.out).mono ?_
    rintro r w1 ⟨rfl, hb1⟩
    have HB1 := Lib.hid hb1
    clear hb1
    go_wp2_with fail
    refine (smay_lit (HV.out.below HB1.out (Nat.le_refl _)) HS.out HM.out).mono ?_
    rintro r w2 ⟨rfl, hb2⟩
    have HB2 := Lib.hid (HB1.out.trans (hb2.mono HB1.out.size))
    clear hb2
    go_wp2_with fail
    refine (HR.out _).mono ?_
    rintro r w3 ⟨ev, rfl, hn3, hb3⟩
    obtain ⟨A3, c3, rfl, y1, y2, _⟩ := id hn3
    have HB3 := Lib.hid ((HB2.out.trans (hb3.mono HB2.out.size)).alloc (Nat.le_trans HB2.out.size hb3.size) (.cells #[.int .i64 0, .int .i64 0] 27))
    have HN3 := Lib.hid (hn3.below (Tr.below_new w3 (.cells #[.int .i64 0, .int .i64 0] 27)) (Nat.le_refl _))
    clear hb3 hn3
    go_wp2_with fail
    refine (norm_lit (HV.out.below HB3.out (Nat.le_refl _)) (norm_eqN HMAY.out)).mono ?_
    rintro r w4 ⟨u4, rfl, hn4, hb4⟩
    have HN4 := Lib.hid hn4
    have HN34 := Lib.hid (HN3.out.below hb4 (Nat.le_refl _))
    have HB4 := Lib.hid (HB3.out.trans (hb4.mono HB3.out.size))
    clear hb4 hn4
    go_wp2_with fail
    refine (same_lit (b := true) HN34.out HN4.out (by simp)).mono ?_
    rintro r w5 ⟨rfl, hb5⟩
    have HB5 := Lib.hid (HB4.out.trans (hb5.mono HB4.out.size))
    clear hb5
    go_wp2_with fail
    refine (live_any _ (HW.out.below HB5.out)).mono ?_
    rintro r w6 ⟨rfl, hb6⟩
    have HB6 := Lib.hid (HB5.out.trans (hb6.mono HB5.out.size))
    clear hb6
    go_wp2
    go_ret
    exact ⟨rfl, HB6.out⟩
end Go.Proofs.YtgohhnbdicdenaaDoor.showBack
