/- The document writes the same text: the walk. Conditions: none. -/
import Derived.Test.YtgohhnbdicdenaaGreatDoorPx28
import Derived.Test.YtgohhnbdicdenaaGreatDoorPq24
namespace Go.Proofs.YtgohhnbdicdenaaGreatDoor.showWrites
open Go.ChangeShapes Go.WideShapes Go.ChangeAt Go.RowKit
open Go.Proofs.YtgohhnbdicdenaaGreatDoor.Sh
open Go.Proofs.YtgohhnbdicdenaaGreatDoor.Tr (str ret_bool ret_int Bytes Nd T Nodes May tree mayB Short root normM normB NodesPost)
set_option linter.unusedVariables false
set_option linter.unusedSimpArgs false

set_option maxRecDepth 100000 in
set_option maxHeartbeats 4000000 in
theorem walk (w : World) (hw : ShAt w) (v : Value) (a : List Nd) (hv : Nodes w v a) (hs : Short a) (i : Int) : Calls Tryz.prog 3 #[v, .int .i64 i] w fun r w' => r = .returned (.bool true) ∧ Below w.heap.size w w' := by
  have HV := Lib.hid hv
  have HS := Lib.hid hs
  have HW := Lib.hid hw
  obtain ⟨A, c, rfl, h1, h2, hA⟩ := hv
  unfold maxLen at h2
  clear hA hs hw
  by_cases hl : (a.length : Int) ≤ 300
  rotate_left
  · have hd : decide ((300 : Int) < (a.length : Int)) = true := by simpa using hl
    have hd2 : 300 < a.length := by omega
    clear hl
    go_enter Tryz.func3, Tryz.ntmps3
    go_wp2_with fail
    refine (live_any _ HW.out).mono ?_
    rintro r w1 ⟨rfl, hb1⟩
    have HB1 := Lib.hid hb1
    clear hb1
    go_wp2
    go_ret
    exact ⟨rfl, HB1.out⟩
  have hd : decide ((300 : Int) < (a.length : Int)) = false := by simpa using hl
  have hd2 : ¬ 300 < a.length := by omega
  have hlen : a.length ≤ 2000 := by omega
  have HP : Hid (∀ w1, Below w.heap.size w w1 → Calls Tryz.prog 10 #[.slice A a.length c] w1 fun r w' => r = .returned (.string (str (showM a))) ∧ Below w1.heap.size w1 w') := Lib.hid (fun w1 h => show_any _ a w1 (HV.out.below h (Nat.le_refl _)) HS.out (HW.out.below h))
  have HQ : Hid (∀ w1, Below w.heap.size w w1 → Calls Tryz.prog 11 #[.slice A a.length c] w1 fun r w' => r = .returned (.string (str (showM a))) ∧ Below w1.heap.size w1 w') := Lib.hid (fun w1 h => rshow_any _ a w1 (HV.out.below h (Nat.le_refl _)) HS.out (HW.out.below h) hlen)
  have HP2 : Hid (∀ w1, Below w.heap.size w w1 → Calls Tryz.prog 12 #[.slice A a.length c] w1 fun r w' => r = .returned (.bool (smayB a)) ∧ Below w1.heap.size w1 w') := Lib.hid (fun w1 h => smay_any _ a w1 (HV.out.below h (Nat.le_refl _)) HS.out)
  have HQ2 : Hid (∀ w1, Below w.heap.size w w1 → Calls Tryz.prog 13 #[.slice A a.length c] w1 fun r w' => r = .returned (.bool (smayB a)) ∧ Below w1.heap.size w1 w') := Lib.hid (fun w1 h => rsmay_any _ a w1 (HV.out.below h (Nat.le_refl _)) HS.out)
  have HP3 : Hid (∀ w1, Below w.heap.size w w1 → Calls Tryz.prog 14 #[.int .i64 i] w1 fun r w' => r = .returned (.string (str (opText i))) ∧ Below w1.heap.size w1 w') := Lib.hid (fun w1 h => op_any i w1 (HW.out.below h).sg)
  have HQ3 : Hid (∀ w1, Calls Tryz.prog 15 #[.int .i64 i] w1 fun r w' => r = .returned (.string (str (opText i))) ∧ Below w1.heap.size w1 w') := Lib.hid (fun w1 => rop_any i w1)
  have HP4 : Hid (∀ w1, Below w.heap.size w w1 → Calls Tryz.prog 16 #[.int .i64 i] w1 fun r w' => r = .returned (.int .i64 (levM i)) ∧ Below w1.heap.size w1 w') := Lib.hid (fun w1 h => level_any i w1 (HW.out.below h).sg)
  have HQ4 : Hid (∀ w1, Calls Tryz.prog 17 #[.int .i64 i] w1 fun r w' => r = .returned (.int .i64 (levM i)) ∧ Below w1.heap.size w1 w') := Lib.hid (fun w1 => rlevel_any i w1)
  generalize showM a = T1 at HP HQ
  generalize smayB a = T2 at HP2 HQ2
  generalize opText i = T3 at HP3 HQ3
  generalize levM i = T4 at HP4 HQ4
  have e2 : (T2 == T2) = true := by simp
  have e4 : (T4 == T4) = true := by simp
  clear hl hlen
  go_enter Tryz.func3, Tryz.ntmps3
  go_wp2_with fail
  refine (HP.out _ (Below.refl _ _)).mono ?_
  rintro r w1 ⟨rfl, hb1⟩
  have HB1 := Lib.hid hb1
  clear hb1
  go_wp2_with fail
  refine (HQ.out _ HB1.out).mono ?_
  rintro r w2 ⟨rfl, hb2⟩
  have HB2 := Lib.hid (bt HB1.out hb2)
  clear hb2
  go_wp2_with fail
  refine (HP2.out _ HB2.out).mono ?_
  rintro r w3 ⟨rfl, hb3⟩
  have HB3 := Lib.hid (bt HB2.out hb3)
  clear hb3
  go_wp2_with fail
  refine (HQ2.out _ HB3.out).mono ?_
  rintro r w4 ⟨rfl, hb4⟩
  have HB4 := Lib.hid (bt HB3.out hb4)
  clear hb4
  go_wp2_with fail
  refine (HP3.out _ HB4.out).mono ?_
  rintro r w5 ⟨rfl, hb5⟩
  have HB5 := Lib.hid (bt HB4.out hb5)
  clear hb5
  go_wp2_with fail
  refine (HQ3.out _).mono ?_
  rintro r w6 ⟨rfl, hb6⟩
  have HB6 := Lib.hid (bt HB5.out hb6)
  clear hb6
  go_wp2_with fail
  refine (HP4.out _ HB6.out).mono ?_
  rintro r w7 ⟨rfl, hb7⟩
  have HB7 := Lib.hid (bt HB6.out hb7)
  clear hb7
  go_wp2_with fail
  refine (HQ4.out _).mono ?_
  rintro r w8 ⟨rfl, hb8⟩
  have HB8 := Lib.hid (bt HB7.out hb8)
  clear hb8
  go_wp2_with fail
  refine (live_any _ (HW.out.below HB8.out)).mono ?_
  rintro r w9 ⟨rfl, hb9⟩
  have HB9 := Lib.hid (bt HB8.out hb9)
  clear hb9
  go_wp2
  go_ret
  exact ⟨rfl, HB9.out⟩
end Go.Proofs.YtgohhnbdicdenaaGreatDoor.showWrites
