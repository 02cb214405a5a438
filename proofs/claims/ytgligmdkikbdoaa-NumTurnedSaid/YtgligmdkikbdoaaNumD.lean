/- 'live' of layer num's statements returns true. Conditions: none. -/
import Derived.Test.YtgligmdkikbdoaaNumC
namespace Go.Proofs.Ytgligmdkikbdoaa.Num
open Go.ChangeShapes Go.WideShapes Go.ChangeAt Go.RowKit
set_option linter.unusedVariables false

theorem live_any (w : World) : Calls Try.prog 21 #[] w fun e w' => e = .returned (.bool true) ∧ w = w' := by
  have d1 : doN 17 (-7) 2 0 = (-3, 0) := by decide
  have d2 : doN 18 (-7) 2 0 = (-1, 0) := by decide
  have d3 : doN 14 2147483647 1 0 = (0, 2) := by decide
  have d4 : doN 17 1 0 0 = (0, 3) := by decide
  have d5 : doN 21 1 0 0 = (0, 1) := by decide
  have d6 : doN 26 0 5 6 = (6, 0) := by decide
  have d7 : fitB (-2147483648) = true := by decide
  have d8 : opN 26 = 3 := by decide
  go_enter Try.func21, Try.ntmps21
  go_wp2_with (first | (go_at_call 15; refine (do_any _ _ _ _ _).mono ?_; rintro e w' ⟨rfl, rfl⟩) | (go_at_call 17; refine (Fits_any _ _).mono ?_; rintro e w' ⟨rfl, rfl⟩) | (go_at_call 19; refine (operands_any _ _).mono ?_; rintro e w' ⟨rfl, rfl⟩))
  go_ret
  exact ⟨rfl, rfl⟩
end Go.Proofs.Ytgligmdkikbdoaa.Num
