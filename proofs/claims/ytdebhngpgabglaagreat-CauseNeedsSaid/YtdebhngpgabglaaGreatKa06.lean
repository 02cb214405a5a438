/- The function plain of the document's answer tells whether a node's number and name may be. Conditions: none. -/
import Derived.Test.YtdebhngpgabglaaGreatKa02
set_option linter.unusedVariables false
set_option linter.unusedSimpArgs false
namespace Go.Proofs.YtdebhngpgabglaaGreat.Tr
open Go.ChangeShapes Go.WideShapes Go.ChangeAt Go.RowKit
end Go.Proofs.YtdebhngpgabglaaGreat.Tr
namespace Go.Proofs.YtdebhngpgabglaaGreat.Tr
open Go.ChangeShapes Go.WideShapes Go.ChangeAt Go.RowKit
def bareN (m : Nat) (a b c : Int) : Bool := (decide (0 < m) || a == -1) && (decide (1 < m) || b == -1) && (decide (2 < m) || c == -1)
def bareM (x : Nd) : Bool := if x.op = 27 then x.b == -1 && x.c == -1 else if x.op = 28 then x.c == -1 else bareN (kidsM x).length x.a x.b x.c
theorem bareM_iff (x : Nd) : bareM x = true ↔ x = mkL x.lab (kidsM x) := by
 obtain ⟨o, a, b, c, n, s⟩ := x
 unfold bareM bareN
 by_cases hu : unaryB o = true
 · have h27 : o ≠ 27 := by rintro rfl; simp [unaryB] at hu
   have h28 : o ≠ 28 := by rintro rfl; simp [unaryB] at hu
   simp [kidsM, hu, mkL, Nd.lab, h27, h28]
 by_cases h26 : o = 26
 · subst h26; simp [kidsM, unaryB, mkL, Nd.lab]
 by_cases h27 : o = 27
 · subst h27
   by_cases ha : a = -1 <;> simp [kidsM, unaryB, mkL, Nd.lab, heldM, ha]
 by_cases h28 : o = 28
 · subst h28
   by_cases hb : b = -1 <;> simp [kidsM, unaryB, mkL, Nd.lab, heldM, hb]
 by_cases hb : binaryB o = true
 · simp [kidsM, hu, hb, mkL, Nd.lab, h26, h27, h28]
 · simp [kidsM, hu, hb, mkL, Nd.lab, h26, h27, h28, and_assoc]
end Go.Proofs.YtdebhngpgabglaaGreat.Tr
