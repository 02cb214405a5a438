/- A program with one more unit ahead of it has that unit first: the walk. Conditions: the variable of the error of a number's form holds an error or none. -/
import Derived.Test.YtgohhnbdicdenaaGreatDoorPz24
namespace Go.Proofs.YtgohhnbdicdenaaGreatDoor.progUnits
open Go.ChangeShapes Go.WideShapes Go.ChangeAt Go.RowKit
open Go.Proofs.YtgohhnbdicdenaaGreatDoor.Pg Go.Proofs.YtgohhnbdicdenaaGreatDoor.Ex
set_option linter.unusedVariables false
theorem walk (a : ByteArray) (wa : a.size ≤ maxLen) (b : ByteArray) (wb : b.size ≤ maxLen) (W : World) (hv : Ex.VarAt W W.heap.size) : Calls Tryz.prog 6 #[.string a, .string b] W (fun e W' => e = .returned (.bool true) ∧ Below W.heap.size W W') := by
  by_cases h1 : 700 < a.size
  · exact walk_big a b true _ (by simp; omega) rfl (.inl rfl) W hv
  by_cases h2 : 700 < b.size
  · exact walk_big a b _ true rfl (by simp; omega) (.inr rfl) W hv
  rcases hp : progM (a.toList ++ 10 :: Pg.mainT) with ⟨P, C, A⟩
  rcases hq : progM b.toList with ⟨Q, D, B⟩
  rcases hr : progM (a.toList ++ 10 :: b.toList) with ⟨R, E, F⟩
  by_cases hoff : C ≠ 0 ∨ D ≠ 0 ∨ 200 < P.units.length + Q.units.length
  · exact walk_three a b (by simp; omega) (by simp; omega) W hv P Q R C A D B E F hp hq hr hoff
  have hC : C = 0 := by omega
  have hD : D = 0 := by omega
  have hn : P.units.length + Q.units.length ≤ 200 := by omega
  subst hC
  subst hD
  obtain ⟨x1, x2, x3⟩ := units_prog (a := a.toList) (b := b.toList) (by rw [Lx.toList_len]; omega) (by rw [Lx.toList_len]; omega) hp hq hn
  obtain ⟨us, m0, k0⟩ := P
  obtain ⟨vs, m, k⟩ := Q
  simp only at x1 x2 hn
  subst x1
  subst x2
  rw [x3] at hr
  exact walk_all a b (by simp; omega) (by simp; omega) W hv us vs (us ++ vs) m k A B hp hq x3 hn rfl
end Go.Proofs.YtgohhnbdicdenaaGreatDoor.progUnits
