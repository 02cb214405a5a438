/- What two texts' lines, a line's end between them, read as. Conditions: none. -/
import Derived.Test.YtgngdkbcndldfaaDoorFrP
namespace Go.Proofs.YtgngdkbcndldfaaDoor.Fr
/-- A reading's three parts where nothing is too long. -/
theorem read_small {ts : List Int} {S : Bs} (hS : S.length ≤ 100000) (ht : ts.length ≤ 200) : readM ts S = if (goM ts (linesM S)).2 = true then ((goM ts (linesM S)).1, 0, 0) else ((goM ts (linesM S)).1, 17, ((goM ts (linesM S)).1.length : Int)) := by
  unfold readM; rw [if_neg (by omega)]
theorem read_both (ts : List Int) (S T : Bs) (hS : S.length ≤ 1000) (hT : T.length ≤ 1000) (ht : ts.length ≤ 60) :
    (∃ R : List (List Int), readM ts (S ++ [10]) = (R, 17, (R.length : Int)) ∧ readM ts (S ++ 10 :: T) = (R, 17, (R.length : Int))) ∨
    (∃ R Q : List (List Int), readM ts (S ++ [10]) = (R, 0, 0) ∧ ((readM ts T = (Q, 0, 0) ∧ readM ts (S ++ 10 :: T) = (R ++ Q, 0, 0)) ∨ (readM ts T = (Q, 17, (Q.length : Int)) ∧ readM ts (S ++ 10 :: T) = (R ++ Q, 17, (Q.length : Int) + (R.length : Int))))) := by
  rw [read_small (S := S ++ [10]) (by simp; omega) (by omega), read_small (S := T) (by omega) (by omega), read_small (S := S ++ 10 :: T) (by simp; omega) (by omega), lines_append S T, goM_append ts (linesM (S ++ [10])) (linesM T)]
  rcases Bool.eq_false_or_eq_true (goM ts (linesM (S ++ [10]))).2 with h1 | h1
  · right
    refine ⟨(goM ts (linesM (S ++ [10]))).1, (goM ts (linesM T)).1, by rw [if_pos h1], ?_⟩
    rw [if_pos h1]
    rcases Bool.eq_false_or_eq_true (goM ts (linesM T)).2 with h2 | h2
    · left
      simp only [h2, if_true]
      exact ⟨trivial, trivial⟩
    · right
      simp only [h2, Bool.false_eq_true, if_false, List.length_append]
      refine ⟨trivial, ?_⟩
      simp only [Prod.mk.injEq, true_and]
      omega
  · left
    refine ⟨(goM ts (linesM (S ++ [10]))).1, ?_, ?_⟩
    · simp only [h1, Bool.false_eq_true, if_false]
    · simp only [h1, Bool.false_eq_true, if_false]
end Go.Proofs.YtgngdkbcndldfaaDoor.Fr
