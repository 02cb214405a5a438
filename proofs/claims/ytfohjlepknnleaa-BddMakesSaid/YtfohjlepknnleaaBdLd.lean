/- What the document's functions make of tables; what a law's call tells. Conditions: none. -/
import Derived.Test.YtfohjlepknnleaaBdLc
namespace Go.Proofs.Ytfohjlepknnleaa.Bd
open Go.ChangeShapes Go.WideShapes Go.ChangeAt Go.RowKit
set_option linter.unusedVariables false
set_option linter.unusedSimpArgs false

theorem tab_getD {vars k : Nat} (P : (Nat → Bool) → Bool) (h : k < 2 ^ vars) : (tabD vars P).getD k false = P (rowF vars k) := by
  rw [List.getD_eq_getElem?_getD, tab_at P h]; rfl
theorem tab_iteL (vars : Nat) (P Q R : (Nat → Bool) → Bool) : (List.range (2 ^ vars)).map (iteL (tabD vars P) (tabD vars Q) (tabD vars R)) = tabD vars (fun r => if P r then Q r else R r) := by
  unfold iteL
  conv => rhs; unfold tabD
  refine List.map_congr_left (fun k hk => ?_)
  have hk := List.mem_range.mp hk
  rw [tab_getD P hk, tab_getD Q hk, tab_getD R hk]
theorem tab_setL {vars j : Nat} (b : Bool) (P : (Nat → Bool) → Bool) (hj : j < vars) : (List.range (2 ^ vars)).map (fun k => (tabD vars P).getD (setRow vars k j b) false) = tabD vars (fun r => P (upd r j b)) := by
  conv => rhs; unfold tabD
  refine List.map_congr_left (fun k hk => ?_)
  rw [List.getD_eq_getElem?_getD, tab_set_at P (List.mem_range.mp hk) hj]; rfl
/-- What a law's call tells, and leaves: a function more, with its table, or no room. -/
def CallPost (B : Nat) (w : World) (b vars budget : Nat) (S : List Nd) (K : Nat) (e : Ending) (w' : World) : Prop :=
  Below B w w' ∧ Keeps w w' ∧ ∃ (x y : Int) (t : Nat), e = .returned (.tuple #[.int .i64 x, .int .i64 y, .slice (some ⟨t, 0, none⟩) (2 ^ vars) (2 ^ vars)]) ∧
    ((x = 0 ∧ y = 18 ∧ budget ≤ S.length + K ∧ StAt B w' b vars budget S) ∨
     ∃ (m : List Nd) (z : Nat), x = (z : Int) ∧ y = 0 ∧ StAt B w' b vars budget (S ++ m) ∧ (S ++ m).length ≤ S.length + K ∧ z < (S ++ m).length ∧ RowB w' t (tabD vars (den (S ++ m) z)))
/-- An operation, and its table behind it. -/
theorem OpPost.call {B : Nat} {w w1 w' : World} {b vars budget K K2 : Nat} {S : List Nd} {val : (Nat → Bool) → Bool} {x y : Int} {t : Nat} {T : List Bool} (h : OpPost B w b vars budget S K val (.returned (.tuple #[.int .i64 x, .int .i64 y])) w1) (hK : K ≤ K2) (hb : Below w1.heap.size w1 w') (hT : T = tabD vars val) (hr : RowB w' t T) (hs : B ≤ w1.heap.size) :
    CallPost B w b vars budget S K2 (.returned (.tuple #[.int .i64 x, .int .i64 y, .slice (some ⟨t, 0, none⟩) (2 ^ vars) (2 ^ vars)])) w' := by
  obtain ⟨h1, h2, h3⟩ := h
  refine ⟨h1.trans (hb.mono hs), h2.trans (Keeps.of hb), x, y, t, rfl, ?_⟩
  rcases h3 with ⟨e, h4, h5⟩ | ⟨N, z, e, hst, ⟨m, rfl⟩, hl, hz, hv⟩
  · simp only [Ending.returned.injEq, Value.tuple.injEq, Array.mk.injEq, List.cons.injEq, Value.int.injEq, true_and, and_true] at e
    exact .inl ⟨e.1, e.2, by omega, h5.below hb⟩
  · simp only [Ending.returned.injEq, Value.tuple.injEq, Array.mk.injEq, List.cons.injEq, Value.int.injEq, true_and, and_true] at e
    refine .inr ⟨m, z, e.1, e.2, hst.below hb, by omega, hz, ?_⟩
    have et : tabD vars (den (S ++ m) z) = tabD vars val := by
      unfold tabD
      exact List.map_congr_left (fun k _ => hv _)
    rw [et, ← hT]
    exact hr
end Go.Proofs.Ytfohjlepknnleaa.Bd
