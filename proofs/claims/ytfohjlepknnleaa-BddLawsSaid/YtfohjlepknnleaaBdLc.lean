/- The functions that a law's calls have made, with their tables, in memory. Conditions: none. -/
import Derived.Test.YtfohjlepknnleaaBdLb
import Derived.Test.YtfohjlepknnleaaBdOe
import Derived.Test.YtfohjlepknnleaaBdOf
namespace Go.Proofs.Ytfohjlepknnleaa.Bd
open Go.ChangeShapes Go.WideShapes Go.ChangeAt Go.RowKit
set_option linter.unusedVariables false
set_option linter.unusedSimpArgs false

/-- A function's number, and the block of its table. -/
def mdV (vars : Nat) (p : Nat × Nat) : List Value := [.int .i64 (p.1 : Int), .slice (some ⟨p.2, 0, none⟩) (2 ^ vars) (2 ^ vars)]
def mdC (vars : Nat) (l : List (Nat × Nat)) : List Value := l.flatMap (mdV vars)
theorem mdC_length (vars : Nat) (l : List (Nat × Nat)) : (mdC vars l).length = 2 * l.length := by
  unfold mdC
  induction l with
  | nil => rfl
  | cons a l ih => rw [List.flatMap_cons, List.length_append, ih]; simp [mdV]; omega
theorem mdC_at {vars : Nat} {l : List (Nat × Nat)} {i x t : Nat} (h : l[i]? = some (x, t)) : (mdC vars l)[i * 2]? = some (.int .i64 (x : Int)) ∧ (mdC vars l)[i * 2 + 1]? = some (.slice (some ⟨t, 0, none⟩) (2 ^ vars) (2 ^ vars)) := by
  induction l generalizing i with
  | nil => cases h
  | cons a l ih =>
    have e : mdC vars (a :: l) = mdV vars a ++ mdC vars l := rfl
    cases i with
    | zero =>
      have : a = (x, t) := by simpa using h
      subst this
      rw [e]
      exact ⟨rfl, rfl⟩
    | succ i =>
      have h1 : l[i]? = some (x, t) := by simpa using h
      obtain ⟨p, q⟩ := ih h1
      rw [e, List.getElem?_append_right (by simp [mdV]; omega), List.getElem?_append_right (by simp [mdV]; omega)]
      have e1 : (i + 1) * 2 - (mdV vars a).length = i * 2 := by simp [mdV]; omega
      have e2 : (i + 1) * 2 + 1 - (mdV vars a).length = i * 2 + 1 := by simp [mdV]; omega
      rw [e1, e2]
      exact ⟨p, q⟩
structure Mds (B : Nat) (w : World) (v : Value) (vars : Nat) (S : List Nd) (l : List (Nat × Nat)) : Prop where
  row : w.ownsRow B 32 2 v l.length (mdC vars l)
  each : ∀ (i x t : Nat), l[i]? = some (x, t) → x < S.length ∧ RowB w t (tabD vars (den S x))
theorem Mds.keeps {B : Nat} {w w' : World} {v : Value} {vars : Nat} {S : List Nd} {l : List (Nat × Nat)} (h : Mds B w v vars S l) (G : Good vars S) (hk : Keeps w w') (m : List Nd) : Mds B w' v vars (S ++ m) l := by
  refine ⟨own_keep h.row (fun g hg => ?_), fun i x t hi => ?_⟩
  · obtain ⟨cs, h2⟩ := own_type h.row hg
    rw [h2]
    exact hk g cs 32 h2 (by decide) (by decide)
  · obtain ⟨h1, h2⟩ := h.each i x t hi
    refine ⟨by rw [List.length_append]; omega, ?_⟩
    have e : tabD vars (den (S ++ m) x) = tabD vars (den S x) := by
      unfold tabD
      exact List.map_congr_left (fun k _ => den_app G _ h1)
    rw [e]
    exact h2.keeps hk
theorem Mds.below {B : Nat} {w w' : World} {v : Value} {vars : Nat} {S : List Nd} {l : List (Nat × Nat)} (h : Mds B w v vars S l) (G : Good vars S) (hb : Below w.heap.size w w') : Mds B w' v vars S l := by
  have := h.keeps G (Keeps.of hb) []
  rwa [List.append_nil] at this
theorem Mds.form {B : Nat} {w : World} {v : Value} {vars : Nat} {S : List Nd} {l : List (Nat × Nat)} (h : Mds B w v vars S l) : ∃ A c, v = .slice A l.length c ∧ l.length ≤ c ∧ c ≤ maxLen := by
  rcases h.row.2 with ⟨rfl, h0⟩ | ⟨g, cap, cur, rfl, _, _, h1, h2, _⟩
  · exact ⟨none, 0, by rw [h0], by omega, by unfold maxLen; omega⟩
  · exact ⟨_, _, rfl, h1, h2⟩
theorem Mds.at {B : Nat} {w : World} {A : Option Addr} {n c : Nat} {vars : Nat} {S : List Nd} {l : List (Nat × Nat)} (h : Mds B w (.slice A n c) vars S l) {i x t : Nat} (hi : l[i]? = some (x, t)) :
    ∃ g, A = some ⟨g, 0, none⟩ ∧ w.cell? ⟨g, i * 2, none⟩ = some (.int .i64 (x : Int)) ∧ w.cell? ⟨g, i * 2 + 1, none⟩ = some (.slice (some ⟨t, 0, none⟩) (2 ^ vars) (2 ^ vars)) := by
  have hil := (List.getElem?_eq_some_iff.1 hi).1
  obtain ⟨a, b⟩ := mdC_at (vars := vars) hi
  obtain ⟨hl, ⟨e, h0⟩ | ⟨g, cap, cur, e, hb, hh, hnc, hcm, hcs, hct⟩⟩ := h.row
  · omega
  · have hr : w.ownsRow B 32 2 (.slice (some ⟨g, 0, none⟩) l.length cap) l.length (mdC vars l) := ⟨hl, .inr ⟨g, cap, cur, rfl, hb, hh, hnc, hcm, hcs, hct⟩⟩
    injection e with e1 e2 e3
    exact ⟨g, e1, by rw [hr.cellAt _ (by omega)]; exact a, by rw [hr.cellAt _ (by omega)]; exact b⟩
end Go.Proofs.Ytfohjlepknnleaa.Bd
