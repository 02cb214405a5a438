/- What single operators make of operands that fit, case by case. Conditions: the operands have 32 bits. -/
import Derived.Test.YtcphjehjdhgheaaNumM
namespace Go.Proofs.Ytcphjehjdhgheaa.Num

theorem tk2 {op a b c : Int} (h : opN op = 2) (fa : fitB a = true) (fb : fitB b = true) : takenB (opN op) a b c = true := by rw [h]; simp [takenB, fa, fb]
theorem tk1 {op a b c : Int} (h : opN op = 1) (fa : fitB a = true) : takenB (opN op) a b c = true := by rw [h]; simp [takenB, fa]
theorem tk2_no {op a b c : Int} (h : opN op = 2) (f : fitB a = false ∨ fitB b = false) : doN op a b c = (0, 1) := by
  have : takenB (opN op) a b c = false := by rw [h]; rcases f with f | f <;> simp [takenB, f]
  simp [doN, this]

theorem do_lt {a b : Int} (fa : fitB a = true) (fb : fitB b = true) : doN 12 a b 0 = (bn (decide (a < b)), 0) := by
  have h := tk2 (op := 12) (c := 0) rfl fa fb; simp [doN, h, cmpB]
theorem do_le {a b : Int} (fa : fitB a = true) (fb : fitB b = true) : doN 13 a b 0 = (bn (decide (a ≤ b)), 0) := by
  have h := tk2 (op := 13) (c := 0) rfl fa fb; simp [doN, h, cmpB]
theorem do_eq {a b : Int} (fa : fitB a = true) (fb : fitB b = true) : doN 10 a b 0 = (bn (a == b), 0) := by
  have h := tk2 (op := 10) (c := 0) rfl fa fb; simp [doN, h, cmpB]
theorem do_ne {a b : Int} (fa : fitB a = true) (fb : fitB b = true) : doN 11 a b 0 = (bn (a != b), 0) := by
  have h := tk2 (op := 11) (c := 0) rfl fa fb; simp [doN, h, cmpB]
theorem lt_of {a b : Int} (fa : fitB a = true) (fb : fitB b = true) : (a < b ∧ doN 12 a b 0 = (1, 0)) ∨ (¬ a < b ∧ doN 12 a b 0 = (0, 0)) := by
  rw [do_lt fa fb]; by_cases h : a < b <;> simp [h, bn]
theorem eq_of {a b : Int} (fa : fitB a = true) (fb : fitB b = true) : (a = b ∧ doN 10 a b 0 = (1, 0)) ∨ (¬ a = b ∧ doN 10 a b 0 = (0, 0)) := by
  rw [do_eq fa fb]; by_cases h : a = b <;> simp [h, bn]
theorem le_of {a b : Int} (fa : fitB a = true) (fb : fitB b = true) : (a ≤ b ∧ doN 13 a b 0 = (1, 0)) ∨ (¬ a ≤ b ∧ doN 13 a b 0 = (0, 0)) := by
  rw [do_le fa fb]; by_cases h : a ≤ b <;> simp [h, bn]
theorem ne_of {a b : Int} (fa : fitB a = true) (fb : fitB b = true) : (a ≠ b ∧ doN 11 a b 0 = (1, 0)) ∨ (a = b ∧ doN 11 a b 0 = (0, 0)) := by
  rw [do_ne fa fb]; by_cases h : a = b <;> simp [h, bn]

/-- The operators by truth. -/
theorem do_join {op a b : Int} (h : opN op = 2) (h2 : op = 6 ∨ op = 7 ∨ op = 8 ∨ op = 9) (fa : fitB a = true) (fb : fitB b = true) : doN op a b 0 = (bn (joinB op (a != 0) (b != 0)), 0) := by
  have ht := tk2 (c := 0) h fa fb
  rcases h2 with rfl | rfl | rfl | rfl <;> simp [doN, ht]
theorem do_not {a : Int} (fa : fitB a = true) : doN 4 a 0 0 = (bn (a == 0), 0) := by
  have ht := tk1 (op := 4) (b := 0) (c := 0) rfl fa
  by_cases h : a = 0
  · subst h; simp [doN, ht, joinB]
  · have h1 : (a != 0) = true := by simp [h]
    have h2 : (a == 0) = false := by simp [h]
    simp only [h2]
    simp [doN, ht, joinB, bn, h]
theorem do_if {a b c : Int} (fa : fitB a = true) (fb : fitB b = true) (fc : fitB c = true) : doN 26 a b c = (if a ≠ 0 then b else c, 0) := by
  have ht : takenB (opN 26) a b c = true := by show takenB 3 a b c = true; simp [takenB, fa, fb, fc]
  by_cases h : a = 0
  · subst h; simp [doN, ht]
  · simp [doN, ht, h]
theorem do_reck {op a b c : Int} (h : opN op = 2) (h2 : op = 14 ∨ op = 15 ∨ op = 16 ∨ op = 17 ∨ op = 18) (fa : fitB a = true) (fb : fitB b = true) : doN op a b c = reck op a b := by
  have ht := tk2 (c := c) h fa fb
  rcases h2 with rfl | rfl | rfl | rfl | rfl <;> simp [doN, ht]
theorem do_neg {a b c : Int} (fa : fitB a = true) : doN 5 a b c = over (-a) := by
  have ht := tk1 (op := 5) (b := b) (c := c) rfl fa
  simp [doN, ht, reck]
end Go.Proofs.Ytcphjehjdhgheaa.Num
