/- The small functions of layer lex return what the plain functions of LexM say, and leave memory alone. Conditions: lengths within a machine's; a row of digits is not empty. -/
import Derived.Test.YtgligmdkikbdoaaRows
import Derived.Test.YtgligmdkikbdoaaLexM
import Derived.WalkKit
import Derived.ProofKit
import Derived.OpenShut
import Derived.Outline
import Derived.Lib.Hide
import Derived.WalkLawsBesides
import Derived.WalkSpells
import Derived.Deep.Light
namespace Go.Proofs.Ytgligmdkikbdoaa.Lx
open Go.ChangeShapes Go.WideShapes Go.ChangeAt Go.RowKit
set_option linter.unusedVariables false

theorem ret_bool {a b : Bool} (h : a = b) : Ending.returned (.bool a) = .returned (.bool b) := by rw [h]

theorem le_cast (a b : UInt8) : (a ≤ b) ↔ ((a.toNat : Int) ≤ (b.toNat : Int)) := by rw [UInt8.le_iff_toNat_le]; omega
theorem eq_cast (a b : UInt8) : (a = b) ↔ ((a.toNat : Int) = (b.toNat : Int)) := by rw [← UInt8.toNat_inj]; omega

theorem isDigit_any (c : UInt8) (w : World) :
    Calls Try.prog 44 #[.int .u8 c.toNat] w fun e w' => e = .returned (.bool (digitB c)) ∧ w = w' := by
  by_cases h : (48 : Int) ≤ c.toNat
  · have e : digitB c = decide ((c.toNat : Int) ≤ 57) := by
      have h1 : (48 : UInt8) ≤ c := (le_cast _ _).2 h
      simp only [digitB, h1, decide_true, Bool.true_and, decide_eq_decide]; exact le_cast _ _
    rw [e]
    go_enter Try.func44, Try.ntmps44
    go_wp2
    go_ret
    exact ⟨rfl, rfl⟩
  · have e : digitB c = false := by
      have h1 : ¬ (48 : UInt8) ≤ c := fun h' => h ((le_cast _ _).1 h')
      simp [digitB, h1]
    rw [e]
    go_enter Try.func44, Try.ntmps44
    go_wp2
    go_ret
    exact ⟨rfl, rfl⟩

theorem isOfName_any (c : UInt8) (w : World) :
    Calls Try.prog 46 #[.int .u8 c.toNat] w fun e w' => e = .returned (.bool (ofNameB c)) ∧ w = w' := by
  have hb : ofNameB c = (decide ((97 : Int) ≤ c.toNat) && decide ((c.toNat : Int) ≤ 122) || ((c.toNat : Int) == 95) || digitB c) := by
    unfold ofNameB
    have e1 : decide ((97 : UInt8) ≤ c) = decide ((97 : Int) ≤ c.toNat) := decide_eq_decide.2 (le_cast _ _)
    have e2 : decide (c ≤ (122 : UInt8)) = decide ((c.toNat : Int) ≤ 122) := decide_eq_decide.2 (le_cast _ _)
    have e3 : (c == (95 : UInt8)) = ((c.toNat : Int) == 95) := by
      rw [Bool.eq_iff_iff, beq_iff_eq, beq_iff_eq]; exact eq_cast _ _
    rw [e1, e2, e3]
  rw [hb]
  clear hb
  by_cases h1 : (97 : Int) ≤ c.toNat <;> by_cases h2 : (c.toNat : Int) ≤ 122 <;> rcases Bool.eq_false_or_eq_true ((c.toNat : Int) == 95) with h3 | h3
  all_goals
    go_enter Try.func46, Try.ntmps46
    go_wp2_with (go_at_call 44; refine (isDigit_any _ _).mono ?_; rintro e w' ⟨rfl, rfl⟩)
  all_goals
    go_ret
    exact ⟨ret_bool (by first | (simp [h1, h2, h3]; done) | (simp [h1, h2, h3]; intros; omega)), rfl⟩

theorem isBlank_any (c : UInt8) (w : World) :
    Calls Try.prog 56 #[.int .u8 c.toNat] w fun e w' => e = .returned (.bool (blankB c)) ∧ w = w' := by
  have q : ∀ k : UInt8, (c == k) = ((c.toNat : Int) == (k.toNat : Int)) := fun k => by
    rw [Bool.eq_iff_iff, beq_iff_eq, beq_iff_eq]; exact eq_cast _ _
  have hb : blankB c = (((c.toNat : Int) == 32) || ((c.toNat : Int) == 9) || ((c.toNat : Int) == 10) || ((c.toNat : Int) == 13)) := by
    unfold blankB; rw [q 32, q 9, q 10, q 13]; rfl
  rw [hb]
  clear hb q
  rcases Bool.eq_false_or_eq_true ((c.toNat : Int) == 32) with h1 | h1 <;> rcases Bool.eq_false_or_eq_true ((c.toNat : Int) == 9) with h2 | h2 <;> rcases Bool.eq_false_or_eq_true ((c.toNat : Int) == 10) with h3 | h3
  all_goals
    go_enter Try.func56, Try.ntmps56
    go_wp2
  all_goals
    go_ret
    exact ⟨ret_bool (by simp [h1, h2, h3]), rfl⟩

set_option maxRecDepth 100000 in
set_option maxHeartbeats 1000000 in
theorem isWord_any (s : ByteArray) (w : World) :
    Calls Try.prog 29 #[.string s] w fun e w' => e = .returned (.bool (wordB s.toList)) ∧ w = w' := by
  go_enter Try.func29, Try.ntmps29
  go_wp2
  all_goals
    go_ret
    go_light
    refine ⟨ret_bool ?_, rfl⟩
    simp_all [wordB, words]
end Go.Proofs.Ytgligmdkikbdoaa.Lx
