/- Small functions of layer norm and of the document's answer: whether an operator's number may be, whether a number is one of an operator, what an operator needs. Conditions: a net has at most 100000 inputs. -/
import Derived.Test.YtcphjehjdhgheaaNtC
import Derived.Deep.RegionHeld3
import Derived.Deep.AppendLies
import Derived.Deep.RegionLaw
namespace Go.Proofs.Ytcphjehjdhgheaa.Nt
open Go.ChangeShapes Go.WideShapes Go.ChangeAt Go.RowKit Go.Proofs.Ytcphjehjdhgheaa.Tr
set_option linter.unusedVariables false
set_option linter.unusedSimpArgs false

theorem below2 (w : World) (a b : Obj) : Below w.heap.size w ((w.alloc a).alloc b) := (below_new w a).alloc (by simp) _
/-- A closure: is a number none of an operator? -/
theorem none_any (k : Int) (b n c : Nat) (A : Option Addr) (w : World) (h : w.cell? ⟨b, 0, none⟩ = some (.slice A n c)) :
    Calls Try.prog 122 #[.int .i64 k, .pointer (some ⟨b, 0, none⟩)] w fun e w' => e = .returned (.bool (!isOp n k)) ∧ w' = w := by
  by_cases h0 : k < 0
  · have e : isOp n k = false := by unfold isOp; simp; omega
    rw [e]
    go_enter Try.func122, Try.ntmps122
    go_wp2
    go_ret
    exact ⟨rfl, rfl⟩
  · by_cases h1 : k < (n : Int)
    · have e : isOp n k = true := by unfold isOp; simp; omega
      have hd : ¬ ((n : Int) ≤ k) := by omega
      rw [e]
      go_enter Try.func122, Try.ntmps122
      go_wp2
      go_ret
      exact ⟨rfl, rfl⟩
    · have e : isOp n k = false := by unfold isOp; simp; omega
      have hd : ((n : Int) ≤ k) := by omega
      rw [e]
      go_enter Try.func122, Try.ntmps122
      go_wp2
      go_ret
      exact ⟨rfl, rfl⟩
theorem op_cs (op : Int) : op = 3 ∨ op = 1 ∨ op = 2 ∨ (op ≠ 3 ∧ op ≠ 1 ∧ op ≠ 2) := by omega
theorem plain3 (nin : Nat) (a b c n : Int) : plainB nin ⟨3, a, b, c, n⟩ = (decide (0 ≤ n) && decide (n < (nin : Int))) := rfl
theorem plain1 (nin : Nat) (a b c n : Int) : plainB nin ⟨1, a, b, c, n⟩ = fitsI n := rfl
theorem plain2 (nin : Nat) (a b c n : Int) : plainB nin ⟨2, a, b, c, n⟩ = (n == 0 || n == 1) := rfl
theorem plain0 (nin : Nat) (o a b c n : Int) (h3 : o ≠ 3) (h1 : o ≠ 1) (h2 : o ≠ 2) : plainB nin ⟨o, a, b, c, n⟩ = (n == 0) := by
  show (if o = 3 then _ else if o = 1 then _ else if o = 2 then _ else _) = _
  rw [if_neg h3, if_neg h1, if_neg h2]
set_option maxHeartbeats 3200000 in
theorem bears_any (w : World) (ov rv : Value) (A : Option Addr) (ci nin : Nat) (x : Op5) (hn : nin ≤ 100000) :
    Calls Try.prog 124 #[.agg #[ov, rv, .slice A nin ci], opV x] w fun e w' => e = .returned (.bool (plainB nin x)) ∧ Below w.heap.size w w' := by
  obtain ⟨o, a, b, c, n⟩ := x
  unfold opV
  rcases op_cs o with rfl | rfl | rfl | ⟨h3, h1, h2⟩
  · rw [plain3]
    by_cases q1 : 0 ≤ n
    · by_cases q2 : n < (nin : Int)
      · have hf : fitsI n = true := by unfold fitsI; simp; omega
        have e1 : (decide (0 ≤ n) && decide (n < (nin : Int))) = true := by simp; omega
        rw [e1]
        go_enter Try.func124, Try.ntmps124
        go_wp2_with (go_at_call 134; refine (Fits_any _ _).mono ?_; rw [hf]; rintro e w' ⟨rfl, rfl⟩)
        go_ret
        exact ⟨rfl, below2 _ _ _⟩
      · have e1 : (decide (0 ≤ n) && decide (n < (nin : Int))) = false := by simp; omega
        rw [e1]
        go_enter Try.func124, Try.ntmps124
        go_wp2
        go_ret
        exact ⟨rfl, below2 _ _ _⟩
    · have e1 : (decide (0 ≤ n) && decide (n < (nin : Int))) = false := by simp; omega
      rw [e1]
      go_enter Try.func124, Try.ntmps124
      go_wp2
      go_ret
      exact ⟨rfl, below2 _ _ _⟩
  · rw [plain1]
    go_enter Try.func124, Try.ntmps124
    go_wp2_with (go_at_call 134; refine (Fits_any _ _).mono ?_; rintro e w' ⟨rfl, rfl⟩)
    go_ret
    exact ⟨rfl, below2 _ _ _⟩
  · rw [plain2]
    by_cases q1 : n = 0
    · subst q1
      go_enter Try.func124, Try.ntmps124
      go_wp2
      go_ret
      exact ⟨rfl, below2 _ _ _⟩
    · have e0 : (n == 0) = false := by simp [q1]
      rw [e0, Bool.false_or]
      go_enter Try.func124, Try.ntmps124
      go_wp2
      go_ret
      exact ⟨rfl, below2 _ _ _⟩
  · rw [plain0 _ _ _ _ _ _ h3 h1 h2]
    go_enter Try.func124, Try.ntmps124
    go_wp2
    go_ret
    exact ⟨rfl, below2 _ _ _⟩
set_option maxHeartbeats 3200000 in
theorem dplain_any (w : World) (ov rv : Value) (A : Option Addr) (ci nin : Nat) (x : Op5) :
    Calls Try.prog 110 #[.agg #[ov, rv, .slice A nin ci], opV x] w fun e w' => e = .returned (.bool (plainB nin x)) ∧ Below w.heap.size w w' := by
  obtain ⟨o, a, b, c, n⟩ := x
  unfold opV
  rcases op_cs o with rfl | rfl | rfl | ⟨h3, h1, h2⟩
  · rw [plain3]
    by_cases q1 : 0 ≤ n
    · have e1 : decide (0 ≤ n) = true := by simp; omega
      rw [e1, Bool.true_and]
      go_enter Try.func110, Try.ntmps110
      go_wp2
      go_ret
      exact ⟨rfl, below2 _ _ _⟩
    · have e1 : decide (0 ≤ n) = false := by simp; omega
      rw [e1, Bool.false_and]
      go_enter Try.func110, Try.ntmps110
      go_wp2
      go_ret
      exact ⟨rfl, below2 _ _ _⟩
  · rw [plain1]
    go_enter Try.func110, Try.ntmps110
    go_wp2_with (go_at_call 98; refine (dfits_any _ _).mono ?_; rintro e w' ⟨rfl, rfl⟩)
    go_ret
    exact ⟨rfl, below2 _ _ _⟩
  · rw [plain2]
    by_cases q1 : n = 0
    · subst q1
      go_enter Try.func110, Try.ntmps110
      go_wp2
      go_ret
      exact ⟨rfl, below2 _ _ _⟩
    · have e0 : (n == 0) = false := by simp [q1]
      rw [e0, Bool.false_or]
      go_enter Try.func110, Try.ntmps110
      go_wp2
      go_ret
      exact ⟨rfl, below2 _ _ _⟩
  · rw [plain0 _ _ _ _ _ _ h3 h1 h2]
    go_enter Try.func110, Try.ntmps110
    go_wp2
    go_ret
    exact ⟨rfl, below2 _ _ _⟩
theorem dopd_any (w : World) (rv iv : Value) (A : Option Addr) (co n : Nat) (k many at_ : Int) :
    Calls Try.prog 111 #[.agg #[.slice A n co, rv, iv], .int .i64 k, .int .i64 many, .int .i64 at_] w fun e w' => e = .returned (.bool (fldB n k many at_)) ∧ Below w.heap.size w w' := by
  unfold fldB
  by_cases h : many ≤ at_
  · rw [if_pos h]
    go_enter Try.func111, Try.ntmps111
    go_wp2
    go_ret
    exact ⟨rfl, below_new _ _⟩
  · rw [if_neg h]
    by_cases q1 : 0 ≤ k
    · have e1 : isOp n k = decide (k < (n : Int)) := by unfold isOp; rw [decide_eq_true q1, Bool.true_and]
      rw [e1]
      go_enter Try.func111, Try.ntmps111
      go_wp2
      go_ret
      exact ⟨rfl, below_new _ _⟩
    · have e1 : isOp n k = false := by unfold isOp; simp; omega
      rw [e1]
      go_enter Try.func111, Try.ntmps111
      go_wp2
      go_ret
      exact ⟨rfl, below_new _ _⟩
end Go.Proofs.Ytcphjehjdhgheaa.Nt
