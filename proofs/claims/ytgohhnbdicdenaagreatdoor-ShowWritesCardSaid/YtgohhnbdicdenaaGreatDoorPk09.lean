/- The function moved with each of its three closures. Conditions: where a closure looks a number up, there is one. -/
import Derived.Test.YtgohhnbdicdenaaGreatDoorPk08
namespace Go.Proofs.YtgohhnbdicdenaaGreatDoor.Tr
open Go.ChangeShapes Go.WideShapes Go.ChangeAt Go.RowKit
set_option linter.unusedVariables false
set_option linter.unusedSimpArgs false

theorem cl54 (k f : Int) (p : Addr) (w : World) (h : w.cell? p = some (.int .i64 f)) : Calls Tryz.prog 184 #[.int .i64 k, .pointer (some p)] w fun e w' => e = .returned (.int .i64 (wrap64 (k + f))) ∧ w = w' := by
  go_enter Tryz.func184, Tryz.ntmps184
  go_wp2
  go_ret
  exact ⟨rfl, rfl⟩
/-- A number replaced, where it is one. -/
def toM (tf : Int → Int) (k : Int) : Int := if 0 ≤ k then tf k else k
set_option maxRecDepth 100000 in
set_option maxHeartbeats 3200000 in
theorem moved54 (o a b c n : Int) (s : ByteArray) (p : Addr) (f : Int) (w : World) (hp : w.cell? p = some (.int .i64 f)) : Calls Tryz.prog 183 #[.agg #[.int .i64 o, .int .i64 a, .int .i64 b, .int .i64 c, .int .i64 n, .string s], .func (.func 184) #[] #[.pointer (some p)]] w
    fun e w' => e = .returned (.agg #[.int .i64 o, .int .i64 (onM f a), .int .i64 (onM f b), .int .i64 (onM f c), .int .i64 n, .string s]) ∧ Below w.heap.size w w' := by
  have hq := World.block_lt_of_cell? w _ hp
  have HP := Lib.hid hp
  clear hp
  by_cases h1 : 0 ≤ a <;> by_cases h2 : 0 ≤ b <;> by_cases h3 : 0 ≤ c
  all_goals
    unfold onM
    first | rw [if_pos h1] | rw [if_neg h1]
    first | rw [if_pos h2] | rw [if_neg h2]
    first | rw [if_pos h3] | rw [if_neg h3]
    go_enter Tryz.func183, Tryz.ntmps183
    repeat (go_wp2_with fail; (with_reducible refine (cl54 _ f p _ (by exact (Below.cell (B := w.heap.size) (w := w) (by (repeat (first | with_reducible refine Below.setCell ?_ (by simp) _ | with_reducible refine Below.alloc ?_ (by simp) _ | exact Below.refl _ _))) hq).trans HP.out)).mono ?_); rintro e w' ⟨rfl, rfl⟩)
    go_wp2_with fail
    refine bodyPost_ret (v := .agg #[.int .i64 o, .int .i64 _, .int .i64 _, .int .i64 _, .int .i64 n, .string s]) ?_ rfl ⟨rfl, ?_⟩
    · simp [results, Tryz.results183, go_sem]
    · (repeat (first | with_reducible refine Below.setCell ?_ (by simp) _ | with_reducible refine Below.alloc ?_ (by simp) _ | exact Below.refl _ _))
end Go.Proofs.YtgohhnbdicdenaaGreatDoor.Tr

