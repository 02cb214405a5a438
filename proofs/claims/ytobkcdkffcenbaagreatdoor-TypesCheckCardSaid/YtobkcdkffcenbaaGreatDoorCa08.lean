/- The functions that make one node of another: over, leaf, move, moved. Conditions: where a closure looks a number up, there is one. -/
import Derived.Test.YtobkcdkffcenbaaGreatDoorCa01
import Derived.Laws.CopyOwn
set_option linter.unusedVariables false
set_option linter.unusedSimpArgs false
namespace Go.Proofs.YtobkcdkffcenbaaGreatDoor.Tr
open Go.ChangeShapes Go.WideShapes Go.ChangeAt Go.RowKit
theorem leaf_any (o n : Int) (s : ByteArray) (w : World) : Calls Tryz.prog 23 #[.int .i64 o, .int .i64 n, .string s] w
    fun e w' => e = .returned (.agg #[.int .i64 o, .int .i64 (-1), .int .i64 (-1), .int .i64 (-1), .int .i64 n, .string s]) ∧ Below w.heap.size w w' := by
  go_enter Tryz.func23, Tryz.ntmps23
  go_wp2
  exact bodyPost_ret (v := .agg #[.int .i64 o, .int .i64 (-1), .int .i64 (-1), .int .i64 (-1), .int .i64 n, .string s]) (by simp [results, Tryz.results23, go_sem]) rfl ⟨rfl, by first | exact (Below.refl _ _).alloc (Nat.le_refl _) _ | exact ((Below.refl _ _).alloc (Nat.le_refl _) _).setCell (by simp) _⟩
def onM (f : Int) (k : Int) : Int := if 0 ≤ k then wrap64 (k + f) else k
theorem move_any (o a b c n f : Int) (s : ByteArray) (w : World) : Calls Tryz.prog 50 #[.agg #[.int .i64 o, .int .i64 a, .int .i64 b, .int .i64 c, .int .i64 n, .string s], .int .i64 f] w
    fun e w' => e = .returned (.agg #[.int .i64 o, .int .i64 (onM f a), .int .i64 (onM f b), .int .i64 (onM f c), .int .i64 n, .string s]) ∧ Below w.heap.size w w' := by
  by_cases h1 : 0 ≤ a <;> by_cases h2 : 0 ≤ b <;> by_cases h3 : 0 ≤ c
  all_goals
    have H := Lib.hid (show onM f a = onM f a ∧ onM f b = onM f b ∧ onM f c = onM f c from ⟨rfl, rfl, rfl⟩)
    unfold onM
    first | rw [if_pos h1] | rw [if_neg h1]
    first | rw [if_pos h2] | rw [if_neg h2]
    first | rw [if_pos h3] | rw [if_neg h3]
    go_enter Tryz.func50, Tryz.ntmps50
    go_wp2
  all_goals
    refine bodyPost_ret (v := .agg #[.int .i64 o, .int .i64 _, .int .i64 _, .int .i64 _, .int .i64 n, .string s]) ?_ rfl ⟨rfl, ?_⟩
    · simp [results, Tryz.results50, go_sem]
    · repeat (first | with_reducible refine Below.setCell ?_ (by simp) _ | with_reducible refine Below.alloc ?_ (by simp) _ | exact Below.refl _ _)
def overM (o n : Int) (s : Bytes) (l : List Int) : Nd := ⟨o, l.getD 0 (-1), l.getD 1 (-1), l.getD 2 (-1), n, s⟩
theorem two_new (w : World) (o o' : Obj) : ((w.alloc o).alloc o').heap[w.heap.size + 1]? = some o' :=
  (congrArg (fun i => ((w.alloc o).alloc o').heap[i]?) (show w.heap.size + 1 = (w.alloc o).heap.size by simp)).trans (heap_alloc_new _ _)
end Go.Proofs.YtobkcdkffcenbaaGreatDoor.Tr

