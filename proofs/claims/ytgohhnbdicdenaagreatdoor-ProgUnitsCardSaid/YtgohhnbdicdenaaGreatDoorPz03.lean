/- The function moved with each of its three closures. Conditions: where a closure looks a number up, there is one. -/
import Derived.Test.YtgohhnbdicdenaaGreatDoorPz02
import Derived.Test.YtgohhnbdicdenaaGreatDoorPz01
import Derived.Deep.RegionLaw
import Derived.Deep.AppendLies
import Derived.Deep.RegionWith
import Derived.Deep.RegionHeld3
import Derived.StillTailTactics
namespace Go.Proofs.YtgohhnbdicdenaaGreatDoor.Tr
open Go.ChangeShapes Go.WideShapes Go.ChangeAt Go.RowKit
set_option linter.unusedVariables false
set_option linter.unusedSimpArgs false

theorem cl54 (k f : Int) (p : Addr) (w : World) (h : w.cell? p = some (.int .i64 f)) : Calls Tryz.prog 184 #[.int .i64 k, .pointer (some p)] w fun e w' => e = .returned (.int .i64 (wrap64 (k + f))) ∧ w = w' := by
  go_enter Tryz.func184, Tryz.ntmps184
  go_wp2
  go_ret
  exact ⟨rfl, rfl⟩
set_option maxRecDepth 100000 in
set_option maxHeartbeats 3200000 in
theorem moved54 (o a b c n : Int) (s : ByteArray) (p : Addr) (f : Int) (w : World) (hp : w.cell? p = some (.int .i64 f)) : Calls Tryz.prog 183 #[.agg #[.int .i64 o, .int .i64 a, .int .i64 b, .int .i64 c, .int .i64 n, .string s], .func (.func 184) #[] #[.pointer (some p)]] w
    fun e w' => e = .returned (.agg #[.int .i64 o, .int .i64 (onM f a), .int .i64 (onM f b), .int .i64 (onM f c), .int .i64 n, .string s]) ∧ Below w.heap.size w w' := by
  have hq := World.block_lt_of_cell? w _ hp
  have HP := Lib.hid hp
  clear hp
  by_cases h1 : 0 ≤ a <;> by_cases h2 : 0 ≤ b <;> by_cases h3 : 0 ≤ c
  all_goals
    unfold onM
    first | rw [if_pos h1] | rw [if_neg h1]
    first | rw [if_pos h2] | rw [if_neg h2]
    first | rw [if_pos h3] | rw [if_neg h3]
    go_enter Tryz.func183, Tryz.ntmps183
    repeat (go_wp2_with fail; (with_reducible refine (cl54 _ f p _ (by exact (Below.cell (B := w.heap.size) (w := w) (by (repeat (first | with_reducible refine Below.setCell ?_ (by simp) _ | with_reducible refine Below.alloc ?_ (by simp) _ | exact Below.refl _ _))) hq).trans HP.out)).mono ?_); rintro e w' ⟨rfl, rfl⟩)
    go_wp2_with fail
    refine bodyPost_ret (v := .agg #[.int .i64 o, .int .i64 _, .int .i64 _, .int .i64 _, .int .i64 n, .string s]) ?_ rfl ⟨rfl, ?_⟩
    · simp [results, Tryz.results183, go_sem]
    · (repeat (first | with_reducible refine Below.setCell ?_ (by simp) _ | with_reducible refine Below.alloc ?_ (by simp) _ | exact Below.refl _ _))
end Go.Proofs.YtgohhnbdicdenaaGreatDoor.Tr

/- What the closure of Sub works on and leaves, and how one operand more and the node itself are laid. Conditions: the expression may be. -/
namespace Go.Proofs.YtgohhnbdicdenaaGreatDoor.Tr
open Go.ChangeShapes Go.WideShapes Go.ChangeAt Go.RowKit
set_option linter.unusedVariables false
set_option linter.unusedSimpArgs false

theorem own_block {w w' : World} {b : Nat} {e : TypeId} {s : Nat} {v : Value} {n : Nat} {xs : List Value} (h : w.ownsRow b e s v n xs) (hk : ∀ g, v.ownBlock = some g → w'.heap[g]? = w.heap[g]?) : w'.ownsRow b e s v n xs := by
  refine ⟨h.1, ?_⟩
  rcases h.2 with h0 | ⟨g, cap, cur, h1, h2, h3, h4⟩
  · exact .inl h0
  · exact .inr ⟨g, cap, cur, h1, h2, by rw [hk g (by rw [h1]; rfl)]; exact h3, h4⟩
end Go.Proofs.YtgohhnbdicdenaaGreatDoor.Tr

/- The document's aim gives a node other operands; order lays the nodes of which a node is made, in order. Conditions: the expression may be. -/
namespace Go.Proofs.YtgohhnbdicdenaaGreatDoor.Tr
open Go.ChangeShapes Go.WideShapes Go.ChangeAt Go.RowKit
set_option linter.unusedVariables false
set_option linter.unusedSimpArgs false

/-- What lies in one row lies not in one of another type. -/
theorem own_ne {w : World} {b b' : Nat} {e e' : TypeId} {s s' : Nat} {v v' : Value} {n n' : Nat} {xs xs' : List Value} (h : w.ownsRow b e s v n xs) (h' : w.ownsRow b' e' s' v' n' xs') (hne : e ≠ e') : ∀ k, v.ownBlock = some k → v'.ownBlock ≠ some k := by
  intro k hk hk'
  rcases h.2 with ⟨h0, _⟩ | ⟨g, cap, cur, h1, _, h3, _⟩
  · rw [h0] at hk; simp [Value.ownBlock] at hk
  rcases h'.2 with ⟨h0, _⟩ | ⟨g', cap', cur', h1', _, h3', _⟩
  · rw [h0] at hk'; simp [Value.ownBlock] at hk'
  rw [h1] at hk; rw [h1'] at hk'
  simp [Value.ownBlock] at hk hk'
  subst hk hk'
  rw [h3] at h3'
  simp only [Option.some.injEq, Obj.cells.injEq] at h3'
  exact hne h3'.2.1

/-- What a call of order leaves. -/
def OrderPost (w : World) (b : Nat) (ov : Value) (out : List Nd) (new : List Nd) (r : Ending) (w' : World) : Prop :=
  ∃ ov', r = .returned ov' ∧ w'.ownsRow b 58 6 ov' (out ++ new).length (ndsOf (out ++ new)) ∧ w.grownBy w' ov.ownBlock ∧ ∀ k, ov'.ownBlock = some k → ov.ownBlock = some k ∨ w.heap.size ≤ k
end Go.Proofs.YtgohhnbdicdenaaGreatDoor.Tr

