/- The function moved with each of its three closures. Conditions: where a closure looks a number up, there is one. -/
import Derived.Test.YtmggedjolocgdaaTreeI
namespace Go.Proofs.Ytmggedjolocgdaa.Tr
open Go.ChangeShapes Go.WideShapes Go.ChangeAt Go.RowKit
set_option linter.unusedVariables false
set_option linter.unusedSimpArgs false

theorem cl54 (k f : Int) (p : Addr) (w : World) (h : w.cell? p = some (.int .i64 f)) : Calls Try.prog 54 #[.int .i64 k, .pointer (some p)] w fun e w' => e = .returned (.int .i64 (wrap64 (k + f))) ∧ w = w' := by
  go_enter Try.func54, Try.ntmps54
  go_wp2
  go_ret
  exact ⟨rfl, rfl⟩
theorem cl40 (k x : Int) (p : Addr) (v : Value) (l : List Int) (w : World) (h : w.cell? p = some v) (hv : Ints w v l) (hk : 0 ≤ k) (hx : l[k.toNat]? = some x) : Calls Try.prog 40 #[.int .i64 k, .pointer (some p)] w fun e w' => e = .returned (.int .i64 x) ∧ w = w' := by
  obtain ⟨A, c, rfl, h1, h2, hA⟩ := hv
  obtain ⟨g, o, rfl, hg, a0⟩ := hA _ _ hx
  have hl := (List.getElem?_eq_some_iff.1 hx).1
  obtain ⟨j, rfl⟩ := Int.eq_ofNat_of_zero_le hk
  simp only [Int.toNat_natCast] at a0 hl
  clear hA hx
  go_enter Try.func40, Try.ntmps40
  go_wp2
  go_ret
  exact ⟨rfl, rfl⟩
theorem cl56 (k x : Int) (p : Addr) (v : Value) (l : List Int) (w : World) (h : w.cell? p = some v) (hv : Ints w v l) (hk : 0 ≤ k) (hx : l[k.toNat]? = some x) : Calls Try.prog 56 #[.int .i64 k, .pointer (some p)] w fun e w' => e = .returned (.int .i64 x) ∧ w = w' := by
  obtain ⟨A, c, rfl, h1, h2, hA⟩ := hv
  obtain ⟨g, o, rfl, hg, a0⟩ := hA _ _ hx
  have hl := (List.getElem?_eq_some_iff.1 hx).1
  obtain ⟨j, rfl⟩ := Int.eq_ofNat_of_zero_le hk
  simp only [Int.toNat_natCast] at a0 hl
  clear hA hx
  go_enter Try.func56, Try.ntmps56
  go_wp2
  go_ret
  exact ⟨rfl, rfl⟩
/-- A number replaced, where it is one. -/
def toM (tf : Int → Int) (k : Int) : Int := if 0 ≤ k then tf k else k
set_option maxRecDepth 100000 in
set_option maxHeartbeats 3200000 in
theorem moved54 (o a b c n : Int) (s : ByteArray) (p : Addr) (f : Int) (w : World) (hp : w.cell? p = some (.int .i64 f)) : Calls Try.prog 39 #[.agg #[.int .i64 o, .int .i64 a, .int .i64 b, .int .i64 c, .int .i64 n, .string s], .func (.func 54) #[] #[.pointer (some p)]] w
    fun e w' => e = .returned (.agg #[.int .i64 o, .int .i64 (onM f a), .int .i64 (onM f b), .int .i64 (onM f c), .int .i64 n, .string s]) ∧ Below w.heap.size w w' := by
  have hq := World.block_lt_of_cell? w _ hp
  have HP := Lib.hid hp
  clear hp
  by_cases h1 : 0 ≤ a <;> by_cases h2 : 0 ≤ b <;> by_cases h3 : 0 ≤ c
  all_goals
    unfold onM
    first | rw [if_pos h1] | rw [if_neg h1]
    first | rw [if_pos h2] | rw [if_neg h2]
    first | rw [if_pos h3] | rw [if_neg h3]
    go_enter Try.func39, Try.ntmps39
    repeat (go_wp2_with fail; (with_reducible refine (cl54 _ f p _ (by exact (Below.cell (B := w.heap.size) (w := w) (by (repeat (first | with_reducible refine Below.setCell ?_ (by simp) _ | with_reducible refine Below.alloc ?_ (by simp) _ | exact Below.refl _ _))) hq).trans HP.out)).mono ?_); rintro e w' ⟨rfl, rfl⟩)
    go_wp2_with fail
    refine bodyPost_ret (v := .agg #[.int .i64 o, .int .i64 _, .int .i64 _, .int .i64 _, .int .i64 n, .string s]) ?_ rfl ⟨rfl, ?_⟩
    · simp [results, Try.results39, go_sem]
    · (repeat (first | with_reducible refine Below.setCell ?_ (by simp) _ | with_reducible refine Below.alloc ?_ (by simp) _ | exact Below.refl _ _))
set_option maxRecDepth 100000 in
set_option maxHeartbeats 3200000 in
theorem moved40 (o a b c n : Int) (s : ByteArray) (p : Addr) (v : Value) (l : List Int) (tf : Int → Int) (w : World) (hp : w.cell? p = some v) (hv : Ints w v l) (ha : 0 ≤ a → l[a.toNat]? = some (tf a)) (hb : 0 ≤ b → l[b.toNat]? = some (tf b)) (hc : 0 ≤ c → l[c.toNat]? = some (tf c)) : Calls Try.prog 39 #[.agg #[.int .i64 o, .int .i64 a, .int .i64 b, .int .i64 c, .int .i64 n, .string s], .func (.func 40) #[] #[.pointer (some p)]] w
    fun e w' => e = .returned (.agg #[.int .i64 o, .int .i64 (toM tf a), .int .i64 (toM tf b), .int .i64 (toM tf c), .int .i64 n, .string s]) ∧ Below w.heap.size w w' := by
  have hq := World.block_lt_of_cell? w _ hp
  have HP := Lib.hid hp
  clear hp
  have HV := Lib.hid hv
  have HA := Lib.hid ha
  have HB := Lib.hid hb
  have HC := Lib.hid hc
  clear hv ha hb hc
  by_cases h1 : 0 ≤ a <;> by_cases h2 : 0 ≤ b <;> by_cases h3 : 0 ≤ c
  all_goals
    unfold toM
    first | rw [if_pos h1] | rw [if_neg h1]
    first | rw [if_pos h2] | rw [if_neg h2]
    first | rw [if_pos h3] | rw [if_neg h3]
    go_enter Try.func39, Try.ntmps39
    repeat (go_wp2_with fail; (with_reducible refine (cl40 _ (tf _) p v l _ (by exact (Below.cell (B := w.heap.size) (w := w) (by (repeat (first | with_reducible refine Below.setCell ?_ (by simp) _ | with_reducible refine Below.alloc ?_ (by simp) _ | exact Below.refl _ _))) hq).trans HP.out) (by exact HV.out.below (B := w.heap.size) (by (repeat (first | with_reducible refine Below.setCell ?_ (by simp) _ | with_reducible refine Below.alloc ?_ (by simp) _ | exact Below.refl _ _))) (Nat.le_refl _)) (by assumption) (by first | exact HA.out (by assumption) | exact HB.out (by assumption) | exact HC.out (by assumption))).mono ?_); rintro e w' ⟨rfl, rfl⟩)
    go_wp2_with fail
    refine bodyPost_ret (v := .agg #[.int .i64 o, .int .i64 _, .int .i64 _, .int .i64 _, .int .i64 n, .string s]) ?_ rfl ⟨rfl, ?_⟩
    · simp [results, Try.results39, go_sem]
    · (repeat (first | with_reducible refine Below.setCell ?_ (by simp) _ | with_reducible refine Below.alloc ?_ (by simp) _ | exact Below.refl _ _))
set_option maxRecDepth 100000 in
set_option maxHeartbeats 3200000 in
theorem moved56 (o a b c n : Int) (s : ByteArray) (p : Addr) (v : Value) (l : List Int) (tf : Int → Int) (w : World) (hp : w.cell? p = some v) (hv : Ints w v l) (ha : 0 ≤ a → l[a.toNat]? = some (tf a)) (hb : 0 ≤ b → l[b.toNat]? = some (tf b)) (hc : 0 ≤ c → l[c.toNat]? = some (tf c)) : Calls Try.prog 39 #[.agg #[.int .i64 o, .int .i64 a, .int .i64 b, .int .i64 c, .int .i64 n, .string s], .func (.func 56) #[] #[.pointer (some p)]] w
    fun e w' => e = .returned (.agg #[.int .i64 o, .int .i64 (toM tf a), .int .i64 (toM tf b), .int .i64 (toM tf c), .int .i64 n, .string s]) ∧ Below w.heap.size w w' := by
  have hq := World.block_lt_of_cell? w _ hp
  have HP := Lib.hid hp
  clear hp
  have HV := Lib.hid hv
  have HA := Lib.hid ha
  have HB := Lib.hid hb
  have HC := Lib.hid hc
  clear hv ha hb hc
  by_cases h1 : 0 ≤ a <;> by_cases h2 : 0 ≤ b <;> by_cases h3 : 0 ≤ c
  all_goals
    unfold toM
    first | rw [if_pos h1] | rw [if_neg h1]
    first | rw [if_pos h2] | rw [if_neg h2]
    first | rw [if_pos h3] | rw [if_neg h3]
    go_enter Try.func39, Try.ntmps39
    repeat (go_wp2_with fail; (with_reducible refine (cl56 _ (tf _) p v l _ (by exact (Below.cell (B := w.heap.size) (w := w) (by (repeat (first | with_reducible refine Below.setCell ?_ (by simp) _ | with_reducible refine Below.alloc ?_ (by simp) _ | exact Below.refl _ _))) hq).trans HP.out) (by exact HV.out.below (B := w.heap.size) (by (repeat (first | with_reducible refine Below.setCell ?_ (by simp) _ | with_reducible refine Below.alloc ?_ (by simp) _ | exact Below.refl _ _))) (Nat.le_refl _)) (by assumption) (by first | exact HA.out (by assumption) | exact HB.out (by assumption) | exact HC.out (by assumption))).mono ?_); rintro e w' ⟨rfl, rfl⟩)
    go_wp2_with fail
    refine bodyPost_ret (v := .agg #[.int .i64 o, .int .i64 _, .int .i64 _, .int .i64 _, .int .i64 n, .string s]) ?_ rfl ⟨rfl, ?_⟩
    · simp [results, Try.results39, go_sem]
    · (repeat (first | with_reducible refine Below.setCell ?_ (by simp) _ | with_reducible refine Below.alloc ?_ (by simp) _ | exact Below.refl _ _))
end Go.Proofs.Ytmggedjolocgdaa.Tr
