/- Small functions on a node: whether it bears what it has, whether it takes Args, whether it is bare. Conditions: none. -/
import Derived.Test.YtobkcdkffcenbaaGreatDoorCa02
set_option linter.unusedVariables false
set_option linter.unusedSimpArgs false
namespace Go.Proofs.YtobkcdkffcenbaaGreatDoor.Tr
open Go.ChangeShapes Go.WideShapes Go.ChangeAt Go.RowKit
def takesM (x : Nd) (k : Int) : Bool := x.op == 27 || (x.op == 28 && k != x.a)
theorem takes_any (x : Nd) (k : Int) (w : World) : Calls Tryz.prog 103 #[.agg #[.int .i64 x.op, .int .i64 x.a, .int .i64 x.b, .int .i64 x.c, .int .i64 x.n, .string (str x.name)], .int .i64 k] w
    fun e w' => e = .returned (.bool (takesM x k)) ∧ Below w.heap.size w w' := by
  obtain ⟨o, a, b, c, n, s⟩ := x
  unfold takesM
  show Calls Tryz.prog 103 #[.agg #[.int .i64 o, .int .i64 a, .int .i64 b, .int .i64 c, .int .i64 n, .string (str s)], .int .i64 k] w fun e w' => e = .returned (.bool (o == 27 || (o == 28 && k != a))) ∧ Below w.heap.size w w'
  rcases Bool.eq_false_or_eq_true (o == 27) with h1 | h1 <;> rcases Bool.eq_false_or_eq_true (o == 28) with h2 | h2 <;> rcases Bool.eq_false_or_eq_true (k != a) with h3 | h3
  all_goals
    rw [h1, h2, h3]
    go_enter Tryz.func103, Tryz.ntmps103
    go_wp2
    go_ret
    exact ⟨rfl, (Below.refl _ _).alloc (Nat.le_refl _) _⟩
theorem bne_nil (s : Bytes) : (s != []) = !decide (s = []) := by cases s <;> simp
theorem bears_1_111 (a b c n : Int) (S : ByteArray) (w : World) (hs : S.toList = []) (h2 : 0 ≤ n) (h3 : n ≤ 2147483647) : Calls Tryz.prog 87 #[.agg #[.int .i64 1, .int .i64 a, .int .i64 b, .int .i64 c, .int .i64 n, .string S]] w fun e w' => e = .returned (.bool true) ∧ Below w.heap.size w w' := by
  go_enter Tryz.func87, Tryz.ntmps87
  go_wp2
  go_ret
  exact ⟨rfl, (Below.refl _ _).alloc (Nat.le_refl _) _⟩
theorem bears_1_110 (a b c n : Int) (S : ByteArray) (w : World) (hs : S.toList = []) (h2 : 0 ≤ n) (h3 : 2147483647 < n) : Calls Tryz.prog 87 #[.agg #[.int .i64 1, .int .i64 a, .int .i64 b, .int .i64 c, .int .i64 n, .string S]] w fun e w' => e = .returned (.bool false) ∧ Below w.heap.size w w' := by
  go_enter Tryz.func87, Tryz.ntmps87
  go_wp2
  go_ret
  exact ⟨rfl, (Below.refl _ _).alloc (Nat.le_refl _) _⟩
theorem bears_1_101 (a b c n : Int) (S : ByteArray) (w : World) (hs : S.toList = []) (h2 : n < 0) (h3 : n ≤ 2147483647) : Calls Tryz.prog 87 #[.agg #[.int .i64 1, .int .i64 a, .int .i64 b, .int .i64 c, .int .i64 n, .string S]] w fun e w' => e = .returned (.bool false) ∧ Below w.heap.size w w' := by
  go_enter Tryz.func87, Tryz.ntmps87
  go_wp2
  go_ret
  exact ⟨rfl, (Below.refl _ _).alloc (Nat.le_refl _) _⟩
theorem bears_1_011 (a b c n : Int) (S : ByteArray) (w : World) (hs : ¬ S.toList = []) (h2 : 0 ≤ n) (h3 : n ≤ 2147483647) : Calls Tryz.prog 87 #[.agg #[.int .i64 1, .int .i64 a, .int .i64 b, .int .i64 c, .int .i64 n, .string S]] w fun e w' => e = .returned (.bool false) ∧ Below w.heap.size w w' := by
  have hs' : (!S.toList.isEmpty) = true := by simp [hs]
  go_enter Tryz.func87, Tryz.ntmps87
  go_wp2
  go_ret
  exact ⟨rfl, (Below.refl _ _).alloc (Nat.le_refl _) _⟩
theorem bears_1_010 (a b c n : Int) (S : ByteArray) (w : World) (hs : ¬ S.toList = []) (h2 : 0 ≤ n) (h3 : 2147483647 < n) : Calls Tryz.prog 87 #[.agg #[.int .i64 1, .int .i64 a, .int .i64 b, .int .i64 c, .int .i64 n, .string S]] w fun e w' => e = .returned (.bool false) ∧ Below w.heap.size w w' := by
  have hs' : (!S.toList.isEmpty) = true := by simp [hs]
  go_enter Tryz.func87, Tryz.ntmps87
  go_wp2
  go_ret
  exact ⟨rfl, (Below.refl _ _).alloc (Nat.le_refl _) _⟩
theorem bears_1_001 (a b c n : Int) (S : ByteArray) (w : World) (hs : ¬ S.toList = []) (h2 : n < 0) (h3 : n ≤ 2147483647) : Calls Tryz.prog 87 #[.agg #[.int .i64 1, .int .i64 a, .int .i64 b, .int .i64 c, .int .i64 n, .string S]] w fun e w' => e = .returned (.bool false) ∧ Below w.heap.size w w' := by
  have hs' : (!S.toList.isEmpty) = true := by simp [hs]
  go_enter Tryz.func87, Tryz.ntmps87
  go_wp2
  go_ret
  exact ⟨rfl, (Below.refl _ _).alloc (Nat.le_refl _) _⟩
theorem bears_2_111 (a b c n : Int) (S : ByteArray) (w : World) (hs : S.toList = []) (h2 : 0 ≤ n) (h3 : n ≤ 1) : Calls Tryz.prog 87 #[.agg #[.int .i64 2, .int .i64 a, .int .i64 b, .int .i64 c, .int .i64 n, .string S]] w fun e w' => e = .returned (.bool true) ∧ Below w.heap.size w w' := by
  go_enter Tryz.func87, Tryz.ntmps87
  go_wp2
  go_ret
  exact ⟨rfl, (Below.refl _ _).alloc (Nat.le_refl _) _⟩
theorem bears_2_110 (a b c n : Int) (S : ByteArray) (w : World) (hs : S.toList = []) (h2 : 0 ≤ n) (h3 : 1 < n) : Calls Tryz.prog 87 #[.agg #[.int .i64 2, .int .i64 a, .int .i64 b, .int .i64 c, .int .i64 n, .string S]] w fun e w' => e = .returned (.bool false) ∧ Below w.heap.size w w' := by
  go_enter Tryz.func87, Tryz.ntmps87
  go_wp2
  go_ret
  exact ⟨rfl, (Below.refl _ _).alloc (Nat.le_refl _) _⟩
theorem bears_2_101 (a b c n : Int) (S : ByteArray) (w : World) (hs : S.toList = []) (h2 : n < 0) (h3 : n ≤ 1) : Calls Tryz.prog 87 #[.agg #[.int .i64 2, .int .i64 a, .int .i64 b, .int .i64 c, .int .i64 n, .string S]] w fun e w' => e = .returned (.bool false) ∧ Below w.heap.size w w' := by
  go_enter Tryz.func87, Tryz.ntmps87
  go_wp2
  go_ret
  exact ⟨rfl, (Below.refl _ _).alloc (Nat.le_refl _) _⟩
theorem bears_2_011 (a b c n : Int) (S : ByteArray) (w : World) (hs : ¬ S.toList = []) (h2 : 0 ≤ n) (h3 : n ≤ 1) : Calls Tryz.prog 87 #[.agg #[.int .i64 2, .int .i64 a, .int .i64 b, .int .i64 c, .int .i64 n, .string S]] w fun e w' => e = .returned (.bool false) ∧ Below w.heap.size w w' := by
  have hs' : (!S.toList.isEmpty) = true := by simp [hs]
  go_enter Tryz.func87, Tryz.ntmps87
  go_wp2
  go_ret
  exact ⟨rfl, (Below.refl _ _).alloc (Nat.le_refl _) _⟩
theorem bears_2_010 (a b c n : Int) (S : ByteArray) (w : World) (hs : ¬ S.toList = []) (h2 : 0 ≤ n) (h3 : 1 < n) : Calls Tryz.prog 87 #[.agg #[.int .i64 2, .int .i64 a, .int .i64 b, .int .i64 c, .int .i64 n, .string S]] w fun e w' => e = .returned (.bool false) ∧ Below w.heap.size w w' := by
  have hs' : (!S.toList.isEmpty) = true := by simp [hs]
  go_enter Tryz.func87, Tryz.ntmps87
  go_wp2
  go_ret
  exact ⟨rfl, (Below.refl _ _).alloc (Nat.le_refl _) _⟩
theorem bears_2_001 (a b c n : Int) (S : ByteArray) (w : World) (hs : ¬ S.toList = []) (h2 : n < 0) (h3 : n ≤ 1) : Calls Tryz.prog 87 #[.agg #[.int .i64 2, .int .i64 a, .int .i64 b, .int .i64 c, .int .i64 n, .string S]] w fun e w' => e = .returned (.bool false) ∧ Below w.heap.size w w' := by
  have hs' : (!S.toList.isEmpty) = true := by simp [hs]
  go_enter Tryz.func87, Tryz.ntmps87
  go_wp2
  go_ret
  exact ⟨rfl, (Below.refl _ _).alloc (Nat.le_refl _) _⟩
theorem bears_25_111 (a b c n : Int) (S : ByteArray) (w : World) (hs : S.toList = []) (h2 : 0 ≤ n) (h3 : n ≤ 1000) : Calls Tryz.prog 87 #[.agg #[.int .i64 25, .int .i64 a, .int .i64 b, .int .i64 c, .int .i64 n, .string S]] w fun e w' => e = .returned (.bool true) ∧ Below w.heap.size w w' := by
  go_enter Tryz.func87, Tryz.ntmps87
  go_wp2
  go_ret
  exact ⟨rfl, (Below.refl _ _).alloc (Nat.le_refl _) _⟩
theorem bears_25_110 (a b c n : Int) (S : ByteArray) (w : World) (hs : S.toList = []) (h2 : 0 ≤ n) (h3 : 1000 < n) : Calls Tryz.prog 87 #[.agg #[.int .i64 25, .int .i64 a, .int .i64 b, .int .i64 c, .int .i64 n, .string S]] w fun e w' => e = .returned (.bool false) ∧ Below w.heap.size w w' := by
  go_enter Tryz.func87, Tryz.ntmps87
  go_wp2
  go_ret
  exact ⟨rfl, (Below.refl _ _).alloc (Nat.le_refl _) _⟩
theorem bears_25_101 (a b c n : Int) (S : ByteArray) (w : World) (hs : S.toList = []) (h2 : n < 0) (h3 : n ≤ 1000) : Calls Tryz.prog 87 #[.agg #[.int .i64 25, .int .i64 a, .int .i64 b, .int .i64 c, .int .i64 n, .string S]] w fun e w' => e = .returned (.bool false) ∧ Below w.heap.size w w' := by
  go_enter Tryz.func87, Tryz.ntmps87
  go_wp2
  go_ret
  exact ⟨rfl, (Below.refl _ _).alloc (Nat.le_refl _) _⟩
theorem bears_25_011 (a b c n : Int) (S : ByteArray) (w : World) (hs : ¬ S.toList = []) (h2 : 0 ≤ n) (h3 : n ≤ 1000) : Calls Tryz.prog 87 #[.agg #[.int .i64 25, .int .i64 a, .int .i64 b, .int .i64 c, .int .i64 n, .string S]] w fun e w' => e = .returned (.bool false) ∧ Below w.heap.size w w' := by
  have hs' : (!S.toList.isEmpty) = true := by simp [hs]
  go_enter Tryz.func87, Tryz.ntmps87
  go_wp2
  go_ret
  exact ⟨rfl, (Below.refl _ _).alloc (Nat.le_refl _) _⟩
theorem bears_25_010 (a b c n : Int) (S : ByteArray) (w : World) (hs : ¬ S.toList = []) (h2 : 0 ≤ n) (h3 : 1000 < n) : Calls Tryz.prog 87 #[.agg #[.int .i64 25, .int .i64 a, .int .i64 b, .int .i64 c, .int .i64 n, .string S]] w fun e w' => e = .returned (.bool false) ∧ Below w.heap.size w w' := by
  have hs' : (!S.toList.isEmpty) = true := by simp [hs]
  go_enter Tryz.func87, Tryz.ntmps87
  go_wp2
  go_ret
  exact ⟨rfl, (Below.refl _ _).alloc (Nat.le_refl _) _⟩
theorem bears_25_001 (a b c n : Int) (S : ByteArray) (w : World) (hs : ¬ S.toList = []) (h2 : n < 0) (h3 : n ≤ 1000) : Calls Tryz.prog 87 #[.agg #[.int .i64 25, .int .i64 a, .int .i64 b, .int .i64 c, .int .i64 n, .string S]] w fun e w' => e = .returned (.bool false) ∧ Below w.heap.size w w' := by
  have hs' : (!S.toList.isEmpty) = true := by simp [hs]
  go_enter Tryz.func87, Tryz.ntmps87
  go_wp2
  go_ret
  exact ⟨rfl, (Below.refl _ _).alloc (Nat.le_refl _) _⟩
theorem bears_3_111 (a b c n : Int) (S : ByteArray) (w : World) (hs : S.toList = []) (h2 : 0 ≤ n) (h3 : n ≤ 0) : Calls Tryz.prog 87 #[.agg #[.int .i64 3, .int .i64 a, .int .i64 b, .int .i64 c, .int .i64 n, .string S]] w fun e w' => e = .returned (.bool false) ∧ Below w.heap.size w w' := by
  go_enter Tryz.func87, Tryz.ntmps87
  go_wp2
  go_ret
  exact ⟨rfl, (Below.refl _ _).alloc (Nat.le_refl _) _⟩
theorem bears_3_110 (a b c n : Int) (S : ByteArray) (w : World) (hs : S.toList = []) (h2 : 0 ≤ n) (h3 : 0 < n) : Calls Tryz.prog 87 #[.agg #[.int .i64 3, .int .i64 a, .int .i64 b, .int .i64 c, .int .i64 n, .string S]] w fun e w' => e = .returned (.bool false) ∧ Below w.heap.size w w' := by
  go_enter Tryz.func87, Tryz.ntmps87
  go_wp2
  go_ret
  exact ⟨rfl, (Below.refl _ _).alloc (Nat.le_refl _) _⟩
theorem bears_3_101 (a b c n : Int) (S : ByteArray) (w : World) (hs : S.toList = []) (h2 : n < 0) (h3 : n ≤ 0) : Calls Tryz.prog 87 #[.agg #[.int .i64 3, .int .i64 a, .int .i64 b, .int .i64 c, .int .i64 n, .string S]] w fun e w' => e = .returned (.bool false) ∧ Below w.heap.size w w' := by
  go_enter Tryz.func87, Tryz.ntmps87
  go_wp2
  go_ret
  exact ⟨rfl, (Below.refl _ _).alloc (Nat.le_refl _) _⟩
theorem bears_3_011 (a b c n : Int) (S : ByteArray) (w : World) (hs : ¬ S.toList = []) (h2 : 0 ≤ n) (h3 : n ≤ 0) : Calls Tryz.prog 87 #[.agg #[.int .i64 3, .int .i64 a, .int .i64 b, .int .i64 c, .int .i64 n, .string S]] w fun e w' => e = .returned (.bool true) ∧ Below w.heap.size w w' := by
  have hs' : (!S.toList.isEmpty) = true := by simp [hs]
  go_enter Tryz.func87, Tryz.ntmps87
  go_wp2
  go_ret
  exact ⟨rfl, (Below.refl _ _).alloc (Nat.le_refl _) _⟩
theorem bears_3_010 (a b c n : Int) (S : ByteArray) (w : World) (hs : ¬ S.toList = []) (h2 : 0 ≤ n) (h3 : 0 < n) : Calls Tryz.prog 87 #[.agg #[.int .i64 3, .int .i64 a, .int .i64 b, .int .i64 c, .int .i64 n, .string S]] w fun e w' => e = .returned (.bool false) ∧ Below w.heap.size w w' := by
  have hs' : (!S.toList.isEmpty) = true := by simp [hs]
  go_enter Tryz.func87, Tryz.ntmps87
  go_wp2
  go_ret
  exact ⟨rfl, (Below.refl _ _).alloc (Nat.le_refl _) _⟩
theorem bears_3_001 (a b c n : Int) (S : ByteArray) (w : World) (hs : ¬ S.toList = []) (h2 : n < 0) (h3 : n ≤ 0) : Calls Tryz.prog 87 #[.agg #[.int .i64 3, .int .i64 a, .int .i64 b, .int .i64 c, .int .i64 n, .string S]] w fun e w' => e = .returned (.bool false) ∧ Below w.heap.size w w' := by
  have hs' : (!S.toList.isEmpty) = true := by simp [hs]
  go_enter Tryz.func87, Tryz.ntmps87
  go_wp2
  go_ret
  exact ⟨rfl, (Below.refl _ _).alloc (Nat.le_refl _) _⟩
theorem bears_27_111 (a b c n : Int) (S : ByteArray) (w : World) (hs : S.toList = []) (h2 : 0 ≤ n) (h3 : n ≤ 0) : Calls Tryz.prog 87 #[.agg #[.int .i64 27, .int .i64 a, .int .i64 b, .int .i64 c, .int .i64 n, .string S]] w fun e w' => e = .returned (.bool false) ∧ Below w.heap.size w w' := by
  go_enter Tryz.func87, Tryz.ntmps87
  go_wp2
  go_ret
  exact ⟨rfl, (Below.refl _ _).alloc (Nat.le_refl _) _⟩
theorem bears_27_110 (a b c n : Int) (S : ByteArray) (w : World) (hs : S.toList = []) (h2 : 0 ≤ n) (h3 : 0 < n) : Calls Tryz.prog 87 #[.agg #[.int .i64 27, .int .i64 a, .int .i64 b, .int .i64 c, .int .i64 n, .string S]] w fun e w' => e = .returned (.bool false) ∧ Below w.heap.size w w' := by
  go_enter Tryz.func87, Tryz.ntmps87
  go_wp2
  go_ret
  exact ⟨rfl, (Below.refl _ _).alloc (Nat.le_refl _) _⟩
theorem bears_27_101 (a b c n : Int) (S : ByteArray) (w : World) (hs : S.toList = []) (h2 : n < 0) (h3 : n ≤ 0) : Calls Tryz.prog 87 #[.agg #[.int .i64 27, .int .i64 a, .int .i64 b, .int .i64 c, .int .i64 n, .string S]] w fun e w' => e = .returned (.bool false) ∧ Below w.heap.size w w' := by
  go_enter Tryz.func87, Tryz.ntmps87
  go_wp2
  go_ret
  exact ⟨rfl, (Below.refl _ _).alloc (Nat.le_refl _) _⟩
theorem bears_27_011 (a b c n : Int) (S : ByteArray) (w : World) (hs : ¬ S.toList = []) (h2 : 0 ≤ n) (h3 : n ≤ 0) : Calls Tryz.prog 87 #[.agg #[.int .i64 27, .int .i64 a, .int .i64 b, .int .i64 c, .int .i64 n, .string S]] w fun e w' => e = .returned (.bool true) ∧ Below w.heap.size w w' := by
  have hs' : (!S.toList.isEmpty) = true := by simp [hs]
  go_enter Tryz.func87, Tryz.ntmps87
  go_wp2
  go_ret
  exact ⟨rfl, (Below.refl _ _).alloc (Nat.le_refl _) _⟩
theorem bears_27_010 (a b c n : Int) (S : ByteArray) (w : World) (hs : ¬ S.toList = []) (h2 : 0 ≤ n) (h3 : 0 < n) : Calls Tryz.prog 87 #[.agg #[.int .i64 27, .int .i64 a, .int .i64 b, .int .i64 c, .int .i64 n, .string S]] w fun e w' => e = .returned (.bool false) ∧ Below w.heap.size w w' := by
  have hs' : (!S.toList.isEmpty) = true := by simp [hs]
  go_enter Tryz.func87, Tryz.ntmps87
  go_wp2
  go_ret
  exact ⟨rfl, (Below.refl _ _).alloc (Nat.le_refl _) _⟩
theorem bears_27_001 (a b c n : Int) (S : ByteArray) (w : World) (hs : ¬ S.toList = []) (h2 : n < 0) (h3 : n ≤ 0) : Calls Tryz.prog 87 #[.agg #[.int .i64 27, .int .i64 a, .int .i64 b, .int .i64 c, .int .i64 n, .string S]] w fun e w' => e = .returned (.bool false) ∧ Below w.heap.size w w' := by
  have hs' : (!S.toList.isEmpty) = true := by simp [hs]
  go_enter Tryz.func87, Tryz.ntmps87
  go_wp2
  go_ret
  exact ⟨rfl, (Below.refl _ _).alloc (Nat.le_refl _) _⟩
theorem bears_o_111y (o a b c n : Int) (S : ByteArray) (w : World) (hs : S.toList = []) (h2 : 0 ≤ n) (h3 : n ≤ 0) (g1 : (o == 1) = false) (g2 : (o == 2) = false) (g25 : (o == 25) = false) (g3 : (o == 3) = false) (g27 : (o == 27) = false) (r1 : 1 ≤ o) (r2 : o ≤ 28) : Calls Tryz.prog 87 #[.agg #[.int .i64 o, .int .i64 a, .int .i64 b, .int .i64 c, .int .i64 n, .string S]] w fun e w' => e = .returned (.bool true) ∧ Below w.heap.size w w' := by
  go_enter Tryz.func87, Tryz.ntmps87
  go_wp2
  go_ret
  exact ⟨rfl, (Below.refl _ _).alloc (Nat.le_refl _) _⟩
theorem bears_o_111x (o a b c n : Int) (S : ByteArray) (w : World) (hs : S.toList = []) (h2 : 0 ≤ n) (h3 : n ≤ 0) (g1 : (o == 1) = false) (g2 : (o == 2) = false) (g25 : (o == 25) = false) (g3 : (o == 3) = false) (g27 : (o == 27) = false) (r1 : 1 ≤ o) (r2 : 28 < o) : Calls Tryz.prog 87 #[.agg #[.int .i64 o, .int .i64 a, .int .i64 b, .int .i64 c, .int .i64 n, .string S]] w fun e w' => e = .returned (.bool false) ∧ Below w.heap.size w w' := by
  go_enter Tryz.func87, Tryz.ntmps87
  go_wp2
  go_ret
  exact ⟨rfl, (Below.refl _ _).alloc (Nat.le_refl _) _⟩
theorem bears_o_111z (o a b c n : Int) (S : ByteArray) (w : World) (hs : S.toList = []) (h2 : 0 ≤ n) (h3 : n ≤ 0) (g1 : (o == 1) = false) (g2 : (o == 2) = false) (g25 : (o == 25) = false) (g3 : (o == 3) = false) (g27 : (o == 27) = false) (r1 : o < 1) (r2 : o ≤ 28) : Calls Tryz.prog 87 #[.agg #[.int .i64 o, .int .i64 a, .int .i64 b, .int .i64 c, .int .i64 n, .string S]] w fun e w' => e = .returned (.bool false) ∧ Below w.heap.size w w' := by
  go_enter Tryz.func87, Tryz.ntmps87
  go_wp2
  go_ret
  exact ⟨rfl, (Below.refl _ _).alloc (Nat.le_refl _) _⟩
theorem bears_o_110y (o a b c n : Int) (S : ByteArray) (w : World) (hs : S.toList = []) (h2 : 0 ≤ n) (h3 : 0 < n) (g1 : (o == 1) = false) (g2 : (o == 2) = false) (g25 : (o == 25) = false) (g3 : (o == 3) = false) (g27 : (o == 27) = false) (r1 : 1 ≤ o) (r2 : o ≤ 28) : Calls Tryz.prog 87 #[.agg #[.int .i64 o, .int .i64 a, .int .i64 b, .int .i64 c, .int .i64 n, .string S]] w fun e w' => e = .returned (.bool false) ∧ Below w.heap.size w w' := by
  go_enter Tryz.func87, Tryz.ntmps87
  go_wp2
  go_ret
  exact ⟨rfl, (Below.refl _ _).alloc (Nat.le_refl _) _⟩
theorem bears_o_110x (o a b c n : Int) (S : ByteArray) (w : World) (hs : S.toList = []) (h2 : 0 ≤ n) (h3 : 0 < n) (g1 : (o == 1) = false) (g2 : (o == 2) = false) (g25 : (o == 25) = false) (g3 : (o == 3) = false) (g27 : (o == 27) = false) (r1 : 1 ≤ o) (r2 : 28 < o) : Calls Tryz.prog 87 #[.agg #[.int .i64 o, .int .i64 a, .int .i64 b, .int .i64 c, .int .i64 n, .string S]] w fun e w' => e = .returned (.bool false) ∧ Below w.heap.size w w' := by
  go_enter Tryz.func87, Tryz.ntmps87
  go_wp2
  go_ret
  exact ⟨rfl, (Below.refl _ _).alloc (Nat.le_refl _) _⟩
theorem bears_o_110z (o a b c n : Int) (S : ByteArray) (w : World) (hs : S.toList = []) (h2 : 0 ≤ n) (h3 : 0 < n) (g1 : (o == 1) = false) (g2 : (o == 2) = false) (g25 : (o == 25) = false) (g3 : (o == 3) = false) (g27 : (o == 27) = false) (r1 : o < 1) (r2 : o ≤ 28) : Calls Tryz.prog 87 #[.agg #[.int .i64 o, .int .i64 a, .int .i64 b, .int .i64 c, .int .i64 n, .string S]] w fun e w' => e = .returned (.bool false) ∧ Below w.heap.size w w' := by
  go_enter Tryz.func87, Tryz.ntmps87
  go_wp2
  go_ret
  exact ⟨rfl, (Below.refl _ _).alloc (Nat.le_refl _) _⟩
theorem bears_o_101y (o a b c n : Int) (S : ByteArray) (w : World) (hs : S.toList = []) (h2 : n < 0) (h3 : n ≤ 0) (g1 : (o == 1) = false) (g2 : (o == 2) = false) (g25 : (o == 25) = false) (g3 : (o == 3) = false) (g27 : (o == 27) = false) (r1 : 1 ≤ o) (r2 : o ≤ 28) : Calls Tryz.prog 87 #[.agg #[.int .i64 o, .int .i64 a, .int .i64 b, .int .i64 c, .int .i64 n, .string S]] w fun e w' => e = .returned (.bool false) ∧ Below w.heap.size w w' := by
  go_enter Tryz.func87, Tryz.ntmps87
  go_wp2
  go_ret
  exact ⟨rfl, (Below.refl _ _).alloc (Nat.le_refl _) _⟩
theorem bears_o_101x (o a b c n : Int) (S : ByteArray) (w : World) (hs : S.toList = []) (h2 : n < 0) (h3 : n ≤ 0) (g1 : (o == 1) = false) (g2 : (o == 2) = false) (g25 : (o == 25) = false) (g3 : (o == 3) = false) (g27 : (o == 27) = false) (r1 : 1 ≤ o) (r2 : 28 < o) : Calls Tryz.prog 87 #[.agg #[.int .i64 o, .int .i64 a, .int .i64 b, .int .i64 c, .int .i64 n, .string S]] w fun e w' => e = .returned (.bool false) ∧ Below w.heap.size w w' := by
  go_enter Tryz.func87, Tryz.ntmps87
  go_wp2
  go_ret
  exact ⟨rfl, (Below.refl _ _).alloc (Nat.le_refl _) _⟩
theorem bears_o_101z (o a b c n : Int) (S : ByteArray) (w : World) (hs : S.toList = []) (h2 : n < 0) (h3 : n ≤ 0) (g1 : (o == 1) = false) (g2 : (o == 2) = false) (g25 : (o == 25) = false) (g3 : (o == 3) = false) (g27 : (o == 27) = false) (r1 : o < 1) (r2 : o ≤ 28) : Calls Tryz.prog 87 #[.agg #[.int .i64 o, .int .i64 a, .int .i64 b, .int .i64 c, .int .i64 n, .string S]] w fun e w' => e = .returned (.bool false) ∧ Below w.heap.size w w' := by
  go_enter Tryz.func87, Tryz.ntmps87
  go_wp2
  go_ret
  exact ⟨rfl, (Below.refl _ _).alloc (Nat.le_refl _) _⟩
theorem bears_o_011y (o a b c n : Int) (S : ByteArray) (w : World) (hs : ¬ S.toList = []) (h2 : 0 ≤ n) (h3 : n ≤ 0) (g1 : (o == 1) = false) (g2 : (o == 2) = false) (g25 : (o == 25) = false) (g3 : (o == 3) = false) (g27 : (o == 27) = false) (r1 : 1 ≤ o) (r2 : o ≤ 28) : Calls Tryz.prog 87 #[.agg #[.int .i64 o, .int .i64 a, .int .i64 b, .int .i64 c, .int .i64 n, .string S]] w fun e w' => e = .returned (.bool false) ∧ Below w.heap.size w w' := by
  have hs' : (!S.toList.isEmpty) = true := by simp [hs]
  go_enter Tryz.func87, Tryz.ntmps87
  go_wp2
  go_ret
  exact ⟨rfl, (Below.refl _ _).alloc (Nat.le_refl _) _⟩
theorem bears_o_011x (o a b c n : Int) (S : ByteArray) (w : World) (hs : ¬ S.toList = []) (h2 : 0 ≤ n) (h3 : n ≤ 0) (g1 : (o == 1) = false) (g2 : (o == 2) = false) (g25 : (o == 25) = false) (g3 : (o == 3) = false) (g27 : (o == 27) = false) (r1 : 1 ≤ o) (r2 : 28 < o) : Calls Tryz.prog 87 #[.agg #[.int .i64 o, .int .i64 a, .int .i64 b, .int .i64 c, .int .i64 n, .string S]] w fun e w' => e = .returned (.bool false) ∧ Below w.heap.size w w' := by
  have hs' : (!S.toList.isEmpty) = true := by simp [hs]
  go_enter Tryz.func87, Tryz.ntmps87
  go_wp2
  go_ret
  exact ⟨rfl, (Below.refl _ _).alloc (Nat.le_refl _) _⟩
theorem bears_o_011z (o a b c n : Int) (S : ByteArray) (w : World) (hs : ¬ S.toList = []) (h2 : 0 ≤ n) (h3 : n ≤ 0) (g1 : (o == 1) = false) (g2 : (o == 2) = false) (g25 : (o == 25) = false) (g3 : (o == 3) = false) (g27 : (o == 27) = false) (r1 : o < 1) (r2 : o ≤ 28) : Calls Tryz.prog 87 #[.agg #[.int .i64 o, .int .i64 a, .int .i64 b, .int .i64 c, .int .i64 n, .string S]] w fun e w' => e = .returned (.bool false) ∧ Below w.heap.size w w' := by
  have hs' : (!S.toList.isEmpty) = true := by simp [hs]
  go_enter Tryz.func87, Tryz.ntmps87
  go_wp2
  go_ret
  exact ⟨rfl, (Below.refl _ _).alloc (Nat.le_refl _) _⟩
theorem bears_o_010y (o a b c n : Int) (S : ByteArray) (w : World) (hs : ¬ S.toList = []) (h2 : 0 ≤ n) (h3 : 0 < n) (g1 : (o == 1) = false) (g2 : (o == 2) = false) (g25 : (o == 25) = false) (g3 : (o == 3) = false) (g27 : (o == 27) = false) (r1 : 1 ≤ o) (r2 : o ≤ 28) : Calls Tryz.prog 87 #[.agg #[.int .i64 o, .int .i64 a, .int .i64 b, .int .i64 c, .int .i64 n, .string S]] w fun e w' => e = .returned (.bool false) ∧ Below w.heap.size w w' := by
  have hs' : (!S.toList.isEmpty) = true := by simp [hs]
  go_enter Tryz.func87, Tryz.ntmps87
  go_wp2
  go_ret
  exact ⟨rfl, (Below.refl _ _).alloc (Nat.le_refl _) _⟩
theorem bears_o_010x (o a b c n : Int) (S : ByteArray) (w : World) (hs : ¬ S.toList = []) (h2 : 0 ≤ n) (h3 : 0 < n) (g1 : (o == 1) = false) (g2 : (o == 2) = false) (g25 : (o == 25) = false) (g3 : (o == 3) = false) (g27 : (o == 27) = false) (r1 : 1 ≤ o) (r2 : 28 < o) : Calls Tryz.prog 87 #[.agg #[.int .i64 o, .int .i64 a, .int .i64 b, .int .i64 c, .int .i64 n, .string S]] w fun e w' => e = .returned (.bool false) ∧ Below w.heap.size w w' := by
  have hs' : (!S.toList.isEmpty) = true := by simp [hs]
  go_enter Tryz.func87, Tryz.ntmps87
  go_wp2
  go_ret
  exact ⟨rfl, (Below.refl _ _).alloc (Nat.le_refl _) _⟩
theorem bears_o_010z (o a b c n : Int) (S : ByteArray) (w : World) (hs : ¬ S.toList = []) (h2 : 0 ≤ n) (h3 : 0 < n) (g1 : (o == 1) = false) (g2 : (o == 2) = false) (g25 : (o == 25) = false) (g3 : (o == 3) = false) (g27 : (o == 27) = false) (r1 : o < 1) (r2 : o ≤ 28) : Calls Tryz.prog 87 #[.agg #[.int .i64 o, .int .i64 a, .int .i64 b, .int .i64 c, .int .i64 n, .string S]] w fun e w' => e = .returned (.bool false) ∧ Below w.heap.size w w' := by
  have hs' : (!S.toList.isEmpty) = true := by simp [hs]
  go_enter Tryz.func87, Tryz.ntmps87
  go_wp2
  go_ret
  exact ⟨rfl, (Below.refl _ _).alloc (Nat.le_refl _) _⟩
theorem bears_o_001y (o a b c n : Int) (S : ByteArray) (w : World) (hs : ¬ S.toList = []) (h2 : n < 0) (h3 : n ≤ 0) (g1 : (o == 1) = false) (g2 : (o == 2) = false) (g25 : (o == 25) = false) (g3 : (o == 3) = false) (g27 : (o == 27) = false) (r1 : 1 ≤ o) (r2 : o ≤ 28) : Calls Tryz.prog 87 #[.agg #[.int .i64 o, .int .i64 a, .int .i64 b, .int .i64 c, .int .i64 n, .string S]] w fun e w' => e = .returned (.bool false) ∧ Below w.heap.size w w' := by
  have hs' : (!S.toList.isEmpty) = true := by simp [hs]
  go_enter Tryz.func87, Tryz.ntmps87
  go_wp2
  go_ret
  exact ⟨rfl, (Below.refl _ _).alloc (Nat.le_refl _) _⟩
theorem bears_o_001x (o a b c n : Int) (S : ByteArray) (w : World) (hs : ¬ S.toList = []) (h2 : n < 0) (h3 : n ≤ 0) (g1 : (o == 1) = false) (g2 : (o == 2) = false) (g25 : (o == 25) = false) (g3 : (o == 3) = false) (g27 : (o == 27) = false) (r1 : 1 ≤ o) (r2 : 28 < o) : Calls Tryz.prog 87 #[.agg #[.int .i64 o, .int .i64 a, .int .i64 b, .int .i64 c, .int .i64 n, .string S]] w fun e w' => e = .returned (.bool false) ∧ Below w.heap.size w w' := by
  have hs' : (!S.toList.isEmpty) = true := by simp [hs]
  go_enter Tryz.func87, Tryz.ntmps87
  go_wp2
  go_ret
  exact ⟨rfl, (Below.refl _ _).alloc (Nat.le_refl _) _⟩
theorem bears_o_001z (o a b c n : Int) (S : ByteArray) (w : World) (hs : ¬ S.toList = []) (h2 : n < 0) (h3 : n ≤ 0) (g1 : (o == 1) = false) (g2 : (o == 2) = false) (g25 : (o == 25) = false) (g3 : (o == 3) = false) (g27 : (o == 27) = false) (r1 : o < 1) (r2 : o ≤ 28) : Calls Tryz.prog 87 #[.agg #[.int .i64 o, .int .i64 a, .int .i64 b, .int .i64 c, .int .i64 n, .string S]] w fun e w' => e = .returned (.bool false) ∧ Below w.heap.size w w' := by
  have hs' : (!S.toList.isEmpty) = true := by simp [hs]
  go_enter Tryz.func87, Tryz.ntmps87
  go_wp2
  go_ret
  exact ⟨by first | rfl | exact ret_bool (by simp <;> omega), (Below.refl _ _).alloc (Nat.le_refl _) _⟩
set_option maxHeartbeats 1600000 in
theorem bears_any (x : Nd) (w : World) : Calls Tryz.prog 87 #[.agg #[.int .i64 x.op, .int .i64 x.a, .int .i64 x.b, .int .i64 x.c, .int .i64 x.n, .string (str x.name)]] w
    fun e w' => e = .returned (.bool (plainB x.lab)) ∧ Below w.heap.size w w' := by
  obtain ⟨o, a, b, c, n, s⟩ := x
  show Calls Tryz.prog 87 #[.agg #[.int .i64 o, .int .i64 a, .int .i64 b, .int .i64 c, .int .i64 n, .string (str s)]] w fun e w' => e = .returned (.bool (plainB ⟨o, n, s⟩)) ∧ Below w.heap.size w w'
  by_cases hs : s = []
  · have hS : (str s).toList = [] := by rw [str_toList]; exact hs
    by_cases q1 : o = 1
    · subst q1
      by_cases h2 : 0 ≤ n
      · by_cases h3 : n ≤ 2147483647
        · have h := bears_1_111 a b c n (str s) w hS h2 h3; refine h.mono fun e w' ⟨h1, h2⟩ => ⟨h1.trans (ret_bool ?_), h2⟩; simp [hs, plainB] <;> omega
        · have h := bears_1_110 a b c n (str s) w hS h2 (by omega); refine h.mono fun e w' ⟨h1, h2⟩ => ⟨h1.trans (ret_bool ?_), h2⟩; simp [hs, plainB] <;> omega
      · have h := bears_1_101 a b c n (str s) w hS (by omega) (by omega); refine h.mono fun e w' ⟨h1, h2⟩ => ⟨h1.trans (ret_bool ?_), h2⟩; simp [hs, plainB] <;> omega
    by_cases q2 : o = 2
    · subst q2
      by_cases h2 : 0 ≤ n
      · by_cases h3 : n ≤ 1
        · have h := bears_2_111 a b c n (str s) w hS h2 h3; refine h.mono fun e w' ⟨h1, h2⟩ => ⟨h1.trans (ret_bool ?_), h2⟩; simp [hs, plainB] <;> omega
        · have h := bears_2_110 a b c n (str s) w hS h2 (by omega); refine h.mono fun e w' ⟨h1, h2⟩ => ⟨h1.trans (ret_bool ?_), h2⟩; simp [hs, plainB] <;> omega
      · have h := bears_2_101 a b c n (str s) w hS (by omega) (by omega); refine h.mono fun e w' ⟨h1, h2⟩ => ⟨h1.trans (ret_bool ?_), h2⟩; simp [hs, plainB] <;> omega
    by_cases q25 : o = 25
    · subst q25
      by_cases h2 : 0 ≤ n
      · by_cases h3 : n ≤ 1000
        · have h := bears_25_111 a b c n (str s) w hS h2 h3; refine h.mono fun e w' ⟨h1, h2⟩ => ⟨h1.trans (ret_bool ?_), h2⟩; simp [hs, plainB] <;> omega
        · have h := bears_25_110 a b c n (str s) w hS h2 (by omega); refine h.mono fun e w' ⟨h1, h2⟩ => ⟨h1.trans (ret_bool ?_), h2⟩; simp [hs, plainB] <;> omega
      · have h := bears_25_101 a b c n (str s) w hS (by omega) (by omega); refine h.mono fun e w' ⟨h1, h2⟩ => ⟨h1.trans (ret_bool ?_), h2⟩; simp [hs, plainB] <;> omega
    by_cases q3 : o = 3
    · subst q3
      by_cases h2 : 0 ≤ n
      · by_cases h3 : n ≤ 0
        · have h := bears_3_111 a b c n (str s) w hS h2 h3; refine h.mono fun e w' ⟨h1, h2⟩ => ⟨h1.trans (ret_bool ?_), h2⟩; simp [hs, plainB] <;> omega
        · have h := bears_3_110 a b c n (str s) w hS h2 (by omega); refine h.mono fun e w' ⟨h1, h2⟩ => ⟨h1.trans (ret_bool ?_), h2⟩; simp [hs, plainB] <;> omega
      · have h := bears_3_101 a b c n (str s) w hS (by omega) (by omega); refine h.mono fun e w' ⟨h1, h2⟩ => ⟨h1.trans (ret_bool ?_), h2⟩; simp [hs, plainB] <;> omega
    by_cases q27 : o = 27
    · subst q27
      by_cases h2 : 0 ≤ n
      · by_cases h3 : n ≤ 0
        · have h := bears_27_111 a b c n (str s) w hS h2 h3; refine h.mono fun e w' ⟨h1, h2⟩ => ⟨h1.trans (ret_bool ?_), h2⟩; simp [hs, plainB] <;> omega
        · have h := bears_27_110 a b c n (str s) w hS h2 (by omega); refine h.mono fun e w' ⟨h1, h2⟩ => ⟨h1.trans (ret_bool ?_), h2⟩; simp [hs, plainB] <;> omega
      · have h := bears_27_101 a b c n (str s) w hS (by omega) (by omega); refine h.mono fun e w' ⟨h1, h2⟩ => ⟨h1.trans (ret_bool ?_), h2⟩; simp [hs, plainB] <;> omega
    by_cases r1 : 1 ≤ o
    · by_cases r2 : o ≤ 28
      · skip
        by_cases h2 : 0 ≤ n
        · by_cases h3 : n ≤ 0
          · have h := bears_o_111y o a b c n (str s) w hS h2 h3 (by simp [q1]) (by simp [q2]) (by simp [q25]) (by simp [q3]) (by simp [q27]) r1 r2; refine h.mono fun e w' ⟨h1, h2⟩ => ⟨h1.trans (ret_bool ?_), h2⟩; have eo : (o == 3 || o == 27) = false := (by simp [q3, q27]); simp [hs, plainB, eo, q1, q2, q25, q3, q27, bne_nil s] <;> (try intros) <;> omega
          · have h := bears_o_110y o a b c n (str s) w hS h2 (by omega) (by simp [q1]) (by simp [q2]) (by simp [q25]) (by simp [q3]) (by simp [q27]) r1 r2; refine h.mono fun e w' ⟨h1, h2⟩ => ⟨h1.trans (ret_bool ?_), h2⟩; have eo : (o == 3 || o == 27) = false := (by simp [q3, q27]); simp [hs, plainB, eo, q1, q2, q25, q3, q27, bne_nil s] <;> (try intros) <;> omega
        · have h := bears_o_101y o a b c n (str s) w hS (by omega) (by omega) (by simp [q1]) (by simp [q2]) (by simp [q25]) (by simp [q3]) (by simp [q27]) r1 r2; refine h.mono fun e w' ⟨h1, h2⟩ => ⟨h1.trans (ret_bool ?_), h2⟩; have eo : (o == 3 || o == 27) = false := (by simp [q3, q27]); simp [hs, plainB, eo, q1, q2, q25, q3, q27, bne_nil s] <;> (try intros) <;> omega
      · skip
        by_cases h2 : 0 ≤ n
        · by_cases h3 : n ≤ 0
          · have h := bears_o_111x o a b c n (str s) w hS h2 h3 (by simp [q1]) (by simp [q2]) (by simp [q25]) (by simp [q3]) (by simp [q27]) r1 (by omega); refine h.mono fun e w' ⟨h1, h2⟩ => ⟨h1.trans (ret_bool ?_), h2⟩; have eo : (o == 3 || o == 27) = false := (by simp [q3, q27]); simp [hs, plainB, eo, q1, q2, q25, q3, q27, bne_nil s] <;> (try intros) <;> omega
          · have h := bears_o_110x o a b c n (str s) w hS h2 (by omega) (by simp [q1]) (by simp [q2]) (by simp [q25]) (by simp [q3]) (by simp [q27]) r1 (by omega); refine h.mono fun e w' ⟨h1, h2⟩ => ⟨h1.trans (ret_bool ?_), h2⟩; have eo : (o == 3 || o == 27) = false := (by simp [q3, q27]); simp [hs, plainB, eo, q1, q2, q25, q3, q27, bne_nil s] <;> (try intros) <;> omega
        · have h := bears_o_101x o a b c n (str s) w hS (by omega) (by omega) (by simp [q1]) (by simp [q2]) (by simp [q25]) (by simp [q3]) (by simp [q27]) r1 (by omega); refine h.mono fun e w' ⟨h1, h2⟩ => ⟨h1.trans (ret_bool ?_), h2⟩; have eo : (o == 3 || o == 27) = false := (by simp [q3, q27]); simp [hs, plainB, eo, q1, q2, q25, q3, q27, bne_nil s] <;> (try intros) <;> omega
    · skip
      by_cases h2 : 0 ≤ n
      · by_cases h3 : n ≤ 0
        · have h := bears_o_111z o a b c n (str s) w hS h2 h3 (by simp [q1]) (by simp [q2]) (by simp [q25]) (by simp [q3]) (by simp [q27]) (by omega) (by omega); refine h.mono fun e w' ⟨h1, h2⟩ => ⟨h1.trans (ret_bool ?_), h2⟩; have eo : (o == 3 || o == 27) = false := (by simp [q3, q27]); simp [hs, plainB, eo, q1, q2, q25, q3, q27, bne_nil s] <;> (try intros) <;> omega
        · have h := bears_o_110z o a b c n (str s) w hS h2 (by omega) (by simp [q1]) (by simp [q2]) (by simp [q25]) (by simp [q3]) (by simp [q27]) (by omega) (by omega); refine h.mono fun e w' ⟨h1, h2⟩ => ⟨h1.trans (ret_bool ?_), h2⟩; have eo : (o == 3 || o == 27) = false := (by simp [q3, q27]); simp [hs, plainB, eo, q1, q2, q25, q3, q27, bne_nil s] <;> (try intros) <;> omega
      · have h := bears_o_101z o a b c n (str s) w hS (by omega) (by omega) (by simp [q1]) (by simp [q2]) (by simp [q25]) (by simp [q3]) (by simp [q27]) (by omega) (by omega); refine h.mono fun e w' ⟨h1, h2⟩ => ⟨h1.trans (ret_bool ?_), h2⟩; have eo : (o == 3 || o == 27) = false := (by simp [q3, q27]); simp [hs, plainB, eo, q1, q2, q25, q3, q27, bne_nil s] <;> (try intros) <;> omega
  · have hS : ¬ (str s).toList = [] := by rw [str_toList]; exact hs
    by_cases q1 : o = 1
    · subst q1
      by_cases h2 : 0 ≤ n
      · by_cases h3 : n ≤ 2147483647
        · have h := bears_1_011 a b c n (str s) w hS h2 h3; refine h.mono fun e w' ⟨h1, h2⟩ => ⟨h1.trans (ret_bool ?_), h2⟩; simp [hs, plainB] <;> omega
        · have h := bears_1_010 a b c n (str s) w hS h2 (by omega); refine h.mono fun e w' ⟨h1, h2⟩ => ⟨h1.trans (ret_bool ?_), h2⟩; simp [hs, plainB] <;> omega
      · have h := bears_1_001 a b c n (str s) w hS (by omega) (by omega); refine h.mono fun e w' ⟨h1, h2⟩ => ⟨h1.trans (ret_bool ?_), h2⟩; simp [hs, plainB] <;> omega
    by_cases q2 : o = 2
    · subst q2
      by_cases h2 : 0 ≤ n
      · by_cases h3 : n ≤ 1
        · have h := bears_2_011 a b c n (str s) w hS h2 h3; refine h.mono fun e w' ⟨h1, h2⟩ => ⟨h1.trans (ret_bool ?_), h2⟩; simp [hs, plainB] <;> omega
        · have h := bears_2_010 a b c n (str s) w hS h2 (by omega); refine h.mono fun e w' ⟨h1, h2⟩ => ⟨h1.trans (ret_bool ?_), h2⟩; simp [hs, plainB] <;> omega
      · have h := bears_2_001 a b c n (str s) w hS (by omega) (by omega); refine h.mono fun e w' ⟨h1, h2⟩ => ⟨h1.trans (ret_bool ?_), h2⟩; simp [hs, plainB] <;> omega
    by_cases q25 : o = 25
    · subst q25
      by_cases h2 : 0 ≤ n
      · by_cases h3 : n ≤ 1000
        · have h := bears_25_011 a b c n (str s) w hS h2 h3; refine h.mono fun e w' ⟨h1, h2⟩ => ⟨h1.trans (ret_bool ?_), h2⟩; simp [hs, plainB] <;> omega
        · have h := bears_25_010 a b c n (str s) w hS h2 (by omega); refine h.mono fun e w' ⟨h1, h2⟩ => ⟨h1.trans (ret_bool ?_), h2⟩; simp [hs, plainB] <;> omega
      · have h := bears_25_001 a b c n (str s) w hS (by omega) (by omega); refine h.mono fun e w' ⟨h1, h2⟩ => ⟨h1.trans (ret_bool ?_), h2⟩; simp [hs, plainB] <;> omega
    by_cases q3 : o = 3
    · subst q3
      by_cases h2 : 0 ≤ n
      · by_cases h3 : n ≤ 0
        · have h := bears_3_011 a b c n (str s) w hS h2 h3; refine h.mono fun e w' ⟨h1, h2⟩ => ⟨h1.trans (ret_bool ?_), h2⟩; simp [hs, plainB] <;> omega
        · have h := bears_3_010 a b c n (str s) w hS h2 (by omega); refine h.mono fun e w' ⟨h1, h2⟩ => ⟨h1.trans (ret_bool ?_), h2⟩; simp [hs, plainB] <;> omega
      · have h := bears_3_001 a b c n (str s) w hS (by omega) (by omega); refine h.mono fun e w' ⟨h1, h2⟩ => ⟨h1.trans (ret_bool ?_), h2⟩; simp [hs, plainB] <;> omega
    by_cases q27 : o = 27
    · subst q27
      by_cases h2 : 0 ≤ n
      · by_cases h3 : n ≤ 0
        · have h := bears_27_011 a b c n (str s) w hS h2 h3; refine h.mono fun e w' ⟨h1, h2⟩ => ⟨h1.trans (ret_bool ?_), h2⟩; simp [hs, plainB] <;> omega
        · have h := bears_27_010 a b c n (str s) w hS h2 (by omega); refine h.mono fun e w' ⟨h1, h2⟩ => ⟨h1.trans (ret_bool ?_), h2⟩; simp [hs, plainB] <;> omega
      · have h := bears_27_001 a b c n (str s) w hS (by omega) (by omega); refine h.mono fun e w' ⟨h1, h2⟩ => ⟨h1.trans (ret_bool ?_), h2⟩; simp [hs, plainB] <;> omega
    by_cases r1 : 1 ≤ o
    · by_cases r2 : o ≤ 28
      · skip
        by_cases h2 : 0 ≤ n
        · by_cases h3 : n ≤ 0
          · have h := bears_o_011y o a b c n (str s) w hS h2 h3 (by simp [q1]) (by simp [q2]) (by simp [q25]) (by simp [q3]) (by simp [q27]) r1 r2; refine h.mono fun e w' ⟨h1, h2⟩ => ⟨h1.trans (ret_bool ?_), h2⟩; have eo : (o == 3 || o == 27) = false := (by simp [q3, q27]); simp [hs, plainB, eo, q1, q2, q25, q3, q27, bne_nil s] <;> (try intros) <;> omega
          · have h := bears_o_010y o a b c n (str s) w hS h2 (by omega) (by simp [q1]) (by simp [q2]) (by simp [q25]) (by simp [q3]) (by simp [q27]) r1 r2; refine h.mono fun e w' ⟨h1, h2⟩ => ⟨h1.trans (ret_bool ?_), h2⟩; have eo : (o == 3 || o == 27) = false := (by simp [q3, q27]); simp [hs, plainB, eo, q1, q2, q25, q3, q27, bne_nil s] <;> (try intros) <;> omega
        · have h := bears_o_001y o a b c n (str s) w hS (by omega) (by omega) (by simp [q1]) (by simp [q2]) (by simp [q25]) (by simp [q3]) (by simp [q27]) r1 r2; refine h.mono fun e w' ⟨h1, h2⟩ => ⟨h1.trans (ret_bool ?_), h2⟩; have eo : (o == 3 || o == 27) = false := (by simp [q3, q27]); simp [hs, plainB, eo, q1, q2, q25, q3, q27, bne_nil s] <;> (try intros) <;> omega
      · skip
        by_cases h2 : 0 ≤ n
        · by_cases h3 : n ≤ 0
          · have h := bears_o_011x o a b c n (str s) w hS h2 h3 (by simp [q1]) (by simp [q2]) (by simp [q25]) (by simp [q3]) (by simp [q27]) r1 (by omega); refine h.mono fun e w' ⟨h1, h2⟩ => ⟨h1.trans (ret_bool ?_), h2⟩; have eo : (o == 3 || o == 27) = false := (by simp [q3, q27]); simp [hs, plainB, eo, q1, q2, q25, q3, q27, bne_nil s] <;> (try intros) <;> omega
          · have h := bears_o_010x o a b c n (str s) w hS h2 (by omega) (by simp [q1]) (by simp [q2]) (by simp [q25]) (by simp [q3]) (by simp [q27]) r1 (by omega); refine h.mono fun e w' ⟨h1, h2⟩ => ⟨h1.trans (ret_bool ?_), h2⟩; have eo : (o == 3 || o == 27) = false := (by simp [q3, q27]); simp [hs, plainB, eo, q1, q2, q25, q3, q27, bne_nil s] <;> (try intros) <;> omega
        · have h := bears_o_001x o a b c n (str s) w hS (by omega) (by omega) (by simp [q1]) (by simp [q2]) (by simp [q25]) (by simp [q3]) (by simp [q27]) r1 (by omega); refine h.mono fun e w' ⟨h1, h2⟩ => ⟨h1.trans (ret_bool ?_), h2⟩; have eo : (o == 3 || o == 27) = false := (by simp [q3, q27]); simp [hs, plainB, eo, q1, q2, q25, q3, q27, bne_nil s] <;> (try intros) <;> omega
    · skip
      by_cases h2 : 0 ≤ n
      · by_cases h3 : n ≤ 0
        · have h := bears_o_011z o a b c n (str s) w hS h2 h3 (by simp [q1]) (by simp [q2]) (by simp [q25]) (by simp [q3]) (by simp [q27]) (by omega) (by omega); refine h.mono fun e w' ⟨h1, h2⟩ => ⟨h1.trans (ret_bool ?_), h2⟩; have eo : (o == 3 || o == 27) = false := (by simp [q3, q27]); simp [hs, plainB, eo, q1, q2, q25, q3, q27, bne_nil s] <;> (try intros) <;> omega
        · have h := bears_o_010z o a b c n (str s) w hS h2 (by omega) (by simp [q1]) (by simp [q2]) (by simp [q25]) (by simp [q3]) (by simp [q27]) (by omega) (by omega); refine h.mono fun e w' ⟨h1, h2⟩ => ⟨h1.trans (ret_bool ?_), h2⟩; have eo : (o == 3 || o == 27) = false := (by simp [q3, q27]); simp [hs, plainB, eo, q1, q2, q25, q3, q27, bne_nil s] <;> (try intros) <;> omega
      · have h := bears_o_001z o a b c n (str s) w hS (by omega) (by omega) (by simp [q1]) (by simp [q2]) (by simp [q25]) (by simp [q3]) (by simp [q27]) (by omega) (by omega); refine h.mono fun e w' ⟨h1, h2⟩ => ⟨h1.trans (ret_bool ?_), h2⟩; have eo : (o == 3 || o == 27) = false := (by simp [q3, q27]); simp [hs, plainB, eo, q1, q2, q25, q3, q27, bne_nil s] <;> (try intros) <;> omega
end Go.Proofs.YtobkcdkffcenbaaGreatDoor.Tr

