/- The function plain of the document's answer tells whether a node's number and name may be. Conditions: none. -/
import Derived.Test.YtobkcdkffcenbaaGreatDoorCa02
set_option linter.unusedVariables false
set_option linter.unusedSimpArgs false
namespace Go.Proofs.YtobkcdkffcenbaaGreatDoor.Tr
open Go.ChangeShapes Go.WideShapes Go.ChangeAt Go.RowKit
theorem bne_nil2 (s : Bytes) : (s != []) = !decide (s = []) := by cases s <;> simp
def plain2B (x : Lab) : Bool :=
  ((x.name != []) == (x.op == 3 || x.op == 27)) && decide (0 ≤ x.n) && decide (x.n ≤ if x.op = 1 then 2147483647 else if x.op = 2 then 1 else if x.op = 25 then 1000 else 0)
theorem plain_1_111 (a b c n : Int) (S : ByteArray) (w : World) (hs : S.toList = []) (h2 : 0 ≤ n) (h3 : n ≤ 2147483647) : Calls Tryz.prog 30 #[.agg #[.int .i64 1, .int .i64 a, .int .i64 b, .int .i64 c, .int .i64 n, .string S]] w fun e w' => e = .returned (.bool true) ∧ Below w.heap.size w w' := by
  go_enter Tryz.func30, Tryz.ntmps30
  go_wp2
  go_ret
  exact ⟨by first | rfl | exact ret_bool (by simp <;> omega), (Below.refl _ _).alloc (Nat.le_refl _) _⟩
theorem plain_1_110 (a b c n : Int) (S : ByteArray) (w : World) (hs : S.toList = []) (h2 : 0 ≤ n) (h3 : 2147483647 < n) : Calls Tryz.prog 30 #[.agg #[.int .i64 1, .int .i64 a, .int .i64 b, .int .i64 c, .int .i64 n, .string S]] w fun e w' => e = .returned (.bool false) ∧ Below w.heap.size w w' := by
  go_enter Tryz.func30, Tryz.ntmps30
  go_wp2
  go_ret
  exact ⟨by first | rfl | exact ret_bool (by simp <;> omega), (Below.refl _ _).alloc (Nat.le_refl _) _⟩
theorem plain_1_101 (a b c n : Int) (S : ByteArray) (w : World) (hs : S.toList = []) (h2 : n < 0) (h3 : n ≤ 2147483647) : Calls Tryz.prog 30 #[.agg #[.int .i64 1, .int .i64 a, .int .i64 b, .int .i64 c, .int .i64 n, .string S]] w fun e w' => e = .returned (.bool false) ∧ Below w.heap.size w w' := by
  go_enter Tryz.func30, Tryz.ntmps30
  go_wp2
  go_ret
  exact ⟨by first | rfl | exact ret_bool (by simp <;> omega), (Below.refl _ _).alloc (Nat.le_refl _) _⟩
theorem plain_1_011 (a b c n : Int) (S : ByteArray) (w : World) (hs : ¬ S.toList = []) (h2 : 0 ≤ n) (h3 : n ≤ 2147483647) : Calls Tryz.prog 30 #[.agg #[.int .i64 1, .int .i64 a, .int .i64 b, .int .i64 c, .int .i64 n, .string S]] w fun e w' => e = .returned (.bool false) ∧ Below w.heap.size w w' := by
  have hs' : (!S.toList.isEmpty) = true := by simp [hs]
  go_enter Tryz.func30, Tryz.ntmps30
  go_wp2
  go_ret
  exact ⟨by first | rfl | exact ret_bool (by simp <;> omega), (Below.refl _ _).alloc (Nat.le_refl _) _⟩
theorem plain_1_010 (a b c n : Int) (S : ByteArray) (w : World) (hs : ¬ S.toList = []) (h2 : 0 ≤ n) (h3 : 2147483647 < n) : Calls Tryz.prog 30 #[.agg #[.int .i64 1, .int .i64 a, .int .i64 b, .int .i64 c, .int .i64 n, .string S]] w fun e w' => e = .returned (.bool false) ∧ Below w.heap.size w w' := by
  have hs' : (!S.toList.isEmpty) = true := by simp [hs]
  go_enter Tryz.func30, Tryz.ntmps30
  go_wp2
  go_ret
  exact ⟨by first | rfl | exact ret_bool (by simp <;> omega), (Below.refl _ _).alloc (Nat.le_refl _) _⟩
theorem plain_1_001 (a b c n : Int) (S : ByteArray) (w : World) (hs : ¬ S.toList = []) (h2 : n < 0) (h3 : n ≤ 2147483647) : Calls Tryz.prog 30 #[.agg #[.int .i64 1, .int .i64 a, .int .i64 b, .int .i64 c, .int .i64 n, .string S]] w fun e w' => e = .returned (.bool false) ∧ Below w.heap.size w w' := by
  have hs' : (!S.toList.isEmpty) = true := by simp [hs]
  go_enter Tryz.func30, Tryz.ntmps30
  go_wp2
  go_ret
  exact ⟨by first | rfl | exact ret_bool (by simp <;> omega), (Below.refl _ _).alloc (Nat.le_refl _) _⟩
theorem plain_2_1a (a b c n : Int) (S : ByteArray) (w : World) (hs : S.toList = []) (h2 : (n == 0) = true) : Calls Tryz.prog 30 #[.agg #[.int .i64 2, .int .i64 a, .int .i64 b, .int .i64 c, .int .i64 n, .string S]] w fun e w' => e = .returned (.bool true) ∧ Below w.heap.size w w' := by
  go_enter Tryz.func30, Tryz.ntmps30
  go_wp2
  go_ret
  exact ⟨by first | rfl | exact ret_bool (by simp <;> omega), (Below.refl _ _).alloc (Nat.le_refl _) _⟩
theorem plain_2_1b (a b c n : Int) (S : ByteArray) (w : World) (hs : S.toList = []) (h2 : (n == 0) = false) (h3 : (n == 1) = true) : Calls Tryz.prog 30 #[.agg #[.int .i64 2, .int .i64 a, .int .i64 b, .int .i64 c, .int .i64 n, .string S]] w fun e w' => e = .returned (.bool true) ∧ Below w.heap.size w w' := by
  go_enter Tryz.func30, Tryz.ntmps30
  go_wp2
  go_ret
  exact ⟨by first | rfl | exact ret_bool (by simp <;> omega), (Below.refl _ _).alloc (Nat.le_refl _) _⟩
theorem plain_2_1c (a b c n : Int) (S : ByteArray) (w : World) (hs : S.toList = []) (h2 : (n == 0) = false) (h3 : (n == 1) = false) : Calls Tryz.prog 30 #[.agg #[.int .i64 2, .int .i64 a, .int .i64 b, .int .i64 c, .int .i64 n, .string S]] w fun e w' => e = .returned (.bool false) ∧ Below w.heap.size w w' := by
  go_enter Tryz.func30, Tryz.ntmps30
  go_wp2
  go_ret
  exact ⟨by first | rfl | exact ret_bool (by simp <;> omega), (Below.refl _ _).alloc (Nat.le_refl _) _⟩
theorem plain_2_0a (a b c n : Int) (S : ByteArray) (w : World) (hs : ¬ S.toList = []) (h2 : (n == 0) = true) : Calls Tryz.prog 30 #[.agg #[.int .i64 2, .int .i64 a, .int .i64 b, .int .i64 c, .int .i64 n, .string S]] w fun e w' => e = .returned (.bool false) ∧ Below w.heap.size w w' := by
  have hs' : (!S.toList.isEmpty) = true := by simp [hs]
  go_enter Tryz.func30, Tryz.ntmps30
  go_wp2
  go_ret
  exact ⟨by first | rfl | exact ret_bool (by simp <;> omega), (Below.refl _ _).alloc (Nat.le_refl _) _⟩
theorem plain_2_0b (a b c n : Int) (S : ByteArray) (w : World) (hs : ¬ S.toList = []) (h2 : (n == 0) = false) (h3 : (n == 1) = true) : Calls Tryz.prog 30 #[.agg #[.int .i64 2, .int .i64 a, .int .i64 b, .int .i64 c, .int .i64 n, .string S]] w fun e w' => e = .returned (.bool false) ∧ Below w.heap.size w w' := by
  have hs' : (!S.toList.isEmpty) = true := by simp [hs]
  go_enter Tryz.func30, Tryz.ntmps30
  go_wp2
  go_ret
  exact ⟨by first | rfl | exact ret_bool (by simp <;> omega), (Below.refl _ _).alloc (Nat.le_refl _) _⟩
theorem plain_2_0c (a b c n : Int) (S : ByteArray) (w : World) (hs : ¬ S.toList = []) (h2 : (n == 0) = false) (h3 : (n == 1) = false) : Calls Tryz.prog 30 #[.agg #[.int .i64 2, .int .i64 a, .int .i64 b, .int .i64 c, .int .i64 n, .string S]] w fun e w' => e = .returned (.bool false) ∧ Below w.heap.size w w' := by
  have hs' : (!S.toList.isEmpty) = true := by simp [hs]
  go_enter Tryz.func30, Tryz.ntmps30
  go_wp2
  go_ret
  exact ⟨by first | rfl | exact ret_bool (by simp <;> omega), (Below.refl _ _).alloc (Nat.le_refl _) _⟩
theorem plain_25_111 (a b c n : Int) (S : ByteArray) (w : World) (hs : S.toList = []) (h2 : 0 ≤ n) (h3 : n ≤ 1000) : Calls Tryz.prog 30 #[.agg #[.int .i64 25, .int .i64 a, .int .i64 b, .int .i64 c, .int .i64 n, .string S]] w fun e w' => e = .returned (.bool true) ∧ Below w.heap.size w w' := by
  go_enter Tryz.func30, Tryz.ntmps30
  go_wp2
  go_ret
  exact ⟨by first | rfl | exact ret_bool (by simp <;> omega), (Below.refl _ _).alloc (Nat.le_refl _) _⟩
theorem plain_25_110 (a b c n : Int) (S : ByteArray) (w : World) (hs : S.toList = []) (h2 : 0 ≤ n) (h3 : 1000 < n) : Calls Tryz.prog 30 #[.agg #[.int .i64 25, .int .i64 a, .int .i64 b, .int .i64 c, .int .i64 n, .string S]] w fun e w' => e = .returned (.bool false) ∧ Below w.heap.size w w' := by
  go_enter Tryz.func30, Tryz.ntmps30
  go_wp2
  go_ret
  exact ⟨by first | rfl | exact ret_bool (by simp <;> omega), (Below.refl _ _).alloc (Nat.le_refl _) _⟩
theorem plain_25_101 (a b c n : Int) (S : ByteArray) (w : World) (hs : S.toList = []) (h2 : n < 0) (h3 : n ≤ 1000) : Calls Tryz.prog 30 #[.agg #[.int .i64 25, .int .i64 a, .int .i64 b, .int .i64 c, .int .i64 n, .string S]] w fun e w' => e = .returned (.bool false) ∧ Below w.heap.size w w' := by
  go_enter Tryz.func30, Tryz.ntmps30
  go_wp2
  go_ret
  exact ⟨by first | rfl | exact ret_bool (by simp <;> omega), (Below.refl _ _).alloc (Nat.le_refl _) _⟩
theorem plain_25_011 (a b c n : Int) (S : ByteArray) (w : World) (hs : ¬ S.toList = []) (h2 : 0 ≤ n) (h3 : n ≤ 1000) : Calls Tryz.prog 30 #[.agg #[.int .i64 25, .int .i64 a, .int .i64 b, .int .i64 c, .int .i64 n, .string S]] w fun e w' => e = .returned (.bool false) ∧ Below w.heap.size w w' := by
  have hs' : (!S.toList.isEmpty) = true := by simp [hs]
  go_enter Tryz.func30, Tryz.ntmps30
  go_wp2
  go_ret
  exact ⟨by first | rfl | exact ret_bool (by simp <;> omega), (Below.refl _ _).alloc (Nat.le_refl _) _⟩
theorem plain_25_010 (a b c n : Int) (S : ByteArray) (w : World) (hs : ¬ S.toList = []) (h2 : 0 ≤ n) (h3 : 1000 < n) : Calls Tryz.prog 30 #[.agg #[.int .i64 25, .int .i64 a, .int .i64 b, .int .i64 c, .int .i64 n, .string S]] w fun e w' => e = .returned (.bool false) ∧ Below w.heap.size w w' := by
  have hs' : (!S.toList.isEmpty) = true := by simp [hs]
  go_enter Tryz.func30, Tryz.ntmps30
  go_wp2
  go_ret
  exact ⟨by first | rfl | exact ret_bool (by simp <;> omega), (Below.refl _ _).alloc (Nat.le_refl _) _⟩
theorem plain_25_001 (a b c n : Int) (S : ByteArray) (w : World) (hs : ¬ S.toList = []) (h2 : n < 0) (h3 : n ≤ 1000) : Calls Tryz.prog 30 #[.agg #[.int .i64 25, .int .i64 a, .int .i64 b, .int .i64 c, .int .i64 n, .string S]] w fun e w' => e = .returned (.bool false) ∧ Below w.heap.size w w' := by
  have hs' : (!S.toList.isEmpty) = true := by simp [hs]
  go_enter Tryz.func30, Tryz.ntmps30
  go_wp2
  go_ret
  exact ⟨by first | rfl | exact ret_bool (by simp <;> omega), (Below.refl _ _).alloc (Nat.le_refl _) _⟩
theorem plain_3_1a (a b c n : Int) (S : ByteArray) (w : World) (hs : S.toList = []) (h2 : (n == 0) = true) : Calls Tryz.prog 30 #[.agg #[.int .i64 3, .int .i64 a, .int .i64 b, .int .i64 c, .int .i64 n, .string S]] w fun e w' => e = .returned (.bool false) ∧ Below w.heap.size w w' := by
  go_enter Tryz.func30, Tryz.ntmps30
  go_wp2
  go_ret
  exact ⟨by first | rfl | exact ret_bool (by simp <;> omega), (Below.refl _ _).alloc (Nat.le_refl _) _⟩
theorem plain_3_1b (a b c n : Int) (S : ByteArray) (w : World) (hs : S.toList = []) (h2 : (n == 0) = false) : Calls Tryz.prog 30 #[.agg #[.int .i64 3, .int .i64 a, .int .i64 b, .int .i64 c, .int .i64 n, .string S]] w fun e w' => e = .returned (.bool false) ∧ Below w.heap.size w w' := by
  go_enter Tryz.func30, Tryz.ntmps30
  go_wp2
  go_ret
  exact ⟨by first | rfl | exact ret_bool (by simp <;> omega), (Below.refl _ _).alloc (Nat.le_refl _) _⟩
theorem plain_3_0a (a b c n : Int) (S : ByteArray) (w : World) (hs : ¬ S.toList = []) (h2 : (n == 0) = true) : Calls Tryz.prog 30 #[.agg #[.int .i64 3, .int .i64 a, .int .i64 b, .int .i64 c, .int .i64 n, .string S]] w fun e w' => e = .returned (.bool true) ∧ Below w.heap.size w w' := by
  have hs' : (!S.toList.isEmpty) = true := by simp [hs]
  go_enter Tryz.func30, Tryz.ntmps30
  go_wp2
  go_ret
  exact ⟨by first | rfl | exact ret_bool (by simp <;> omega), (Below.refl _ _).alloc (Nat.le_refl _) _⟩
theorem plain_3_0b (a b c n : Int) (S : ByteArray) (w : World) (hs : ¬ S.toList = []) (h2 : (n == 0) = false) : Calls Tryz.prog 30 #[.agg #[.int .i64 3, .int .i64 a, .int .i64 b, .int .i64 c, .int .i64 n, .string S]] w fun e w' => e = .returned (.bool false) ∧ Below w.heap.size w w' := by
  have hs' : (!S.toList.isEmpty) = true := by simp [hs]
  go_enter Tryz.func30, Tryz.ntmps30
  go_wp2
  go_ret
  exact ⟨by first | rfl | exact ret_bool (by simp <;> omega), (Below.refl _ _).alloc (Nat.le_refl _) _⟩
theorem plain_27_1a (a b c n : Int) (S : ByteArray) (w : World) (hs : S.toList = []) (h2 : (n == 0) = true) : Calls Tryz.prog 30 #[.agg #[.int .i64 27, .int .i64 a, .int .i64 b, .int .i64 c, .int .i64 n, .string S]] w fun e w' => e = .returned (.bool false) ∧ Below w.heap.size w w' := by
  go_enter Tryz.func30, Tryz.ntmps30
  go_wp2
  go_ret
  exact ⟨by first | rfl | exact ret_bool (by simp <;> omega), (Below.refl _ _).alloc (Nat.le_refl _) _⟩
theorem plain_27_1b (a b c n : Int) (S : ByteArray) (w : World) (hs : S.toList = []) (h2 : (n == 0) = false) : Calls Tryz.prog 30 #[.agg #[.int .i64 27, .int .i64 a, .int .i64 b, .int .i64 c, .int .i64 n, .string S]] w fun e w' => e = .returned (.bool false) ∧ Below w.heap.size w w' := by
  go_enter Tryz.func30, Tryz.ntmps30
  go_wp2
  go_ret
  exact ⟨by first | rfl | exact ret_bool (by simp <;> omega), (Below.refl _ _).alloc (Nat.le_refl _) _⟩
theorem plain_27_0a (a b c n : Int) (S : ByteArray) (w : World) (hs : ¬ S.toList = []) (h2 : (n == 0) = true) : Calls Tryz.prog 30 #[.agg #[.int .i64 27, .int .i64 a, .int .i64 b, .int .i64 c, .int .i64 n, .string S]] w fun e w' => e = .returned (.bool true) ∧ Below w.heap.size w w' := by
  have hs' : (!S.toList.isEmpty) = true := by simp [hs]
  go_enter Tryz.func30, Tryz.ntmps30
  go_wp2
  go_ret
  exact ⟨by first | rfl | exact ret_bool (by simp <;> omega), (Below.refl _ _).alloc (Nat.le_refl _) _⟩
theorem plain_27_0b (a b c n : Int) (S : ByteArray) (w : World) (hs : ¬ S.toList = []) (h2 : (n == 0) = false) : Calls Tryz.prog 30 #[.agg #[.int .i64 27, .int .i64 a, .int .i64 b, .int .i64 c, .int .i64 n, .string S]] w fun e w' => e = .returned (.bool false) ∧ Below w.heap.size w w' := by
  have hs' : (!S.toList.isEmpty) = true := by simp [hs]
  go_enter Tryz.func30, Tryz.ntmps30
  go_wp2
  go_ret
  exact ⟨by first | rfl | exact ret_bool (by simp <;> omega), (Below.refl _ _).alloc (Nat.le_refl _) _⟩
theorem plain_o_1a (o a b c n : Int) (S : ByteArray) (w : World) (hs : S.toList = []) (h2 : (n == 0) = true) (g1 : (o == 1) = false) (g2 : (o == 2) = false) (g25 : (o == 25) = false) (g3 : (o == 3) = false) (g27 : (o == 27) = false) : Calls Tryz.prog 30 #[.agg #[.int .i64 o, .int .i64 a, .int .i64 b, .int .i64 c, .int .i64 n, .string S]] w fun e w' => e = .returned (.bool true) ∧ Below w.heap.size w w' := by
  go_enter Tryz.func30, Tryz.ntmps30
  go_wp2
  go_ret
  exact ⟨by first | rfl | exact ret_bool (by simp <;> omega), (Below.refl _ _).alloc (Nat.le_refl _) _⟩
theorem plain_o_1b (o a b c n : Int) (S : ByteArray) (w : World) (hs : S.toList = []) (h2 : (n == 0) = false) (g1 : (o == 1) = false) (g2 : (o == 2) = false) (g25 : (o == 25) = false) (g3 : (o == 3) = false) (g27 : (o == 27) = false) : Calls Tryz.prog 30 #[.agg #[.int .i64 o, .int .i64 a, .int .i64 b, .int .i64 c, .int .i64 n, .string S]] w fun e w' => e = .returned (.bool false) ∧ Below w.heap.size w w' := by
  go_enter Tryz.func30, Tryz.ntmps30
  go_wp2
  go_ret
  exact ⟨by first | rfl | exact ret_bool (by simp <;> omega), (Below.refl _ _).alloc (Nat.le_refl _) _⟩
theorem plain_o_0a (o a b c n : Int) (S : ByteArray) (w : World) (hs : ¬ S.toList = []) (h2 : (n == 0) = true) (g1 : (o == 1) = false) (g2 : (o == 2) = false) (g25 : (o == 25) = false) (g3 : (o == 3) = false) (g27 : (o == 27) = false) : Calls Tryz.prog 30 #[.agg #[.int .i64 o, .int .i64 a, .int .i64 b, .int .i64 c, .int .i64 n, .string S]] w fun e w' => e = .returned (.bool false) ∧ Below w.heap.size w w' := by
  have hs' : (!S.toList.isEmpty) = true := by simp [hs]
  go_enter Tryz.func30, Tryz.ntmps30
  go_wp2
  go_ret
  exact ⟨by first | rfl | exact ret_bool (by simp <;> omega), (Below.refl _ _).alloc (Nat.le_refl _) _⟩
theorem plain_o_0b (o a b c n : Int) (S : ByteArray) (w : World) (hs : ¬ S.toList = []) (h2 : (n == 0) = false) (g1 : (o == 1) = false) (g2 : (o == 2) = false) (g25 : (o == 25) = false) (g3 : (o == 3) = false) (g27 : (o == 27) = false) : Calls Tryz.prog 30 #[.agg #[.int .i64 o, .int .i64 a, .int .i64 b, .int .i64 c, .int .i64 n, .string S]] w fun e w' => e = .returned (.bool false) ∧ Below w.heap.size w w' := by
  have hs' : (!S.toList.isEmpty) = true := by simp [hs]
  go_enter Tryz.func30, Tryz.ntmps30
  go_wp2
  go_ret
  exact ⟨rfl, (Below.refl _ _).alloc (Nat.le_refl _) _⟩
set_option maxHeartbeats 1600000 in
theorem plain_any (x : Nd) (w : World) : Calls Tryz.prog 30 #[.agg #[.int .i64 x.op, .int .i64 x.a, .int .i64 x.b, .int .i64 x.c, .int .i64 x.n, .string (str x.name)]] w
    fun e w' => e = .returned (.bool (plain2B x.lab)) ∧ Below w.heap.size w w' := by
  obtain ⟨o, a, b, c, n, s⟩ := x
  show Calls Tryz.prog 30 #[.agg #[.int .i64 o, .int .i64 a, .int .i64 b, .int .i64 c, .int .i64 n, .string (str s)]] w fun e w' => e = .returned (.bool (plain2B ⟨o, n, s⟩)) ∧ Below w.heap.size w w'
  by_cases hs : s = []
  · have hS : (str s).toList = [] := by rw [str_toList]; exact hs
    by_cases q1 : o = 1
    · subst q1
      by_cases h2 : 0 ≤ n
      · by_cases h3 : n ≤ 2147483647
        · have h := plain_1_111 a b c n (str s) w hS h2 h3; refine h.mono fun e w' ⟨h1, h2⟩ => ⟨h1.trans (ret_bool ?_), h2⟩; simp [hs, plain2B] <;> (try intros) <;> omega
        · have h := plain_1_110 a b c n (str s) w hS h2 (by omega); refine h.mono fun e w' ⟨h1, h2⟩ => ⟨h1.trans (ret_bool ?_), h2⟩; simp [hs, plain2B] <;> (try intros) <;> omega
      · have h := plain_1_101 a b c n (str s) w hS (by omega) (by omega); refine h.mono fun e w' ⟨h1, h2⟩ => ⟨h1.trans (ret_bool ?_), h2⟩; simp [hs, plain2B] <;> (try intros) <;> omega
    by_cases q2 : o = 2
    · subst q2
      by_cases h2 : n = 0
      · have h := plain_2_1a a b c n (str s) w hS (by simp [h2]); refine h.mono fun e w' ⟨h1, h2⟩ => ⟨h1.trans (ret_bool ?_), h2⟩; simp [hs, plain2B] <;> (try intros) <;> omega
      by_cases h3 : n = 1
      · have h := plain_2_1b a b c n (str s) w hS (by simp [h2]) (by simp [h3]); refine h.mono fun e w' ⟨h1, h2⟩ => ⟨h1.trans (ret_bool ?_), h2⟩; simp [hs, plain2B] <;> (try intros) <;> omega
      · have h := plain_2_1c a b c n (str s) w hS (by simp [h2]) (by simp [h3]); refine h.mono fun e w' ⟨h1, h2⟩ => ⟨h1.trans (ret_bool ?_), h2⟩; simp [hs, plain2B] <;> (try intros) <;> omega
    by_cases q25 : o = 25
    · subst q25
      by_cases h2 : 0 ≤ n
      · by_cases h3 : n ≤ 1000
        · have h := plain_25_111 a b c n (str s) w hS h2 h3; refine h.mono fun e w' ⟨h1, h2⟩ => ⟨h1.trans (ret_bool ?_), h2⟩; simp [hs, plain2B] <;> (try intros) <;> omega
        · have h := plain_25_110 a b c n (str s) w hS h2 (by omega); refine h.mono fun e w' ⟨h1, h2⟩ => ⟨h1.trans (ret_bool ?_), h2⟩; simp [hs, plain2B] <;> (try intros) <;> omega
      · have h := plain_25_101 a b c n (str s) w hS (by omega) (by omega); refine h.mono fun e w' ⟨h1, h2⟩ => ⟨h1.trans (ret_bool ?_), h2⟩; simp [hs, plain2B] <;> (try intros) <;> omega
    by_cases q3 : o = 3
    · subst q3
      by_cases h2 : n = 0
      · have h := plain_3_1a a b c n (str s) w hS (by simp [h2]); refine h.mono fun e w' ⟨h1, h2⟩ => ⟨h1.trans (ret_bool ?_), h2⟩; simp [hs, plain2B] <;> (try intros) <;> omega
      · have h := plain_3_1b a b c n (str s) w hS (by simp [h2]); refine h.mono fun e w' ⟨h1, h2⟩ => ⟨h1.trans (ret_bool ?_), h2⟩; simp [hs, plain2B] <;> (try intros) <;> omega
    by_cases q27 : o = 27
    · subst q27
      by_cases h2 : n = 0
      · have h := plain_27_1a a b c n (str s) w hS (by simp [h2]); refine h.mono fun e w' ⟨h1, h2⟩ => ⟨h1.trans (ret_bool ?_), h2⟩; simp [hs, plain2B] <;> (try intros) <;> omega
      · have h := plain_27_1b a b c n (str s) w hS (by simp [h2]); refine h.mono fun e w' ⟨h1, h2⟩ => ⟨h1.trans (ret_bool ?_), h2⟩; simp [hs, plain2B] <;> (try intros) <;> omega
    by_cases h2 : n = 0
    · have h := plain_o_1a o a b c n (str s) w hS (by simp [h2]) (by simp [q1]) (by simp [q2]) (by simp [q25]) (by simp [q3]) (by simp [q27]); refine h.mono fun e w' ⟨h1, h2⟩ => ⟨h1.trans (ret_bool ?_), h2⟩; have eo : (o == 3 || o == 27) = false := (by simp [q3, q27]); simp [hs, plain2B, eo, q1, q2, q25, q3, q27, bne_nil2 s] <;> (try intros) <;> omega
    · have h := plain_o_1b o a b c n (str s) w hS (by simp [h2]) (by simp [q1]) (by simp [q2]) (by simp [q25]) (by simp [q3]) (by simp [q27]); refine h.mono fun e w' ⟨h1, h2⟩ => ⟨h1.trans (ret_bool ?_), h2⟩; have eo : (o == 3 || o == 27) = false := (by simp [q3, q27]); simp [hs, plain2B, eo, q1, q2, q25, q3, q27, bne_nil2 s] <;> (try intros) <;> omega
  · have hS : ¬ (str s).toList = [] := by rw [str_toList]; exact hs
    by_cases q1 : o = 1
    · subst q1
      by_cases h2 : 0 ≤ n
      · by_cases h3 : n ≤ 2147483647
        · have h := plain_1_011 a b c n (str s) w hS h2 h3; refine h.mono fun e w' ⟨h1, h2⟩ => ⟨h1.trans (ret_bool ?_), h2⟩; simp [hs, plain2B] <;> (try intros) <;> omega
        · have h := plain_1_010 a b c n (str s) w hS h2 (by omega); refine h.mono fun e w' ⟨h1, h2⟩ => ⟨h1.trans (ret_bool ?_), h2⟩; simp [hs, plain2B] <;> (try intros) <;> omega
      · have h := plain_1_001 a b c n (str s) w hS (by omega) (by omega); refine h.mono fun e w' ⟨h1, h2⟩ => ⟨h1.trans (ret_bool ?_), h2⟩; simp [hs, plain2B] <;> (try intros) <;> omega
    by_cases q2 : o = 2
    · subst q2
      by_cases h2 : n = 0
      · have h := plain_2_0a a b c n (str s) w hS (by simp [h2]); refine h.mono fun e w' ⟨h1, h2⟩ => ⟨h1.trans (ret_bool ?_), h2⟩; simp [hs, plain2B] <;> (try intros) <;> omega
      by_cases h3 : n = 1
      · have h := plain_2_0b a b c n (str s) w hS (by simp [h2]) (by simp [h3]); refine h.mono fun e w' ⟨h1, h2⟩ => ⟨h1.trans (ret_bool ?_), h2⟩; simp [hs, plain2B] <;> (try intros) <;> omega
      · have h := plain_2_0c a b c n (str s) w hS (by simp [h2]) (by simp [h3]); refine h.mono fun e w' ⟨h1, h2⟩ => ⟨h1.trans (ret_bool ?_), h2⟩; simp [hs, plain2B] <;> (try intros) <;> omega
    by_cases q25 : o = 25
    · subst q25
      by_cases h2 : 0 ≤ n
      · by_cases h3 : n ≤ 1000
        · have h := plain_25_011 a b c n (str s) w hS h2 h3; refine h.mono fun e w' ⟨h1, h2⟩ => ⟨h1.trans (ret_bool ?_), h2⟩; simp [hs, plain2B] <;> (try intros) <;> omega
        · have h := plain_25_010 a b c n (str s) w hS h2 (by omega); refine h.mono fun e w' ⟨h1, h2⟩ => ⟨h1.trans (ret_bool ?_), h2⟩; simp [hs, plain2B] <;> (try intros) <;> omega
      · have h := plain_25_001 a b c n (str s) w hS (by omega) (by omega); refine h.mono fun e w' ⟨h1, h2⟩ => ⟨h1.trans (ret_bool ?_), h2⟩; simp [hs, plain2B] <;> (try intros) <;> omega
    by_cases q3 : o = 3
    · subst q3
      by_cases h2 : n = 0
      · have h := plain_3_0a a b c n (str s) w hS (by simp [h2]); refine h.mono fun e w' ⟨h1, h2⟩ => ⟨h1.trans (ret_bool ?_), h2⟩; simp [hs, plain2B] <;> (try intros) <;> omega
      · have h := plain_3_0b a b c n (str s) w hS (by simp [h2]); refine h.mono fun e w' ⟨h1, h2⟩ => ⟨h1.trans (ret_bool ?_), h2⟩; simp [hs, plain2B] <;> (try intros) <;> omega
    by_cases q27 : o = 27
    · subst q27
      by_cases h2 : n = 0
      · have h := plain_27_0a a b c n (str s) w hS (by simp [h2]); refine h.mono fun e w' ⟨h1, h2⟩ => ⟨h1.trans (ret_bool ?_), h2⟩; simp [hs, plain2B] <;> (try intros) <;> omega
      · have h := plain_27_0b a b c n (str s) w hS (by simp [h2]); refine h.mono fun e w' ⟨h1, h2⟩ => ⟨h1.trans (ret_bool ?_), h2⟩; simp [hs, plain2B] <;> (try intros) <;> omega
    by_cases h2 : n = 0
    · have h := plain_o_0a o a b c n (str s) w hS (by simp [h2]) (by simp [q1]) (by simp [q2]) (by simp [q25]) (by simp [q3]) (by simp [q27]); refine h.mono fun e w' ⟨h1, h2⟩ => ⟨h1.trans (ret_bool ?_), h2⟩; have eo : (o == 3 || o == 27) = false := (by simp [q3, q27]); simp [hs, plain2B, eo, q1, q2, q25, q3, q27, bne_nil2 s] <;> (try intros) <;> omega
    · have h := plain_o_0b o a b c n (str s) w hS (by simp [h2]) (by simp [q1]) (by simp [q2]) (by simp [q25]) (by simp [q3]) (by simp [q27]); refine h.mono fun e w' ⟨h1, h2⟩ => ⟨h1.trans (ret_bool ?_), h2⟩; have eo : (o == 3 || o == 27) = false := (by simp [q3, q27]); simp [hs, plain2B, eo, q1, q2, q25, q3, q27, bne_nil2 s] <;> (try intros) <;> omega
end Go.Proofs.YtobkcdkffcenbaaGreatDoor.Tr
namespace Go.Proofs.YtobkcdkffcenbaaGreatDoor.Tr
open Go.ChangeShapes Go.WideShapes Go.ChangeAt Go.RowKit
def bareN (m : Nat) (a b c : Int) : Bool := (decide (0 < m) || a == -1) && (decide (1 < m) || b == -1) && (decide (2 < m) || c == -1)
def bareM (x : Nd) : Bool := if x.op = 27 then x.b == -1 && x.c == -1 else if x.op = 28 then x.c == -1 else bareN (kidsM x).length x.a x.b x.c
theorem bareM_iff (x : Nd) : bareM x = true ↔ x = mkL x.lab (kidsM x) := by
  obtain ⟨o, a, b, c, n, s⟩ := x
  unfold bareM bareN
  by_cases hu : unaryB o = true
  · have h27 : o ≠ 27 := by rintro rfl; simp [unaryB] at hu
    have h28 : o ≠ 28 := by rintro rfl; simp [unaryB] at hu
    simp [kidsM, hu, mkL, Nd.lab, h27, h28]
  by_cases h26 : o = 26
  · subst h26; simp [kidsM, unaryB, mkL, Nd.lab]
  by_cases h27 : o = 27
  · subst h27
    by_cases ha : a = -1 <;> simp [kidsM, unaryB, mkL, Nd.lab, heldM, ha]
  by_cases h28 : o = 28
  · subst h28
    by_cases hb : b = -1 <;> simp [kidsM, unaryB, mkL, Nd.lab, heldM, hb]
  by_cases hb : binaryB o = true
  · simp [kidsM, hu, hb, mkL, Nd.lab, h26, h27, h28]
  · simp [kidsM, hu, hb, mkL, Nd.lab, h26, h27, h28, and_assoc]
set_option maxHeartbeats 3200000 in
theorem bare_any (x : Nd) (w : World) : Calls Tryz.prog 29 #[.agg #[.int .i64 x.op, .int .i64 x.a, .int .i64 x.b, .int .i64 x.c, .int .i64 x.n, .string (str x.name)]] w fun r w' => r = .returned (.bool (bareM x)) ∧ Below w.heap.size w w' := by
  obtain ⟨L, hL⟩ : ∃ L, kidsM x = L := ⟨_, rfl⟩
  have HL := Lib.hid hL
  obtain ⟨R, hR⟩ : ∃ R, bareM x = R := ⟨_, rfl⟩
  have HR := Lib.hid hR
  rw [hR]
  have hl3 : L.length ≤ 3 := by rw [← hL]; exact kids_small x
  clear hR hL
  go_enter Tryz.func29, Tryz.ntmps29
  go_wp2_with fail
  refine (rkids_any x _).mono ?_
  rintro r w2 ⟨kv, rfl, hok, hb2⟩
  rw [HL.out] at hok
  obtain ⟨A2, c2, rfl, y1, y2, hA2⟩ := Ints.of_own hok
  have hz2 := hb2.size
  simp at hz2
  have HB2 := Lib.hid (((Below.refl _ _).alloc (Nat.le_refl _) _).trans (hb2.mono (B' := w.heap.size) (by simp)))
  have e0 : w2.cell? ⟨w.heap.size, 0, none⟩ = some (.int .i64 x.op) := (hb2.cell (by simp)).trans (by simp [World.cell?_alloc_at])
  have e1 : w2.cell? ⟨w.heap.size, 1, none⟩ = some (.int .i64 x.a) := (hb2.cell (by simp)).trans (by simp [World.cell?_alloc_at])
  have e2 : w2.cell? ⟨w.heap.size, 2, none⟩ = some (.int .i64 x.b) := (hb2.cell (by simp)).trans (by simp [World.cell?_alloc_at])
  have e3 : w2.cell? ⟨w.heap.size, 3, none⟩ = some (.int .i64 x.c) := (hb2.cell (by simp)).trans (by simp [World.cell?_alloc_at])
  have e4 : w2.cell? ⟨w.heap.size, 4, none⟩ = some (.int .i64 x.n) := (hb2.cell (by simp)).trans (by simp [World.cell?_alloc_at])
  have e5 : w2.cell? ⟨w.heap.size, 5, none⟩ = some (.string (str x.name)) := (hb2.cell (by simp)).trans (by simp [World.cell?_alloc_at])
  clear hok hA2 hb2
  unfold maxLen at y2
  rcases Bool.eq_false_or_eq_true (x.op == 27) with h27 | h27
  · have hx : x.op = 27 := by simpa using h27
    have HX := Lib.hid hx
    clear hx
    rcases Bool.eq_false_or_eq_true (x.b == -1) with hb | hb <;> rcases Bool.eq_false_or_eq_true (x.c == -1) with hc | hc
    all_goals
      go_wp2
      go_ret
      exact ⟨ret_bool (by rw [← HR.out]; unfold bareM; rw [if_pos HX.out]; simp [hb, hc]), HB2.out⟩
  rcases Bool.eq_false_or_eq_true (x.op == 28) with h28 | h28
  · have hx : x.op = 28 := by simpa using h28
    have HX := Lib.hid hx
    clear hx
    rcases Bool.eq_false_or_eq_true (x.c == -1) with hc | hc
    all_goals
      go_wp2
      go_ret
      exact ⟨ret_bool (by rw [← HR.out]; unfold bareM; rw [if_neg (by simpa using h27), if_pos HX.out]; simp [hc]), HB2.out⟩
  have HR2 := Lib.hid (show R = bareN L.length x.a x.b x.c by
    rw [← HR.out, ← HL.out]; unfold bareM; rw [if_neg (by simpa using h27), if_neg (by simpa using h28)])
  obtain ⟨m, hm⟩ : ∃ m, L.length = m := ⟨_, rfl⟩
  rw [hm] at HR2 y1 hl3 ⊢
  clear hm
  have hmm : m = 0 ∨ m = 1 ∨ m = 2 ∨ m = 3 := by omega
  rcases hmm with rfl | rfl | rfl | rfl
  · rcases Bool.eq_false_or_eq_true (x.a == -1) with ha | ha <;> rcases Bool.eq_false_or_eq_true (x.b == -1) with hb | hb <;> rcases Bool.eq_false_or_eq_true (x.c == -1) with hc | hc
    all_goals
      go_wp2
      go_ret
      exact ⟨ret_bool (by rw [HR2.out]; simp [bareN, ha, hb, hc]), HB2.out⟩
  · rcases Bool.eq_false_or_eq_true (x.b == -1) with hb | hb <;> rcases Bool.eq_false_or_eq_true (x.c == -1) with hc | hc
    all_goals
      go_wp2
      go_ret
      exact ⟨ret_bool (by rw [HR2.out]; simp [bareN, hb, hc]), HB2.out⟩
  · rcases Bool.eq_false_or_eq_true (x.c == -1) with hc | hc
    all_goals
      go_wp2
      go_ret
      exact ⟨ret_bool (by rw [HR2.out]; simp [bareN, hc]), HB2.out⟩
  · go_wp2
    go_ret
    exact ⟨ret_bool (by rw [HR2.out]; simp [bareN]), HB2.out⟩
end Go.Proofs.YtobkcdkffcenbaaGreatDoor.Tr

