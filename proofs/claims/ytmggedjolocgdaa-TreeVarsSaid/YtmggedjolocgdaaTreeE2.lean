/- The function plain of the document's answer tells whether a node's number and name may be. Conditions: none. -/
import Derived.Test.YtmggedjolocgdaaTreeD
namespace Go.Proofs.Ytmggedjolocgdaa.Tr
open Go.ChangeShapes Go.WideShapes Go.ChangeAt Go.RowKit
set_option linter.unusedVariables false
set_option linter.unusedSimpArgs false
theorem bne_nil2 (s : Bytes) : (s != []) = !decide (s = []) := by cases s <;> simp
/-- A node's number and name may be, whatever its operator. -/
def plain2B (x : Lab) : Bool :=
  ((x.name != []) == (x.op == 3 || x.op == 27)) && decide (0 ≤ x.n) && decide (x.n ≤ if x.op = 1 then 2147483647 else if x.op = 2 then 1 else if x.op = 25 then 1000 else 0)
theorem plain_1_111 (a b c n : Int) (S : ByteArray) (w : World) (hs : S.toList = []) (h2 : 0 ≤ n) (h3 : n ≤ 2147483647) : Calls Try.prog 34 #[.agg #[.int .i64 1, .int .i64 a, .int .i64 b, .int .i64 c, .int .i64 n, .string S]] w fun e w' => e = .returned (.bool true) ∧ Below w.heap.size w w' := by
  go_enter Try.func34, Try.ntmps34
  go_wp2
  go_ret
  exact ⟨by first | rfl | exact ret_bool (by simp <;> omega), (Below.refl _ _).alloc (Nat.le_refl _) _⟩
theorem plain_1_110 (a b c n : Int) (S : ByteArray) (w : World) (hs : S.toList = []) (h2 : 0 ≤ n) (h3 : 2147483647 < n) : Calls Try.prog 34 #[.agg #[.int .i64 1, .int .i64 a, .int .i64 b, .int .i64 c, .int .i64 n, .string S]] w fun e w' => e = .returned (.bool false) ∧ Below w.heap.size w w' := by
  go_enter Try.func34, Try.ntmps34
  go_wp2
  go_ret
  exact ⟨by first | rfl | exact ret_bool (by simp <;> omega), (Below.refl _ _).alloc (Nat.le_refl _) _⟩
theorem plain_1_101 (a b c n : Int) (S : ByteArray) (w : World) (hs : S.toList = []) (h2 : n < 0) (h3 : n ≤ 2147483647) : Calls Try.prog 34 #[.agg #[.int .i64 1, .int .i64 a, .int .i64 b, .int .i64 c, .int .i64 n, .string S]] w fun e w' => e = .returned (.bool false) ∧ Below w.heap.size w w' := by
  go_enter Try.func34, Try.ntmps34
  go_wp2
  go_ret
  exact ⟨by first | rfl | exact ret_bool (by simp <;> omega), (Below.refl _ _).alloc (Nat.le_refl _) _⟩
theorem plain_1_011 (a b c n : Int) (S : ByteArray) (w : World) (hs : ¬ S.toList = []) (h2 : 0 ≤ n) (h3 : n ≤ 2147483647) : Calls Try.prog 34 #[.agg #[.int .i64 1, .int .i64 a, .int .i64 b, .int .i64 c, .int .i64 n, .string S]] w fun e w' => e = .returned (.bool false) ∧ Below w.heap.size w w' := by
  have hs' : (!S.toList.isEmpty) = true := by simp [hs]
  go_enter Try.func34, Try.ntmps34
  go_wp2
  go_ret
  exact ⟨by first | rfl | exact ret_bool (by simp <;> omega), (Below.refl _ _).alloc (Nat.le_refl _) _⟩
theorem plain_1_010 (a b c n : Int) (S : ByteArray) (w : World) (hs : ¬ S.toList = []) (h2 : 0 ≤ n) (h3 : 2147483647 < n) : Calls Try.prog 34 #[.agg #[.int .i64 1, .int .i64 a, .int .i64 b, .int .i64 c, .int .i64 n, .string S]] w fun e w' => e = .returned (.bool false) ∧ Below w.heap.size w w' := by
  have hs' : (!S.toList.isEmpty) = true := by simp [hs]
  go_enter Try.func34, Try.ntmps34
  go_wp2
  go_ret
  exact ⟨by first | rfl | exact ret_bool (by simp <;> omega), (Below.refl _ _).alloc (Nat.le_refl _) _⟩
theorem plain_1_001 (a b c n : Int) (S : ByteArray) (w : World) (hs : ¬ S.toList = []) (h2 : n < 0) (h3 : n ≤ 2147483647) : Calls Try.prog 34 #[.agg #[.int .i64 1, .int .i64 a, .int .i64 b, .int .i64 c, .int .i64 n, .string S]] w fun e w' => e = .returned (.bool false) ∧ Below w.heap.size w w' := by
  have hs' : (!S.toList.isEmpty) = true := by simp [hs]
  go_enter Try.func34, Try.ntmps34
  go_wp2
  go_ret
  exact ⟨by first | rfl | exact ret_bool (by simp <;> omega), (Below.refl _ _).alloc (Nat.le_refl _) _⟩
theorem plain_2_1a (a b c n : Int) (S : ByteArray) (w : World) (hs : S.toList = []) (h2 : (n == 0) = true) : Calls Try.prog 34 #[.agg #[.int .i64 2, .int .i64 a, .int .i64 b, .int .i64 c, .int .i64 n, .string S]] w fun e w' => e = .returned (.bool true) ∧ Below w.heap.size w w' := by
  go_enter Try.func34, Try.ntmps34
  go_wp2
  go_ret
  exact ⟨by first | rfl | exact ret_bool (by simp <;> omega), (Below.refl _ _).alloc (Nat.le_refl _) _⟩
theorem plain_2_1b (a b c n : Int) (S : ByteArray) (w : World) (hs : S.toList = []) (h2 : (n == 0) = false) (h3 : (n == 1) = true) : Calls Try.prog 34 #[.agg #[.int .i64 2, .int .i64 a, .int .i64 b, .int .i64 c, .int .i64 n, .string S]] w fun e w' => e = .returned (.bool true) ∧ Below w.heap.size w w' := by
  go_enter Try.func34, Try.ntmps34
  go_wp2
  go_ret
  exact ⟨by first | rfl | exact ret_bool (by simp <;> omega), (Below.refl _ _).alloc (Nat.le_refl _) _⟩
theorem plain_2_1c (a b c n : Int) (S : ByteArray) (w : World) (hs : S.toList = []) (h2 : (n == 0) = false) (h3 : (n == 1) = false) : Calls Try.prog 34 #[.agg #[.int .i64 2, .int .i64 a, .int .i64 b, .int .i64 c, .int .i64 n, .string S]] w fun e w' => e = .returned (.bool false) ∧ Below w.heap.size w w' := by
  go_enter Try.func34, Try.ntmps34
  go_wp2
  go_ret
  exact ⟨by first | rfl | exact ret_bool (by simp <;> omega), (Below.refl _ _).alloc (Nat.le_refl _) _⟩
theorem plain_2_0a (a b c n : Int) (S : ByteArray) (w : World) (hs : ¬ S.toList = []) (h2 : (n == 0) = true) : Calls Try.prog 34 #[.agg #[.int .i64 2, .int .i64 a, .int .i64 b, .int .i64 c, .int .i64 n, .string S]] w fun e w' => e = .returned (.bool false) ∧ Below w.heap.size w w' := by
  have hs' : (!S.toList.isEmpty) = true := by simp [hs]
  go_enter Try.func34, Try.ntmps34
  go_wp2
  go_ret
  exact ⟨by first | rfl | exact ret_bool (by simp <;> omega), (Below.refl _ _).alloc (Nat.le_refl _) _⟩
theorem plain_2_0b (a b c n : Int) (S : ByteArray) (w : World) (hs : ¬ S.toList = []) (h2 : (n == 0) = false) (h3 : (n == 1) = true) : Calls Try.prog 34 #[.agg #[.int .i64 2, .int .i64 a, .int .i64 b, .int .i64 c, .int .i64 n, .string S]] w fun e w' => e = .returned (.bool false) ∧ Below w.heap.size w w' := by
  have hs' : (!S.toList.isEmpty) = true := by simp [hs]
  go_enter Try.func34, Try.ntmps34
  go_wp2
  go_ret
  exact ⟨by first | rfl | exact ret_bool (by simp <;> omega), (Below.refl _ _).alloc (Nat.le_refl _) _⟩
theorem plain_2_0c (a b c n : Int) (S : ByteArray) (w : World) (hs : ¬ S.toList = []) (h2 : (n == 0) = false) (h3 : (n == 1) = false) : Calls Try.prog 34 #[.agg #[.int .i64 2, .int .i64 a, .int .i64 b, .int .i64 c, .int .i64 n, .string S]] w fun e w' => e = .returned (.bool false) ∧ Below w.heap.size w w' := by
  have hs' : (!S.toList.isEmpty) = true := by simp [hs]
  go_enter Try.func34, Try.ntmps34
  go_wp2
  go_ret
  exact ⟨by first | rfl | exact ret_bool (by simp <;> omega), (Below.refl _ _).alloc (Nat.le_refl _) _⟩
theorem plain_25_111 (a b c n : Int) (S : ByteArray) (w : World) (hs : S.toList = []) (h2 : 0 ≤ n) (h3 : n ≤ 1000) : Calls Try.prog 34 #[.agg #[.int .i64 25, .int .i64 a, .int .i64 b, .int .i64 c, .int .i64 n, .string S]] w fun e w' => e = .returned (.bool true) ∧ Below w.heap.size w w' := by
  go_enter Try.func34, Try.ntmps34
  go_wp2
  go_ret
  exact ⟨by first | rfl | exact ret_bool (by simp <;> omega), (Below.refl _ _).alloc (Nat.le_refl _) _⟩
theorem plain_25_110 (a b c n : Int) (S : ByteArray) (w : World) (hs : S.toList = []) (h2 : 0 ≤ n) (h3 : 1000 < n) : Calls Try.prog 34 #[.agg #[.int .i64 25, .int .i64 a, .int .i64 b, .int .i64 c, .int .i64 n, .string S]] w fun e w' => e = .returned (.bool false) ∧ Below w.heap.size w w' := by
  go_enter Try.func34, Try.ntmps34
  go_wp2
  go_ret
  exact ⟨by first | rfl | exact ret_bool (by simp <;> omega), (Below.refl _ _).alloc (Nat.le_refl _) _⟩
theorem plain_25_101 (a b c n : Int) (S : ByteArray) (w : World) (hs : S.toList = []) (h2 : n < 0) (h3 : n ≤ 1000) : Calls Try.prog 34 #[.agg #[.int .i64 25, .int .i64 a, .int .i64 b, .int .i64 c, .int .i64 n, .string S]] w fun e w' => e = .returned (.bool false) ∧ Below w.heap.size w w' := by
  go_enter Try.func34, Try.ntmps34
  go_wp2
  go_ret
  exact ⟨by first | rfl | exact ret_bool (by simp <;> omega), (Below.refl _ _).alloc (Nat.le_refl _) _⟩
theorem plain_25_011 (a b c n : Int) (S : ByteArray) (w : World) (hs : ¬ S.toList = []) (h2 : 0 ≤ n) (h3 : n ≤ 1000) : Calls Try.prog 34 #[.agg #[.int .i64 25, .int .i64 a, .int .i64 b, .int .i64 c, .int .i64 n, .string S]] w fun e w' => e = .returned (.bool false) ∧ Below w.heap.size w w' := by
  have hs' : (!S.toList.isEmpty) = true := by simp [hs]
  go_enter Try.func34, Try.ntmps34
  go_wp2
  go_ret
  exact ⟨by first | rfl | exact ret_bool (by simp <;> omega), (Below.refl _ _).alloc (Nat.le_refl _) _⟩
theorem plain_25_010 (a b c n : Int) (S : ByteArray) (w : World) (hs : ¬ S.toList = []) (h2 : 0 ≤ n) (h3 : 1000 < n) : Calls Try.prog 34 #[.agg #[.int .i64 25, .int .i64 a, .int .i64 b, .int .i64 c, .int .i64 n, .string S]] w fun e w' => e = .returned (.bool false) ∧ Below w.heap.size w w' := by
  have hs' : (!S.toList.isEmpty) = true := by simp [hs]
  go_enter Try.func34, Try.ntmps34
  go_wp2
  go_ret
  exact ⟨by first | rfl | exact ret_bool (by simp <;> omega), (Below.refl _ _).alloc (Nat.le_refl _) _⟩
theorem plain_25_001 (a b c n : Int) (S : ByteArray) (w : World) (hs : ¬ S.toList = []) (h2 : n < 0) (h3 : n ≤ 1000) : Calls Try.prog 34 #[.agg #[.int .i64 25, .int .i64 a, .int .i64 b, .int .i64 c, .int .i64 n, .string S]] w fun e w' => e = .returned (.bool false) ∧ Below w.heap.size w w' := by
  have hs' : (!S.toList.isEmpty) = true := by simp [hs]
  go_enter Try.func34, Try.ntmps34
  go_wp2
  go_ret
  exact ⟨by first | rfl | exact ret_bool (by simp <;> omega), (Below.refl _ _).alloc (Nat.le_refl _) _⟩
theorem plain_3_1a (a b c n : Int) (S : ByteArray) (w : World) (hs : S.toList = []) (h2 : (n == 0) = true) : Calls Try.prog 34 #[.agg #[.int .i64 3, .int .i64 a, .int .i64 b, .int .i64 c, .int .i64 n, .string S]] w fun e w' => e = .returned (.bool false) ∧ Below w.heap.size w w' := by
  go_enter Try.func34, Try.ntmps34
  go_wp2
  go_ret
  exact ⟨by first | rfl | exact ret_bool (by simp <;> omega), (Below.refl _ _).alloc (Nat.le_refl _) _⟩
theorem plain_3_1b (a b c n : Int) (S : ByteArray) (w : World) (hs : S.toList = []) (h2 : (n == 0) = false) : Calls Try.prog 34 #[.agg #[.int .i64 3, .int .i64 a, .int .i64 b, .int .i64 c, .int .i64 n, .string S]] w fun e w' => e = .returned (.bool false) ∧ Below w.heap.size w w' := by
  go_enter Try.func34, Try.ntmps34
  go_wp2
  go_ret
  exact ⟨by first | rfl | exact ret_bool (by simp <;> omega), (Below.refl _ _).alloc (Nat.le_refl _) _⟩
theorem plain_3_0a (a b c n : Int) (S : ByteArray) (w : World) (hs : ¬ S.toList = []) (h2 : (n == 0) = true) : Calls Try.prog 34 #[.agg #[.int .i64 3, .int .i64 a, .int .i64 b, .int .i64 c, .int .i64 n, .string S]] w fun e w' => e = .returned (.bool true) ∧ Below w.heap.size w w' := by
  have hs' : (!S.toList.isEmpty) = true := by simp [hs]
  go_enter Try.func34, Try.ntmps34
  go_wp2
  go_ret
  exact ⟨by first | rfl | exact ret_bool (by simp <;> omega), (Below.refl _ _).alloc (Nat.le_refl _) _⟩
theorem plain_3_0b (a b c n : Int) (S : ByteArray) (w : World) (hs : ¬ S.toList = []) (h2 : (n == 0) = false) : Calls Try.prog 34 #[.agg #[.int .i64 3, .int .i64 a, .int .i64 b, .int .i64 c, .int .i64 n, .string S]] w fun e w' => e = .returned (.bool false) ∧ Below w.heap.size w w' := by
  have hs' : (!S.toList.isEmpty) = true := by simp [hs]
  go_enter Try.func34, Try.ntmps34
  go_wp2
  go_ret
  exact ⟨by first | rfl | exact ret_bool (by simp <;> omega), (Below.refl _ _).alloc (Nat.le_refl _) _⟩
theorem plain_27_1a (a b c n : Int) (S : ByteArray) (w : World) (hs : S.toList = []) (h2 : (n == 0) = true) : Calls Try.prog 34 #[.agg #[.int .i64 27, .int .i64 a, .int .i64 b, .int .i64 c, .int .i64 n, .string S]] w fun e w' => e = .returned (.bool false) ∧ Below w.heap.size w w' := by
  go_enter Try.func34, Try.ntmps34
  go_wp2
  go_ret
  exact ⟨by first | rfl | exact ret_bool (by simp <;> omega), (Below.refl _ _).alloc (Nat.le_refl _) _⟩
theorem plain_27_1b (a b c n : Int) (S : ByteArray) (w : World) (hs : S.toList = []) (h2 : (n == 0) = false) : Calls Try.prog 34 #[.agg #[.int .i64 27, .int .i64 a, .int .i64 b, .int .i64 c, .int .i64 n, .string S]] w fun e w' => e = .returned (.bool false) ∧ Below w.heap.size w w' := by
  go_enter Try.func34, Try.ntmps34
  go_wp2
  go_ret
  exact ⟨by first | rfl | exact ret_bool (by simp <;> omega), (Below.refl _ _).alloc (Nat.le_refl _) _⟩
theorem plain_27_0a (a b c n : Int) (S : ByteArray) (w : World) (hs : ¬ S.toList = []) (h2 : (n == 0) = true) : Calls Try.prog 34 #[.agg #[.int .i64 27, .int .i64 a, .int .i64 b, .int .i64 c, .int .i64 n, .string S]] w fun e w' => e = .returned (.bool true) ∧ Below w.heap.size w w' := by
  have hs' : (!S.toList.isEmpty) = true := by simp [hs]
  go_enter Try.func34, Try.ntmps34
  go_wp2
  go_ret
  exact ⟨by first | rfl | exact ret_bool (by simp <;> omega), (Below.refl _ _).alloc (Nat.le_refl _) _⟩
theorem plain_27_0b (a b c n : Int) (S : ByteArray) (w : World) (hs : ¬ S.toList = []) (h2 : (n == 0) = false) : Calls Try.prog 34 #[.agg #[.int .i64 27, .int .i64 a, .int .i64 b, .int .i64 c, .int .i64 n, .string S]] w fun e w' => e = .returned (.bool false) ∧ Below w.heap.size w w' := by
  have hs' : (!S.toList.isEmpty) = true := by simp [hs]
  go_enter Try.func34, Try.ntmps34
  go_wp2
  go_ret
  exact ⟨by first | rfl | exact ret_bool (by simp <;> omega), (Below.refl _ _).alloc (Nat.le_refl _) _⟩
theorem plain_o_1a (o a b c n : Int) (S : ByteArray) (w : World) (hs : S.toList = []) (h2 : (n == 0) = true) (g1 : (o == 1) = false) (g2 : (o == 2) = false) (g25 : (o == 25) = false) (g3 : (o == 3) = false) (g27 : (o == 27) = false) : Calls Try.prog 34 #[.agg #[.int .i64 o, .int .i64 a, .int .i64 b, .int .i64 c, .int .i64 n, .string S]] w fun e w' => e = .returned (.bool true) ∧ Below w.heap.size w w' := by
  go_enter Try.func34, Try.ntmps34
  go_wp2
  go_ret
  exact ⟨by first | rfl | exact ret_bool (by simp <;> omega), (Below.refl _ _).alloc (Nat.le_refl _) _⟩
theorem plain_o_1b (o a b c n : Int) (S : ByteArray) (w : World) (hs : S.toList = []) (h2 : (n == 0) = false) (g1 : (o == 1) = false) (g2 : (o == 2) = false) (g25 : (o == 25) = false) (g3 : (o == 3) = false) (g27 : (o == 27) = false) : Calls Try.prog 34 #[.agg #[.int .i64 o, .int .i64 a, .int .i64 b, .int .i64 c, .int .i64 n, .string S]] w fun e w' => e = .returned (.bool false) ∧ Below w.heap.size w w' := by
  go_enter Try.func34, Try.ntmps34
  go_wp2
  go_ret
  exact ⟨by first | rfl | exact ret_bool (by simp <;> omega), (Below.refl _ _).alloc (Nat.le_refl _) _⟩
theorem plain_o_0a (o a b c n : Int) (S : ByteArray) (w : World) (hs : ¬ S.toList = []) (h2 : (n == 0) = true) (g1 : (o == 1) = false) (g2 : (o == 2) = false) (g25 : (o == 25) = false) (g3 : (o == 3) = false) (g27 : (o == 27) = false) : Calls Try.prog 34 #[.agg #[.int .i64 o, .int .i64 a, .int .i64 b, .int .i64 c, .int .i64 n, .string S]] w fun e w' => e = .returned (.bool false) ∧ Below w.heap.size w w' := by
  have hs' : (!S.toList.isEmpty) = true := by simp [hs]
  go_enter Try.func34, Try.ntmps34
  go_wp2
  go_ret
  exact ⟨by first | rfl | exact ret_bool (by simp <;> omega), (Below.refl _ _).alloc (Nat.le_refl _) _⟩
theorem plain_o_0b (o a b c n : Int) (S : ByteArray) (w : World) (hs : ¬ S.toList = []) (h2 : (n == 0) = false) (g1 : (o == 1) = false) (g2 : (o == 2) = false) (g25 : (o == 25) = false) (g3 : (o == 3) = false) (g27 : (o == 27) = false) : Calls Try.prog 34 #[.agg #[.int .i64 o, .int .i64 a, .int .i64 b, .int .i64 c, .int .i64 n, .string S]] w fun e w' => e = .returned (.bool false) ∧ Below w.heap.size w w' := by
  have hs' : (!S.toList.isEmpty) = true := by simp [hs]
  go_enter Try.func34, Try.ntmps34
  go_wp2
  go_ret
  exact ⟨rfl, (Below.refl _ _).alloc (Nat.le_refl _) _⟩
set_option maxHeartbeats 1600000 in
theorem plain_any (x : Nd) (w : World) : Calls Try.prog 34 #[.agg #[.int .i64 x.op, .int .i64 x.a, .int .i64 x.b, .int .i64 x.c, .int .i64 x.n, .string (str x.name)]] w
    fun e w' => e = .returned (.bool (plain2B x.lab)) ∧ Below w.heap.size w w' := by
  obtain ⟨o, a, b, c, n, s⟩ := x
  show Calls Try.prog 34 #[.agg #[.int .i64 o, .int .i64 a, .int .i64 b, .int .i64 c, .int .i64 n, .string (str s)]] w fun e w' => e = .returned (.bool (plain2B ⟨o, n, s⟩)) ∧ Below w.heap.size w w'
  by_cases hs : s = []
  · have hS : (str s).toList = [] := by rw [str_toList]; exact hs
    by_cases q1 : o = 1
    · subst q1
      by_cases h2 : 0 ≤ n
      · by_cases h3 : n ≤ 2147483647
        · have h := plain_1_111 a b c n (str s) w hS h2 h3; refine h.mono fun e w' ⟨h1, h2⟩ => ⟨h1.trans (ret_bool ?_), h2⟩; simp [hs, plain2B] <;> (try intros) <;> omega
        · have h := plain_1_110 a b c n (str s) w hS h2 (by omega); refine h.mono fun e w' ⟨h1, h2⟩ => ⟨h1.trans (ret_bool ?_), h2⟩; simp [hs, plain2B] <;> (try intros) <;> omega
      · have h := plain_1_101 a b c n (str s) w hS (by omega) (by omega); refine h.mono fun e w' ⟨h1, h2⟩ => ⟨h1.trans (ret_bool ?_), h2⟩; simp [hs, plain2B] <;> (try intros) <;> omega
    by_cases q2 : o = 2
    · subst q2
      by_cases h2 : n = 0
      · have h := plain_2_1a a b c n (str s) w hS (by simp [h2]); refine h.mono fun e w' ⟨h1, h2⟩ => ⟨h1.trans (ret_bool ?_), h2⟩; simp [hs, plain2B] <;> (try intros) <;> omega
      by_cases h3 : n = 1
      · have h := plain_2_1b a b c n (str s) w hS (by simp [h2]) (by simp [h3]); refine h.mono fun e w' ⟨h1, h2⟩ => ⟨h1.trans (ret_bool ?_), h2⟩; simp [hs, plain2B] <;> (try intros) <;> omega
      · have h := plain_2_1c a b c n (str s) w hS (by simp [h2]) (by simp [h3]); refine h.mono fun e w' ⟨h1, h2⟩ => ⟨h1.trans (ret_bool ?_), h2⟩; simp [hs, plain2B] <;> (try intros) <;> omega
    by_cases q25 : o = 25
    · subst q25
      by_cases h2 : 0 ≤ n
      · by_cases h3 : n ≤ 1000
        · have h := plain_25_111 a b c n (str s) w hS h2 h3; refine h.mono fun e w' ⟨h1, h2⟩ => ⟨h1.trans (ret_bool ?_), h2⟩; simp [hs, plain2B] <;> (try intros) <;> omega
        · have h := plain_25_110 a b c n (str s) w hS h2 (by omega); refine h.mono fun e w' ⟨h1, h2⟩ => ⟨h1.trans (ret_bool ?_), h2⟩; simp [hs, plain2B] <;> (try intros) <;> omega
      · have h := plain_25_101 a b c n (str s) w hS (by omega) (by omega); refine h.mono fun e w' ⟨h1, h2⟩ => ⟨h1.trans (ret_bool ?_), h2⟩; simp [hs, plain2B] <;> (try intros) <;> omega
    by_cases q3 : o = 3
    · subst q3
      by_cases h2 : n = 0
      · have h := plain_3_1a a b c n (str s) w hS (by simp [h2]); refine h.mono fun e w' ⟨h1, h2⟩ => ⟨h1.trans (ret_bool ?_), h2⟩; simp [hs, plain2B] <;> (try intros) <;> omega
      · have h := plain_3_1b a b c n (str s) w hS (by simp [h2]); refine h.mono fun e w' ⟨h1, h2⟩ => ⟨h1.trans (ret_bool ?_), h2⟩; simp [hs, plain2B] <;> (try intros) <;> omega
    by_cases q27 : o = 27
    · subst q27
      by_cases h2 : n = 0
      · have h := plain_27_1a a b c n (str s) w hS (by simp [h2]); refine h.mono fun e w' ⟨h1, h2⟩ => ⟨h1.trans (ret_bool ?_), h2⟩; simp [hs, plain2B] <;> (try intros) <;> omega
      · have h := plain_27_1b a b c n (str s) w hS (by simp [h2]); refine h.mono fun e w' ⟨h1, h2⟩ => ⟨h1.trans (ret_bool ?_), h2⟩; simp [hs, plain2B] <;> (try intros) <;> omega
    by_cases h2 : n = 0
    · have h := plain_o_1a o a b c n (str s) w hS (by simp [h2]) (by simp [q1]) (by simp [q2]) (by simp [q25]) (by simp [q3]) (by simp [q27]); refine h.mono fun e w' ⟨h1, h2⟩ => ⟨h1.trans (ret_bool ?_), h2⟩; have eo : (o == 3 || o == 27) = false := (by simp [q3, q27]); simp [hs, plain2B, eo, q1, q2, q25, q3, q27, bne_nil2 s] <;> (try intros) <;> omega
    · have h := plain_o_1b o a b c n (str s) w hS (by simp [h2]) (by simp [q1]) (by simp [q2]) (by simp [q25]) (by simp [q3]) (by simp [q27]); refine h.mono fun e w' ⟨h1, h2⟩ => ⟨h1.trans (ret_bool ?_), h2⟩; have eo : (o == 3 || o == 27) = false := (by simp [q3, q27]); simp [hs, plain2B, eo, q1, q2, q25, q3, q27, bne_nil2 s] <;> (try intros) <;> omega
  · have hS : ¬ (str s).toList = [] := by rw [str_toList]; exact hs
    by_cases q1 : o = 1
    · subst q1
      by_cases h2 : 0 ≤ n
      · by_cases h3 : n ≤ 2147483647
        · have h := plain_1_011 a b c n (str s) w hS h2 h3; refine h.mono fun e w' ⟨h1, h2⟩ => ⟨h1.trans (ret_bool ?_), h2⟩; simp [hs, plain2B] <;> (try intros) <;> omega
        · have h := plain_1_010 a b c n (str s) w hS h2 (by omega); refine h.mono fun e w' ⟨h1, h2⟩ => ⟨h1.trans (ret_bool ?_), h2⟩; simp [hs, plain2B] <;> (try intros) <;> omega
      · have h := plain_1_001 a b c n (str s) w hS (by omega) (by omega); refine h.mono fun e w' ⟨h1, h2⟩ => ⟨h1.trans (ret_bool ?_), h2⟩; simp [hs, plain2B] <;> (try intros) <;> omega
    by_cases q2 : o = 2
    · subst q2
      by_cases h2 : n = 0
      · have h := plain_2_0a a b c n (str s) w hS (by simp [h2]); refine h.mono fun e w' ⟨h1, h2⟩ => ⟨h1.trans (ret_bool ?_), h2⟩; simp [hs, plain2B] <;> (try intros) <;> omega
      by_cases h3 : n = 1
      · have h := plain_2_0b a b c n (str s) w hS (by simp [h2]) (by simp [h3]); refine h.mono fun e w' ⟨h1, h2⟩ => ⟨h1.trans (ret_bool ?_), h2⟩; simp [hs, plain2B] <;> (try intros) <;> omega
      · have h := plain_2_0c a b c n (str s) w hS (by simp [h2]) (by simp [h3]); refine h.mono fun e w' ⟨h1, h2⟩ => ⟨h1.trans (ret_bool ?_), h2⟩; simp [hs, plain2B] <;> (try intros) <;> omega
    by_cases q25 : o = 25
    · subst q25
      by_cases h2 : 0 ≤ n
      · by_cases h3 : n ≤ 1000
        · have h := plain_25_011 a b c n (str s) w hS h2 h3; refine h.mono fun e w' ⟨h1, h2⟩ => ⟨h1.trans (ret_bool ?_), h2⟩; simp [hs, plain2B] <;> (try intros) <;> omega
        · have h := plain_25_010 a b c n (str s) w hS h2 (by omega); refine h.mono fun e w' ⟨h1, h2⟩ => ⟨h1.trans (ret_bool ?_), h2⟩; simp [hs, plain2B] <;> (try intros) <;> omega
      · have h := plain_25_001 a b c n (str s) w hS (by omega) (by omega); refine h.mono fun e w' ⟨h1, h2⟩ => ⟨h1.trans (ret_bool ?_), h2⟩; simp [hs, plain2B] <;> (try intros) <;> omega
    by_cases q3 : o = 3
    · subst q3
      by_cases h2 : n = 0
      · have h := plain_3_0a a b c n (str s) w hS (by simp [h2]); refine h.mono fun e w' ⟨h1, h2⟩ => ⟨h1.trans (ret_bool ?_), h2⟩; simp [hs, plain2B] <;> (try intros) <;> omega
      · have h := plain_3_0b a b c n (str s) w hS (by simp [h2]); refine h.mono fun e w' ⟨h1, h2⟩ => ⟨h1.trans (ret_bool ?_), h2⟩; simp [hs, plain2B] <;> (try intros) <;> omega
    by_cases q27 : o = 27
    · subst q27
      by_cases h2 : n = 0
      · have h := plain_27_0a a b c n (str s) w hS (by simp [h2]); refine h.mono fun e w' ⟨h1, h2⟩ => ⟨h1.trans (ret_bool ?_), h2⟩; simp [hs, plain2B] <;> (try intros) <;> omega
      · have h := plain_27_0b a b c n (str s) w hS (by simp [h2]); refine h.mono fun e w' ⟨h1, h2⟩ => ⟨h1.trans (ret_bool ?_), h2⟩; simp [hs, plain2B] <;> (try intros) <;> omega
    by_cases h2 : n = 0
    · have h := plain_o_0a o a b c n (str s) w hS (by simp [h2]) (by simp [q1]) (by simp [q2]) (by simp [q25]) (by simp [q3]) (by simp [q27]); refine h.mono fun e w' ⟨h1, h2⟩ => ⟨h1.trans (ret_bool ?_), h2⟩; have eo : (o == 3 || o == 27) = false := (by simp [q3, q27]); simp [hs, plain2B, eo, q1, q2, q25, q3, q27, bne_nil2 s] <;> (try intros) <;> omega
    · have h := plain_o_0b o a b c n (str s) w hS (by simp [h2]) (by simp [q1]) (by simp [q2]) (by simp [q25]) (by simp [q3]) (by simp [q27]); refine h.mono fun e w' ⟨h1, h2⟩ => ⟨h1.trans (ret_bool ?_), h2⟩; have eo : (o == 3 || o == 27) = false := (by simp [q3, q27]); simp [hs, plain2B, eo, q1, q2, q25, q3, q27, bne_nil2 s] <;> (try intros) <;> omega
end Go.Proofs.Ytmggedjolocgdaa.Tr
