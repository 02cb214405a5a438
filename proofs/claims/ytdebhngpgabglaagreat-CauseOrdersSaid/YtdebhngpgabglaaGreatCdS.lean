/- The document's answer in order: whether an expression may be (plain, bare, its operands), and Sub, Norm. Conditions: slices are read as lists of nodes. -/
import Derived.Test.YtdebhngpgabglaaGreatRa08
import Derived.Test.YtdebhngpgabglaaGreatKa10
import Derived.Test.YtdebhngpgabglaaGreatKb24
set_option linter.unusedVariables false
set_option linter.unusedSimpArgs false
namespace Go.Proofs.YtdebhngpgabglaaGreat.Tr
open Go.ChangeShapes Go.WideShapes Go.ChangeAt Go.RowKit
theorem bne_nil2 (s : Bytes) : (s != []) = !decide (s = []) := by cases s <;> simp
def plain2B (x : Lab) : Bool :=
 ((x.name != []) == (x.op == 3 || x.op == 27)) && decide (0 ≤ x.n) && decide (x.n ≤ if x.op = 1 then 2147483647 else if x.op = 2 then 1 else if x.op = 25 then 1000 else 0)
theorem plain_1_111 (a b c n : Int) (S : ByteArray) (w : World) (hs : S.toList = []) (h2 : 0 ≤ n) (h3 : n ≤ 2147483647) : Calls Tryz.prog 77 #[.agg #[.int .i64 1, .int .i64 a, .int .i64 b, .int .i64 c, .int .i64 n, .string S]] w fun e w' => e = .returned (.bool true) ∧ Below w.heap.size w w' := by
 go_enter Tryz.func77, Tryz.ntmps77
 go_wp2
 go_ret
 exact ⟨by first | rfl | exact ret_bool (by simp <;> omega), (Below.refl _ _).alloc (Nat.le_refl _) _⟩
theorem plain_1_110 (a b c n : Int) (S : ByteArray) (w : World) (hs : S.toList = []) (h2 : 0 ≤ n) (h3 : 2147483647 < n) : Calls Tryz.prog 77 #[.agg #[.int .i64 1, .int .i64 a, .int .i64 b, .int .i64 c, .int .i64 n, .string S]] w fun e w' => e = .returned (.bool false) ∧ Below w.heap.size w w' := by
 go_enter Tryz.func77, Tryz.ntmps77
 go_wp2
 go_ret
 exact ⟨by first | rfl | exact ret_bool (by simp <;> omega), (Below.refl _ _).alloc (Nat.le_refl _) _⟩
theorem plain_1_101 (a b c n : Int) (S : ByteArray) (w : World) (hs : S.toList = []) (h2 : n < 0) (h3 : n ≤ 2147483647) : Calls Tryz.prog 77 #[.agg #[.int .i64 1, .int .i64 a, .int .i64 b, .int .i64 c, .int .i64 n, .string S]] w fun e w' => e = .returned (.bool false) ∧ Below w.heap.size w w' := by
 go_enter Tryz.func77, Tryz.ntmps77
 go_wp2
 go_ret
 exact ⟨by first | rfl | exact ret_bool (by simp <;> omega), (Below.refl _ _).alloc (Nat.le_refl _) _⟩
theorem plain_1_011 (a b c n : Int) (S : ByteArray) (w : World) (hs : ¬ S.toList = []) (h2 : 0 ≤ n) (h3 : n ≤ 2147483647) : Calls Tryz.prog 77 #[.agg #[.int .i64 1, .int .i64 a, .int .i64 b, .int .i64 c, .int .i64 n, .string S]] w fun e w' => e = .returned (.bool false) ∧ Below w.heap.size w w' := by
 have hs' : (!S.toList.isEmpty) = true := by simp [hs]
 go_enter Tryz.func77, Tryz.ntmps77
 go_wp2
 go_ret
 exact ⟨by first | rfl | exact ret_bool (by simp <;> omega), (Below.refl _ _).alloc (Nat.le_refl _) _⟩
theorem plain_1_010 (a b c n : Int) (S : ByteArray) (w : World) (hs : ¬ S.toList = []) (h2 : 0 ≤ n) (h3 : 2147483647 < n) : Calls Tryz.prog 77 #[.agg #[.int .i64 1, .int .i64 a, .int .i64 b, .int .i64 c, .int .i64 n, .string S]] w fun e w' => e = .returned (.bool false) ∧ Below w.heap.size w w' := by
 have hs' : (!S.toList.isEmpty) = true := by simp [hs]
 go_enter Tryz.func77, Tryz.ntmps77
 go_wp2
 go_ret
 exact ⟨by first | rfl | exact ret_bool (by simp <;> omega), (Below.refl _ _).alloc (Nat.le_refl _) _⟩
theorem plain_1_001 (a b c n : Int) (S : ByteArray) (w : World) (hs : ¬ S.toList = []) (h2 : n < 0) (h3 : n ≤ 2147483647) : Calls Tryz.prog 77 #[.agg #[.int .i64 1, .int .i64 a, .int .i64 b, .int .i64 c, .int .i64 n, .string S]] w fun e w' => e = .returned (.bool false) ∧ Below w.heap.size w w' := by
 have hs' : (!S.toList.isEmpty) = true := by simp [hs]
 go_enter Tryz.func77, Tryz.ntmps77
 go_wp2
 go_ret
 exact ⟨by first | rfl | exact ret_bool (by simp <;> omega), (Below.refl _ _).alloc (Nat.le_refl _) _⟩
theorem plain_2_1a (a b c n : Int) (S : ByteArray) (w : World) (hs : S.toList = []) (h2 : (n == 0) = true) : Calls Tryz.prog 77 #[.agg #[.int .i64 2, .int .i64 a, .int .i64 b, .int .i64 c, .int .i64 n, .string S]] w fun e w' => e = .returned (.bool true) ∧ Below w.heap.size w w' := by
 go_enter Tryz.func77, Tryz.ntmps77
 go_wp2
 go_ret
 exact ⟨by first | rfl | exact ret_bool (by simp <;> omega), (Below.refl _ _).alloc (Nat.le_refl _) _⟩
theorem plain_2_1b (a b c n : Int) (S : ByteArray) (w : World) (hs : S.toList = []) (h2 : (n == 0) = false) (h3 : (n == 1) = true) : Calls Tryz.prog 77 #[.agg #[.int .i64 2, .int .i64 a, .int .i64 b, .int .i64 c, .int .i64 n, .string S]] w fun e w' => e = .returned (.bool true) ∧ Below w.heap.size w w' := by
 go_enter Tryz.func77, Tryz.ntmps77
 go_wp2
 go_ret
 exact ⟨by first | rfl | exact ret_bool (by simp <;> omega), (Below.refl _ _).alloc (Nat.le_refl _) _⟩
theorem plain_2_1c (a b c n : Int) (S : ByteArray) (w : World) (hs : S.toList = []) (h2 : (n == 0) = false) (h3 : (n == 1) = false) : Calls Tryz.prog 77 #[.agg #[.int .i64 2, .int .i64 a, .int .i64 b, .int .i64 c, .int .i64 n, .string S]] w fun e w' => e = .returned (.bool false) ∧ Below w.heap.size w w' := by
 go_enter Tryz.func77, Tryz.ntmps77
 go_wp2
 go_ret
 exact ⟨by first | rfl | exact ret_bool (by simp <;> omega), (Below.refl _ _).alloc (Nat.le_refl _) _⟩
theorem plain_2_0a (a b c n : Int) (S : ByteArray) (w : World) (hs : ¬ S.toList = []) (h2 : (n == 0) = true) : Calls Tryz.prog 77 #[.agg #[.int .i64 2, .int .i64 a, .int .i64 b, .int .i64 c, .int .i64 n, .string S]] w fun e w' => e = .returned (.bool false) ∧ Below w.heap.size w w' := by
 have hs' : (!S.toList.isEmpty) = true := by simp [hs]
 go_enter Tryz.func77, Tryz.ntmps77
 go_wp2
 go_ret
 exact ⟨by first | rfl | exact ret_bool (by simp <;> omega), (Below.refl _ _).alloc (Nat.le_refl _) _⟩
theorem plain_2_0b (a b c n : Int) (S : ByteArray) (w : World) (hs : ¬ S.toList = []) (h2 : (n == 0) = false) (h3 : (n == 1) = true) : Calls Tryz.prog 77 #[.agg #[.int .i64 2, .int .i64 a, .int .i64 b, .int .i64 c, .int .i64 n, .string S]] w fun e w' => e = .returned (.bool false) ∧ Below w.heap.size w w' := by
 have hs' : (!S.toList.isEmpty) = true := by simp [hs]
 go_enter Tryz.func77, Tryz.ntmps77
 go_wp2
 go_ret
 exact ⟨by first | rfl | exact ret_bool (by simp <;> omega), (Below.refl _ _).alloc (Nat.le_refl _) _⟩
theorem plain_2_0c (a b c n : Int) (S : ByteArray) (w : World) (hs : ¬ S.toList = []) (h2 : (n == 0) = false) (h3 : (n == 1) = false) : Calls Tryz.prog 77 #[.agg #[.int .i64 2, .int .i64 a, .int .i64 b, .int .i64 c, .int .i64 n, .string S]] w fun e w' => e = .returned (.bool false) ∧ Below w.heap.size w w' := by
 have hs' : (!S.toList.isEmpty) = true := by simp [hs]
 go_enter Tryz.func77, Tryz.ntmps77
 go_wp2
 go_ret
 exact ⟨by first | rfl | exact ret_bool (by simp <;> omega), (Below.refl _ _).alloc (Nat.le_refl _) _⟩
theorem plain_25_111 (a b c n : Int) (S : ByteArray) (w : World) (hs : S.toList = []) (h2 : 0 ≤ n) (h3 : n ≤ 1000) : Calls Tryz.prog 77 #[.agg #[.int .i64 25, .int .i64 a, .int .i64 b, .int .i64 c, .int .i64 n, .string S]] w fun e w' => e = .returned (.bool true) ∧ Below w.heap.size w w' := by
 go_enter Tryz.func77, Tryz.ntmps77
 go_wp2
 go_ret
 exact ⟨by first | rfl | exact ret_bool (by simp <;> omega), (Below.refl _ _).alloc (Nat.le_refl _) _⟩
theorem plain_25_110 (a b c n : Int) (S : ByteArray) (w : World) (hs : S.toList = []) (h2 : 0 ≤ n) (h3 : 1000 < n) : Calls Tryz.prog 77 #[.agg #[.int .i64 25, .int .i64 a, .int .i64 b, .int .i64 c, .int .i64 n, .string S]] w fun e w' => e = .returned (.bool false) ∧ Below w.heap.size w w' := by
 go_enter Tryz.func77, Tryz.ntmps77
 go_wp2
 go_ret
 exact ⟨by first | rfl | exact ret_bool (by simp <;> omega), (Below.refl _ _).alloc (Nat.le_refl _) _⟩
theorem plain_25_101 (a b c n : Int) (S : ByteArray) (w : World) (hs : S.toList = []) (h2 : n < 0) (h3 : n ≤ 1000) : Calls Tryz.prog 77 #[.agg #[.int .i64 25, .int .i64 a, .int .i64 b, .int .i64 c, .int .i64 n, .string S]] w fun e w' => e = .returned (.bool false) ∧ Below w.heap.size w w' := by
 go_enter Tryz.func77, Tryz.ntmps77
 go_wp2
 go_ret
 exact ⟨by first | rfl | exact ret_bool (by simp <;> omega), (Below.refl _ _).alloc (Nat.le_refl _) _⟩
theorem plain_25_011 (a b c n : Int) (S : ByteArray) (w : World) (hs : ¬ S.toList = []) (h2 : 0 ≤ n) (h3 : n ≤ 1000) : Calls Tryz.prog 77 #[.agg #[.int .i64 25, .int .i64 a, .int .i64 b, .int .i64 c, .int .i64 n, .string S]] w fun e w' => e = .returned (.bool false) ∧ Below w.heap.size w w' := by
 have hs' : (!S.toList.isEmpty) = true := by simp [hs]
 go_enter Tryz.func77, Tryz.ntmps77
 go_wp2
 go_ret
 exact ⟨by first | rfl | exact ret_bool (by simp <;> omega), (Below.refl _ _).alloc (Nat.le_refl _) _⟩
theorem plain_25_010 (a b c n : Int) (S : ByteArray) (w : World) (hs : ¬ S.toList = []) (h2 : 0 ≤ n) (h3 : 1000 < n) : Calls Tryz.prog 77 #[.agg #[.int .i64 25, .int .i64 a, .int .i64 b, .int .i64 c, .int .i64 n, .string S]] w fun e w' => e = .returned (.bool false) ∧ Below w.heap.size w w' := by
 have hs' : (!S.toList.isEmpty) = true := by simp [hs]
 go_enter Tryz.func77, Tryz.ntmps77
 go_wp2
 go_ret
 exact ⟨by first | rfl | exact ret_bool (by simp <;> omega), (Below.refl _ _).alloc (Nat.le_refl _) _⟩
theorem plain_25_001 (a b c n : Int) (S : ByteArray) (w : World) (hs : ¬ S.toList = []) (h2 : n < 0) (h3 : n ≤ 1000) : Calls Tryz.prog 77 #[.agg #[.int .i64 25, .int .i64 a, .int .i64 b, .int .i64 c, .int .i64 n, .string S]] w fun e w' => e = .returned (.bool false) ∧ Below w.heap.size w w' := by
 have hs' : (!S.toList.isEmpty) = true := by simp [hs]
 go_enter Tryz.func77, Tryz.ntmps77
 go_wp2
 go_ret
 exact ⟨by first | rfl | exact ret_bool (by simp <;> omega), (Below.refl _ _).alloc (Nat.le_refl _) _⟩
theorem plain_3_1a (a b c n : Int) (S : ByteArray) (w : World) (hs : S.toList = []) (h2 : (n == 0) = true) : Calls Tryz.prog 77 #[.agg #[.int .i64 3, .int .i64 a, .int .i64 b, .int .i64 c, .int .i64 n, .string S]] w fun e w' => e = .returned (.bool false) ∧ Below w.heap.size w w' := by
 go_enter Tryz.func77, Tryz.ntmps77
 go_wp2
 go_ret
 exact ⟨by first | rfl | exact ret_bool (by simp <;> omega), (Below.refl _ _).alloc (Nat.le_refl _) _⟩
theorem plain_3_1b (a b c n : Int) (S : ByteArray) (w : World) (hs : S.toList = []) (h2 : (n == 0) = false) : Calls Tryz.prog 77 #[.agg #[.int .i64 3, .int .i64 a, .int .i64 b, .int .i64 c, .int .i64 n, .string S]] w fun e w' => e = .returned (.bool false) ∧ Below w.heap.size w w' := by
 go_enter Tryz.func77, Tryz.ntmps77
 go_wp2
 go_ret
 exact ⟨by first | rfl | exact ret_bool (by simp <;> omega), (Below.refl _ _).alloc (Nat.le_refl _) _⟩
theorem plain_3_0a (a b c n : Int) (S : ByteArray) (w : World) (hs : ¬ S.toList = []) (h2 : (n == 0) = true) : Calls Tryz.prog 77 #[.agg #[.int .i64 3, .int .i64 a, .int .i64 b, .int .i64 c, .int .i64 n, .string S]] w fun e w' => e = .returned (.bool true) ∧ Below w.heap.size w w' := by
 have hs' : (!S.toList.isEmpty) = true := by simp [hs]
 go_enter Tryz.func77, Tryz.ntmps77
 go_wp2
 go_ret
 exact ⟨by first | rfl | exact ret_bool (by simp <;> omega), (Below.refl _ _).alloc (Nat.le_refl _) _⟩
theorem plain_3_0b (a b c n : Int) (S : ByteArray) (w : World) (hs : ¬ S.toList = []) (h2 : (n == 0) = false) : Calls Tryz.prog 77 #[.agg #[.int .i64 3, .int .i64 a, .int .i64 b, .int .i64 c, .int .i64 n, .string S]] w fun e w' => e = .returned (.bool false) ∧ Below w.heap.size w w' := by
 have hs' : (!S.toList.isEmpty) = true := by simp [hs]
 go_enter Tryz.func77, Tryz.ntmps77
 go_wp2
 go_ret
 exact ⟨by first | rfl | exact ret_bool (by simp <;> omega), (Below.refl _ _).alloc (Nat.le_refl _) _⟩
theorem plain_27_1a (a b c n : Int) (S : ByteArray) (w : World) (hs : S.toList = []) (h2 : (n == 0) = true) : Calls Tryz.prog 77 #[.agg #[.int .i64 27, .int .i64 a, .int .i64 b, .int .i64 c, .int .i64 n, .string S]] w fun e w' => e = .returned (.bool false) ∧ Below w.heap.size w w' := by
 go_enter Tryz.func77, Tryz.ntmps77
 go_wp2
 go_ret
 exact ⟨by first | rfl | exact ret_bool (by simp <;> omega), (Below.refl _ _).alloc (Nat.le_refl _) _⟩
theorem plain_27_1b (a b c n : Int) (S : ByteArray) (w : World) (hs : S.toList = []) (h2 : (n == 0) = false) : Calls Tryz.prog 77 #[.agg #[.int .i64 27, .int .i64 a, .int .i64 b, .int .i64 c, .int .i64 n, .string S]] w fun e w' => e = .returned (.bool false) ∧ Below w.heap.size w w' := by
 go_enter Tryz.func77, Tryz.ntmps77
 go_wp2
 go_ret
 exact ⟨by first | rfl | exact ret_bool (by simp <;> omega), (Below.refl _ _).alloc (Nat.le_refl _) _⟩
theorem plain_27_0a (a b c n : Int) (S : ByteArray) (w : World) (hs : ¬ S.toList = []) (h2 : (n == 0) = true) : Calls Tryz.prog 77 #[.agg #[.int .i64 27, .int .i64 a, .int .i64 b, .int .i64 c, .int .i64 n, .string S]] w fun e w' => e = .returned (.bool true) ∧ Below w.heap.size w w' := by
 have hs' : (!S.toList.isEmpty) = true := by simp [hs]
 go_enter Tryz.func77, Tryz.ntmps77
 go_wp2
 go_ret
 exact ⟨by first | rfl | exact ret_bool (by simp <;> omega), (Below.refl _ _).alloc (Nat.le_refl _) _⟩
theorem plain_27_0b (a b c n : Int) (S : ByteArray) (w : World) (hs : ¬ S.toList = []) (h2 : (n == 0) = false) : Calls Tryz.prog 77 #[.agg #[.int .i64 27, .int .i64 a, .int .i64 b, .int .i64 c, .int .i64 n, .string S]] w fun e w' => e = .returned (.bool false) ∧ Below w.heap.size w w' := by
 have hs' : (!S.toList.isEmpty) = true := by simp [hs]
 go_enter Tryz.func77, Tryz.ntmps77
 go_wp2
 go_ret
 exact ⟨by first | rfl | exact ret_bool (by simp <;> omega), (Below.refl _ _).alloc (Nat.le_refl _) _⟩
theorem plain_o_1a (o a b c n : Int) (S : ByteArray) (w : World) (hs : S.toList = []) (h2 : (n == 0) = true) (g1 : (o == 1) = false) (g2 : (o == 2) = false) (g25 : (o == 25) = false) (g3 : (o == 3) = false) (g27 : (o == 27) = false) : Calls Tryz.prog 77 #[.agg #[.int .i64 o, .int .i64 a, .int .i64 b, .int .i64 c, .int .i64 n, .string S]] w fun e w' => e = .returned (.bool true) ∧ Below w.heap.size w w' := by
 go_enter Tryz.func77, Tryz.ntmps77
 go_wp2
 go_ret
 exact ⟨by first | rfl | exact ret_bool (by simp <;> omega), (Below.refl _ _).alloc (Nat.le_refl _) _⟩
theorem plain_o_1b (o a b c n : Int) (S : ByteArray) (w : World) (hs : S.toList = []) (h2 : (n == 0) = false) (g1 : (o == 1) = false) (g2 : (o == 2) = false) (g25 : (o == 25) = false) (g3 : (o == 3) = false) (g27 : (o == 27) = false) : Calls Tryz.prog 77 #[.agg #[.int .i64 o, .int .i64 a, .int .i64 b, .int .i64 c, .int .i64 n, .string S]] w fun e w' => e = .returned (.bool false) ∧ Below w.heap.size w w' := by
 go_enter Tryz.func77, Tryz.ntmps77
 go_wp2
 go_ret
 exact ⟨by first | rfl | exact ret_bool (by simp <;> omega), (Below.refl _ _).alloc (Nat.le_refl _) _⟩
theorem plain_o_0a (o a b c n : Int) (S : ByteArray) (w : World) (hs : ¬ S.toList = []) (h2 : (n == 0) = true) (g1 : (o == 1) = false) (g2 : (o == 2) = false) (g25 : (o == 25) = false) (g3 : (o == 3) = false) (g27 : (o == 27) = false) : Calls Tryz.prog 77 #[.agg #[.int .i64 o, .int .i64 a, .int .i64 b, .int .i64 c, .int .i64 n, .string S]] w fun e w' => e = .returned (.bool false) ∧ Below w.heap.size w w' := by
 have hs' : (!S.toList.isEmpty) = true := by simp [hs]
 go_enter Tryz.func77, Tryz.ntmps77
 go_wp2
 go_ret
 exact ⟨by first | rfl | exact ret_bool (by simp <;> omega), (Below.refl _ _).alloc (Nat.le_refl _) _⟩
theorem plain_o_0b (o a b c n : Int) (S : ByteArray) (w : World) (hs : ¬ S.toList = []) (h2 : (n == 0) = false) (g1 : (o == 1) = false) (g2 : (o == 2) = false) (g25 : (o == 25) = false) (g3 : (o == 3) = false) (g27 : (o == 27) = false) : Calls Tryz.prog 77 #[.agg #[.int .i64 o, .int .i64 a, .int .i64 b, .int .i64 c, .int .i64 n, .string S]] w fun e w' => e = .returned (.bool false) ∧ Below w.heap.size w w' := by
 have hs' : (!S.toList.isEmpty) = true := by simp [hs]
 go_enter Tryz.func77, Tryz.ntmps77
 go_wp2
 go_ret
 exact ⟨rfl, (Below.refl _ _).alloc (Nat.le_refl _) _⟩
set_option maxHeartbeats 1600000 in
theorem plain_any (x : Nd) (w : World) : Calls Tryz.prog 77 #[.agg #[.int .i64 x.op, .int .i64 x.a, .int .i64 x.b, .int .i64 x.c, .int .i64 x.n, .string (str x.name)]] w
 fun e w' => e = .returned (.bool (plain2B x.lab)) ∧ Below w.heap.size w w' := by
 obtain ⟨o, a, b, c, n, s⟩ := x
 show Calls Tryz.prog 77 #[.agg #[.int .i64 o, .int .i64 a, .int .i64 b, .int .i64 c, .int .i64 n, .string (str s)]] w fun e w' => e = .returned (.bool (plain2B ⟨o, n, s⟩)) ∧ Below w.heap.size w w'
 by_cases hs : s = []
 · have hS : (str s).toList = [] := by rw [str_toList]; exact hs
   by_cases q1 : o = 1
   · subst q1
     by_cases h2 : 0 ≤ n
     · by_cases h3 : n ≤ 2147483647
       · have h := plain_1_111 a b c n (str s) w hS h2 h3; refine h.mono fun e w' ⟨h1, h2⟩ => ⟨h1.trans (ret_bool ?_), h2⟩; simp [hs, plain2B] <;> (try intros) <;> omega
       · have h := plain_1_110 a b c n (str s) w hS h2 (by omega); refine h.mono fun e w' ⟨h1, h2⟩ => ⟨h1.trans (ret_bool ?_), h2⟩; simp [hs, plain2B] <;> (try intros) <;> omega
     · have h := plain_1_101 a b c n (str s) w hS (by omega) (by omega); refine h.mono fun e w' ⟨h1, h2⟩ => ⟨h1.trans (ret_bool ?_), h2⟩; simp [hs, plain2B] <;> (try intros) <;> omega
   by_cases q2 : o = 2
   · subst q2
     by_cases h2 : n = 0
     · have h := plain_2_1a a b c n (str s) w hS (by simp [h2]); refine h.mono fun e w' ⟨h1, h2⟩ => ⟨h1.trans (ret_bool ?_), h2⟩; simp [hs, plain2B] <;> (try intros) <;> omega
     by_cases h3 : n = 1
     · have h := plain_2_1b a b c n (str s) w hS (by simp [h2]) (by simp [h3]); refine h.mono fun e w' ⟨h1, h2⟩ => ⟨h1.trans (ret_bool ?_), h2⟩; simp [hs, plain2B] <;> (try intros) <;> omega
     · have h := plain_2_1c a b c n (str s) w hS (by simp [h2]) (by simp [h3]); refine h.mono fun e w' ⟨h1, h2⟩ => ⟨h1.trans (ret_bool ?_), h2⟩; simp [hs, plain2B] <;> (try intros) <;> omega
   by_cases q25 : o = 25
   · subst q25
     by_cases h2 : 0 ≤ n
     · by_cases h3 : n ≤ 1000
       · have h := plain_25_111 a b c n (str s) w hS h2 h3; refine h.mono fun e w' ⟨h1, h2⟩ => ⟨h1.trans (ret_bool ?_), h2⟩; simp [hs, plain2B] <;> (try intros) <;> omega
       · have h := plain_25_110 a b c n (str s) w hS h2 (by omega); refine h.mono fun e w' ⟨h1, h2⟩ => ⟨h1.trans (ret_bool ?_), h2⟩; simp [hs, plain2B] <;> (try intros) <;> omega
     · have h := plain_25_101 a b c n (str s) w hS (by omega) (by omega); refine h.mono fun e w' ⟨h1, h2⟩ => ⟨h1.trans (ret_bool ?_), h2⟩; simp [hs, plain2B] <;> (try intros) <;> omega
   by_cases q3 : o = 3
   · subst q3
     by_cases h2 : n = 0
     · have h := plain_3_1a a b c n (str s) w hS (by simp [h2]); refine h.mono fun e w' ⟨h1, h2⟩ => ⟨h1.trans (ret_bool ?_), h2⟩; simp [hs, plain2B] <;> (try intros) <;> omega
     · have h := plain_3_1b a b c n (str s) w hS (by simp [h2]); refine h.mono fun e w' ⟨h1, h2⟩ => ⟨h1.trans (ret_bool ?_), h2⟩; simp [hs, plain2B] <;> (try intros) <;> omega
   by_cases q27 : o = 27
   · subst q27
     by_cases h2 : n = 0
     · have h := plain_27_1a a b c n (str s) w hS (by simp [h2]); refine h.mono fun e w' ⟨h1, h2⟩ => ⟨h1.trans (ret_bool ?_), h2⟩; simp [hs, plain2B] <;> (try intros) <;> omega
     · have h := plain_27_1b a b c n (str s) w hS (by simp [h2]); refine h.mono fun e w' ⟨h1, h2⟩ => ⟨h1.trans (ret_bool ?_), h2⟩; simp [hs, plain2B] <;> (try intros) <;> omega
   by_cases h2 : n = 0
   · have h := plain_o_1a o a b c n (str s) w hS (by simp [h2]) (by simp [q1]) (by simp [q2]) (by simp [q25]) (by simp [q3]) (by simp [q27]); refine h.mono fun e w' ⟨h1, h2⟩ => ⟨h1.trans (ret_bool ?_), h2⟩; have eo : (o == 3 || o == 27) = false := (by simp [q3, q27]); simp [hs, plain2B, eo, q1, q2, q25, q3, q27, bne_nil2 s] <;> (try intros) <;> omega
   · have h := plain_o_1b o a b c n (str s) w hS (by simp [h2]) (by simp [q1]) (by simp [q2]) (by simp [q25]) (by simp [q3]) (by simp [q27]); refine h.mono fun e w' ⟨h1, h2⟩ => ⟨h1.trans (ret_bool ?_), h2⟩; have eo : (o == 3 || o == 27) = false := (by simp [q3, q27]); simp [hs, plain2B, eo, q1, q2, q25, q3, q27, bne_nil2 s] <;> (try intros) <;> omega
 · have hS : ¬ (str s).toList = [] := by rw [str_toList]; exact hs
   by_cases q1 : o = 1
   · subst q1
     by_cases h2 : 0 ≤ n
     · by_cases h3 : n ≤ 2147483647
       · have h := plain_1_011 a b c n (str s) w hS h2 h3; refine h.mono fun e w' ⟨h1, h2⟩ => ⟨h1.trans (ret_bool ?_), h2⟩; simp [hs, plain2B] <;> (try intros) <;> omega
       · have h := plain_1_010 a b c n (str s) w hS h2 (by omega); refine h.mono fun e w' ⟨h1, h2⟩ => ⟨h1.trans (ret_bool ?_), h2⟩; simp [hs, plain2B] <;> (try intros) <;> omega
     · have h := plain_1_001 a b c n (str s) w hS (by omega) (by omega); refine h.mono fun e w' ⟨h1, h2⟩ => ⟨h1.trans (ret_bool ?_), h2⟩; simp [hs, plain2B] <;> (try intros) <;> omega
   by_cases q2 : o = 2
   · subst q2
     by_cases h2 : n = 0
     · have h := plain_2_0a a b c n (str s) w hS (by simp [h2]); refine h.mono fun e w' ⟨h1, h2⟩ => ⟨h1.trans (ret_bool ?_), h2⟩; simp [hs, plain2B] <;> (try intros) <;> omega
     by_cases h3 : n = 1
     · have h := plain_2_0b a b c n (str s) w hS (by simp [h2]) (by simp [h3]); refine h.mono fun e w' ⟨h1, h2⟩ => ⟨h1.trans (ret_bool ?_), h2⟩; simp [hs, plain2B] <;> (try intros) <;> omega
     · have h := plain_2_0c a b c n (str s) w hS (by simp [h2]) (by simp [h3]); refine h.mono fun e w' ⟨h1, h2⟩ => ⟨h1.trans (ret_bool ?_), h2⟩; simp [hs, plain2B] <;> (try intros) <;> omega
   by_cases q25 : o = 25
   · subst q25
     by_cases h2 : 0 ≤ n
     · by_cases h3 : n ≤ 1000
       · have h := plain_25_011 a b c n (str s) w hS h2 h3; refine h.mono fun e w' ⟨h1, h2⟩ => ⟨h1.trans (ret_bool ?_), h2⟩; simp [hs, plain2B] <;> (try intros) <;> omega
       · have h := plain_25_010 a b c n (str s) w hS h2 (by omega); refine h.mono fun e w' ⟨h1, h2⟩ => ⟨h1.trans (ret_bool ?_), h2⟩; simp [hs, plain2B] <;> (try intros) <;> omega
     · have h := plain_25_001 a b c n (str s) w hS (by omega) (by omega); refine h.mono fun e w' ⟨h1, h2⟩ => ⟨h1.trans (ret_bool ?_), h2⟩; simp [hs, plain2B] <;> (try intros) <;> omega
   by_cases q3 : o = 3
   · subst q3
     by_cases h2 : n = 0
     · have h := plain_3_0a a b c n (str s) w hS (by simp [h2]); refine h.mono fun e w' ⟨h1, h2⟩ => ⟨h1.trans (ret_bool ?_), h2⟩; simp [hs, plain2B] <;> (try intros) <;> omega
     · have h := plain_3_0b a b c n (str s) w hS (by simp [h2]); refine h.mono fun e w' ⟨h1, h2⟩ => ⟨h1.trans (ret_bool ?_), h2⟩; simp [hs, plain2B] <;> (try intros) <;> omega
   by_cases q27 : o = 27
   · subst q27
     by_cases h2 : n = 0
     · have h := plain_27_0a a b c n (str s) w hS (by simp [h2]); refine h.mono fun e w' ⟨h1, h2⟩ => ⟨h1.trans (ret_bool ?_), h2⟩; simp [hs, plain2B] <;> (try intros) <;> omega
     · have h := plain_27_0b a b c n (str s) w hS (by simp [h2]); refine h.mono fun e w' ⟨h1, h2⟩ => ⟨h1.trans (ret_bool ?_), h2⟩; simp [hs, plain2B] <;> (try intros) <;> omega
   by_cases h2 : n = 0
   · have h := plain_o_0a o a b c n (str s) w hS (by simp [h2]) (by simp [q1]) (by simp [q2]) (by simp [q25]) (by simp [q3]) (by simp [q27]); refine h.mono fun e w' ⟨h1, h2⟩ => ⟨h1.trans (ret_bool ?_), h2⟩; have eo : (o == 3 || o == 27) = false := (by simp [q3, q27]); simp [hs, plain2B, eo, q1, q2, q25, q3, q27, bne_nil2 s] <;> (try intros) <;> omega
   · have h := plain_o_0b o a b c n (str s) w hS (by simp [h2]) (by simp [q1]) (by simp [q2]) (by simp [q25]) (by simp [q3]) (by simp [q27]); refine h.mono fun e w' ⟨h1, h2⟩ => ⟨h1.trans (ret_bool ?_), h2⟩; have eo : (o == 3 || o == 27) = false := (by simp [q3, q27]); simp [hs, plain2B, eo, q1, q2, q25, q3, q27, bne_nil2 s] <;> (try intros) <;> omega
set_option maxHeartbeats 3200000 in
theorem bare_any (x : Nd) (w : World) : Calls Tryz.prog 76 #[.agg #[.int .i64 x.op, .int .i64 x.a, .int .i64 x.b, .int .i64 x.c, .int .i64 x.n, .string (str x.name)]] w fun r w' => r = .returned (.bool (bareM x)) ∧ Below w.heap.size w w' := by
 obtain ⟨L, hL⟩ : ∃ L, kidsM x = L := ⟨_, rfl⟩
 have HL := Lib.hid hL
 obtain ⟨R, hR⟩ : ∃ R, bareM x = R := ⟨_, rfl⟩
 have HR := Lib.hid hR
 rw [hR]
 have hl3 : L.length ≤ 3 := by rw [← hL]; exact kids_small x
 clear hR hL
 go_enter Tryz.func76, Tryz.ntmps76
 go_wp2_with fail
 refine (rkids_any x _).mono ?_
 rintro r w2 ⟨kv, rfl, hok, hb2⟩
 rw [HL.out] at hok
 obtain ⟨A2, c2, rfl, y1, y2, hA2⟩ := Ints.of_own hok
 have hz2 := hb2.size
 simp at hz2
 have HB2 := Lib.hid (((Below.refl _ _).alloc (Nat.le_refl _) _).trans (hb2.mono (B' := w.heap.size) (by simp)))
 have e0 : w2.cell? ⟨w.heap.size, 0, none⟩ = some (.int .i64 x.op) := (hb2.cell (by simp)).trans (by simp [World.cell?_alloc_at])
 have e1 : w2.cell? ⟨w.heap.size, 1, none⟩ = some (.int .i64 x.a) := (hb2.cell (by simp)).trans (by simp [World.cell?_alloc_at])
 have e2 : w2.cell? ⟨w.heap.size, 2, none⟩ = some (.int .i64 x.b) := (hb2.cell (by simp)).trans (by simp [World.cell?_alloc_at])
 have e3 : w2.cell? ⟨w.heap.size, 3, none⟩ = some (.int .i64 x.c) := (hb2.cell (by simp)).trans (by simp [World.cell?_alloc_at])
 have e4 : w2.cell? ⟨w.heap.size, 4, none⟩ = some (.int .i64 x.n) := (hb2.cell (by simp)).trans (by simp [World.cell?_alloc_at])
 have e5 : w2.cell? ⟨w.heap.size, 5, none⟩ = some (.string (str x.name)) := (hb2.cell (by simp)).trans (by simp [World.cell?_alloc_at])
 clear hok hA2 hb2
 unfold maxLen at y2
 rcases Bool.eq_false_or_eq_true (x.op == 27) with h27 | h27
 · have hx : x.op = 27 := by simpa using h27
   have HX := Lib.hid hx
   clear hx
   rcases Bool.eq_false_or_eq_true (x.b == -1) with hb | hb <;> rcases Bool.eq_false_or_eq_true (x.c == -1) with hc | hc
   all_goals
    go_wp2
    go_ret
    exact ⟨ret_bool (by rw [← HR.out]; unfold bareM; rw [if_pos HX.out]; simp [hb, hc]), HB2.out⟩
 rcases Bool.eq_false_or_eq_true (x.op == 28) with h28 | h28
 · have hx : x.op = 28 := by simpa using h28
   have HX := Lib.hid hx
   clear hx
   rcases Bool.eq_false_or_eq_true (x.c == -1) with hc | hc
   all_goals
    go_wp2
    go_ret
    exact ⟨ret_bool (by rw [← HR.out]; unfold bareM; rw [if_neg (by simpa using h27), if_pos HX.out]; simp [hc]), HB2.out⟩
 have HR2 := Lib.hid (show R = bareN L.length x.a x.b x.c by
  rw [← HR.out, ← HL.out]; unfold bareM; rw [if_neg (by simpa using h27), if_neg (by simpa using h28)])
 obtain ⟨m, hm⟩ : ∃ m, L.length = m := ⟨_, rfl⟩
 rw [hm] at HR2 y1 hl3 ⊢
 clear hm
 have hmm : m = 0 ∨ m = 1 ∨ m = 2 ∨ m = 3 := by omega
 rcases hmm with rfl | rfl | rfl | rfl
 · rcases Bool.eq_false_or_eq_true (x.a == -1) with ha | ha <;> rcases Bool.eq_false_or_eq_true (x.b == -1) with hb | hb <;> rcases Bool.eq_false_or_eq_true (x.c == -1) with hc | hc
   all_goals
    go_wp2
    go_ret
    exact ⟨ret_bool (by rw [HR2.out]; simp [bareN, ha, hb, hc]), HB2.out⟩
 · rcases Bool.eq_false_or_eq_true (x.b == -1) with hb | hb <;> rcases Bool.eq_false_or_eq_true (x.c == -1) with hc | hc
   all_goals
    go_wp2
    go_ret
    exact ⟨ret_bool (by rw [HR2.out]; simp [bareN, hb, hc]), HB2.out⟩
 · rcases Bool.eq_false_or_eq_true (x.c == -1) with hc | hc
   all_goals
    go_wp2
    go_ret
    exact ⟨ret_bool (by rw [HR2.out]; simp [bareN, hc]), HB2.out⟩
 · go_wp2
   go_ret
   exact ⟨ret_bool (by rw [HR2.out]; simp [bareN]), HB2.out⟩
theorem plain_range (x : Lab) : plainB x = (decide (1 ≤ x.op) && decide (x.op ≤ 28) && plain2B x) := by
 unfold plainB plain2B; simp only [Bool.and_assoc]
def NodeG (e : List Nd) (k : Nat) : Prop := ∀ i x, i < k → e[i]? = some x → Good e i x
theorem bare_lit (x : Nd) (b : Bool) (w : World) (h : bareM x = b) : Calls Tryz.prog 76 #[.agg #[.int .i64 x.op, .int .i64 x.a, .int .i64 x.b, .int .i64 x.c, .int .i64 x.n, .string (str x.name)]] w
 fun r w' => r = .returned (.bool b) ∧ Below w.heap.size w w' := by rw [← h]; exact bare_any x w
theorem plain_lit (x : Nd) (b : Bool) (w : World) (h : plain2B x.lab = b) : Calls Tryz.prog 77 #[.agg #[.int .i64 x.op, .int .i64 x.a, .int .i64 x.b, .int .i64 x.c, .int .i64 x.n, .string (str x.name)]] w
 fun r w' => r = .returned (.bool b) ∧ Below w.heap.size w w' := by rw [← h]; exact plain_any x w
theorem args_lit (v : Value) (e : List Nd) (i : Nat) (x : Nd) (b : Bool) (w : World) (hv : Nodes w v e) (hx : e[i]? = some x) (hk : ∀ k ∈ kidsM x, 0 ≤ k ∧ k < (e.length : Int)) (h : argsL x.op ((kidsM x).map (opAt e)) = b) :
 Calls Tryz.prog 78 #[v, .int .i64 i] w fun r w' => r = .returned (.bool b) ∧ Below w.heap.size w w' := by rw [← h]; exact args_any v e i x w hv hx hk
set_option maxRecDepth 100000 in
set_option maxHeartbeats 8000000 in
theorem rmay_any (v : Value) (e : List Nd) (w : World) (hv : Nodes w v e) :
 Calls Tryz.prog 60 #[v] w fun r w' => r = .returned (.bool (mayB e)) ∧ Below w.heap.size w w' := by
 have HV := Lib.hid hv
 obtain ⟨A, c, rfl, h1, h2, hA⟩ := hv
 unfold maxLen at h2
 have HA := Lib.hid hA
 clear hA
 obtain ⟨i0, hi, hz0, hz1, hz2⟩ := info_parts info3
 by_cases hp : 0 < e.length
 rotate_left
 · have h0 : e.length = 0 := by omega
   have hR := Lib.hid (may_no (e := e) (fun h => by have := h.pos; omega))
   rw [hR.out, h0]
   clear h0 HA HV
   go_enter Tryz.func60, Tryz.ntmps60
   go_wp2
   go_ret
   exact ⟨rfl, Below.refl _ _⟩
 by_cases hle : e.length ≤ 5000
 rotate_left
 · have hle' : (5000 : Int) < (e.length : Int) := by omega
   have hp' : (1 : Int) ≤ (e.length : Int) := by omega
   have hR := Lib.hid (may_no (e := e) (fun h => by have := h.le; omega))
   rw [hR.out]
   clear hle
   go_enter Tryz.func60, Tryz.ntmps60
   go_wp2
   go_ret
   exact ⟨rfl, Below.refl _ _⟩
 have hp' : (1 : Int) ≤ (e.length : Int) := by omega
 have hle' : (e.length : Int) ≤ 5000 := by omega
 obtain ⟨y, hy⟩ : ∃ y, e[e.length - 1]? = some y := ⟨_, List.getElem?_eq_getElem (by omega)⟩
 have HY := Lib.hid (getD_of hy)
 have HYY := Lib.hid hy
 obtain ⟨g, o, rfl, hg, l0, l1, l2, l3, l4, l5⟩ := HA.out _ y hy
 have hidx : (e.length : Int) - 1 = ((e.length - 1 : Nat) : Int) := by omega
 have HIDX := Lib.hid hidx
 clear hidx hy l0 l1 l2 l3 l4 l5
 go_enter Tryz.func60, Tryz.ntmps60
 go_wp2_with (at_make; refine wpList_make_full _ rfl _ _ 31 rfl w.heap.size 3 i0 _ 1 Tryz.underlying31 hi hz0 hz1 _ _ _ _ e.length rfl rfl rfl rfl (by rw [hz2]; omega) (by unfold maxLen; omega) (Nat.le_refl _) ?_)
 intro w1 hown hgrow
 have hb1 : Below w.heap.size w w1 := (Below.refl _ _).grown hgrow (Nat.le_refl _) (fun k hk => by simp at hk)
 have hown0 : w1.ownsRow w.heap.size 3 1 (.slice (some ⟨w.heap.size, 0, none⟩) e.length e.length) e.length (intsOf (cntM ((e.take 0).flatMap kidsM) e.length)) := by
  rw [show (e.take 0).flatMap kidsM = [] from by simp, cnt_nil, ← made_ints]; exact hown
 clear hown hgrow
 go_wp2
 go_loopw [4] (fun i wr => ∃ k : Nat, k ≤ e.length ∧ i = .int .i64 k ∧ wr.ownsRow w.heap.size 3 1 (.slice (some ⟨w.heap.size, 0, none⟩) e.length e.length) e.length (intsOf (cntM ((e.take k).flatMap kidsM) e.length)) ∧ Below w.heap.size w wr ∧ Hid (NodeG e k)) (fun i _ => e.length - (intOf i).toNat)
 case atStart => exact ⟨0, Nat.zero_le _, rfl, hown0, hb1, fun i x h => absurd h (by omega)⟩
 case round =>
  obtain ⟨k, hk, rfl, hown, hb, hC⟩ := hrel
  clear hown0 hb1
  by_cases hlt : k < e.length
  · obtain ⟨x, hx⟩ : ∃ x, e[k]? = some x := ⟨_, List.getElem?_eq_getElem hlt⟩
    obtain ⟨g', o', hgo, hg', a0, a1, a2, a3, a4, a5⟩ := HA.out k x hx
    simp only [Option.some.injEq, Addr.mk.injEq, and_true] at hgo
    obtain ⟨rfl, rfl⟩ := hgo
    have hcb := fun q => hb.cell (p := ⟨g, q, none⟩) hg
    have b0 := (hcb _).trans a0
    have b1 := (hcb _).trans a1
    have b2 := (hcb _).trans a2
    have b3 := (hcb _).trans a3
    have b4 := (hcb _).trans a4
    have b5 := (hcb _).trans a5
    have hzz := (hown.lt _ rfl).2
    have HX := Lib.hid hx
    have HO := Lib.hid hown
    have HB := Lib.hid hb
    clear hx hcb a0 a1 a2 a3 a4 a5 hown hb hg'
    have HNG : Hid (∀ P : Prop, (Good e k x → P) → (May e → P)) := Lib.hid (fun P h hm => h (hm.node k x HX.out))
    by_cases hr1 : x.op < 1
    · have hR := Lib.hid (may_no (e := e) (HNG.out _ (fun h => by have := h.plain; rw [plain_range, decide_eq_false (show ¬ (1 ≤ x.lab.op) from by show ¬ 1 ≤ x.op; omega)] at this; simp at this)))
      go_wp2
      go_ret
      exact ⟨by rw [hR.out]; rfl, HB.out⟩
    by_cases hr2 : 28 < x.op
    · have hR := Lib.hid (may_no (e := e) (HNG.out _ (fun h => by have := h.plain; rw [plain_range, decide_eq_false (show ¬ (x.lab.op ≤ 28) from by show ¬ x.op ≤ 28; omega)] at this; simp at this)))
      have hr1' : 1 ≤ x.op := by omega
      clear hr1
      go_wp2
      go_ret
      exact ⟨by rw [hR.out]; rfl, HB.out⟩
    have hr1' : 1 ≤ x.op := by omega
    have hr2' : x.op ≤ 28 := by omega
    clear hr1 hr2
    obtain ⟨p1, hp1⟩ : ∃ b, bareM x = b := ⟨_, rfl⟩
    have HP1 := Lib.hid hp1
    clear hp1
    go_wp2_with fail
    refine (bare_lit x _ _ HP1.out).mono ?_
    rintro r w3 ⟨rfl, hb3⟩
    have hz3 := hb3.size
    have HB3 := Lib.hid (HB.out.trans (hb3.mono (B' := w.heap.size) (by omega)))
    cases p1
    · have hR := Lib.hid (may_no (e := e) (HNG.out _ (fun h => by have := (bareM_iff x).2 h.bare; rw [HP1.out] at this; cases this)))
      clear hb3
      go_wp2
      go_ret
      exact ⟨by rw [hR.out]; rfl, HB3.out⟩
    have hgz : g < wr.heap.size := by omega
    have HO3 := Lib.hid (own_below HO.out hb3)
    have d0 := (hb3.cell (p := ⟨g, o + k * 6, none⟩) hgz).trans b0
    have d1 := (hb3.cell (p := ⟨g, o + k * 6 + 1, none⟩) hgz).trans b1
    have d2 := (hb3.cell (p := ⟨g, o + k * 6 + 2, none⟩) hgz).trans b2
    have d3 := (hb3.cell (p := ⟨g, o + k * 6 + 3, none⟩) hgz).trans b3
    have d4 := (hb3.cell (p := ⟨g, o + k * 6 + 4, none⟩) hgz).trans b4
    have d5 := (hb3.cell (p := ⟨g, o + k * 6 + 5, none⟩) hgz).trans b5
    clear b0 b1 b2 b3 b4 b5 hb3
    obtain ⟨p2, hp2⟩ : ∃ b, plain2B x.lab = b := ⟨_, rfl⟩
    have HP2 := Lib.hid hp2
    clear hp2
    go_wp2_with fail
    refine (plain_lit x _ _ HP2.out).mono ?_
    rintro r w4 ⟨rfl, hb4⟩
    have hz4 := hb4.size
    have HB4 := Lib.hid (HB3.out.trans (hb4.mono (B' := w.heap.size) (by omega)))
    cases p2
    · have hR := Lib.hid (may_no (e := e) (HNG.out _ (fun h => by have := h.plain; rw [plain_range, HP2.out, Bool.and_false] at this; cases this)))
      clear hb4
      go_wp2
      go_ret
      exact ⟨by rw [hR.out]; rfl, HB4.out⟩
    have hgz3 : g < w3.heap.size := by omega
    have HO4 := Lib.hid (own_below HO3.out hb4)
    have b0 := (hb4.cell (p := ⟨g, o + k * 6, none⟩) hgz3).trans d0
    have b1 := (hb4.cell (p := ⟨g, o + k * 6 + 1, none⟩) hgz3).trans d1
    have b2 := (hb4.cell (p := ⟨g, o + k * 6 + 2, none⟩) hgz3).trans d2
    have b3 := (hb4.cell (p := ⟨g, o + k * 6 + 3, none⟩) hgz3).trans d3
    have b4 := (hb4.cell (p := ⟨g, o + k * 6 + 4, none⟩) hgz3).trans d4
    have b5 := (hb4.cell (p := ⟨g, o + k * 6 + 5, none⟩) hgz3).trans d5
    clear d0 d1 d2 d3 d4 d5 hb4
    obtain ⟨L, hL⟩ : ∃ L, kidsM x = L := ⟨_, rfl⟩
    have HL := Lib.hid hL
    obtain ⟨P, hP⟩ : ∃ P, (e.take k).flatMap kidsM = P := ⟨_, rfl⟩
    have HPP := Lib.hid hP
    have hPl : P.length ≤ 3 * k := by
     rw [← hP]; refine Nat.le_trans (flat_len3 _) ?_; rw [List.length_take]; omega
    have hLs : L.length ≤ 3 := by rw [← hL]; exact kids_small x
    clear hL hP
    go_wp2_with fail
    refine (rkids_any x _).mono ?_
    rintro r w5 ⟨kv, rfl, hok, hb5⟩
    rw [HL.out] at hok
    obtain ⟨A2, c2, rfl, y1, y2, hA2⟩ := Ints.of_own hok
    have HA2 := Lib.hid hA2
    have HKO := Lib.hid (show ∀ g2 o2, A2 = some ⟨g2, o2, none⟩ → w.heap.size < g2 from fun g2 o2 h => by subst h; have := hok.lt g2 rfl; omega)
    have hz5 := hb5.size
    have HO5 := Lib.hid (own_below HO4.out hb5)
    have HB5 := Lib.hid (HB4.out.trans (hb5.mono (by omega)))
    clear hok hA2 hb5 b0 b1 b2 b3 b4 b5
    unfold maxLen at y2
    go_wp2
    go_loopw [6] (fun c wr => ∃ j : Nat, j ≤ L.length ∧ c = .int .i64 j ∧ wr.ownsRow w.heap.size 3 1 (.slice (some ⟨w.heap.size, 0, none⟩) e.length e.length) e.length (intsOf (cntM (P ++ L.take j) e.length)) ∧ Below w.heap.size w wr ∧ w5.heap.size ≤ wr.heap.size ∧ Hid (∀ p : Addr, p.block ≠ w.heap.size → wr.cell? p = w5.cell? p) ∧ Hid (∀ q ∈ L.take j, 0 ≤ q ∧ q < (k : Int))) (fun c _ => L.length - (intOf c).toNat)
    case atStart => exact ⟨0, Nat.zero_le _, rfl, by rw [List.take_zero, List.append_nil, ← HPP.out]; exact HO5.out, HB5.out, Nat.le_refl _, fun _ _ => rfl, fun q hq => by simp at hq⟩
    case round =>
     obtain ⟨j, hj, rfl, ho3, hb3, hz3, hk3, hin⟩ := hrel
     have HO3 := Lib.hid ho3
     have HB3 := Lib.hid hb3
     clear ho3 hb3
     by_cases hlj : j < L.length
     · obtain ⟨q, hq⟩ : ∃ q, L[j]? = some q := ⟨_, List.getElem?_eq_getElem hlj⟩
       obtain ⟨g2, o2, rfl, hg2, d0'⟩ := HA2.out j q hq
       have hgb := HKO.out g2 o2 rfl
       have hgn2 : w.heap.size ≠ g2 := by omega
       have d0 := (hk3.out ⟨g2, o2 + j, none⟩ (by simp; omega)).trans d0'
       have HQ := Lib.hid hq
       clear hq d0'
       by_cases hq0 : q < 0
       · have hR := Lib.hid (may_no (e := e) (HNG.out _ (fun h => by have := h.ahead q (by rw [HL.out]; exact List.mem_of_getElem? HQ.out); omega)))
         go_wp2
         go_ret
         exact ⟨by rw [hR.out]; rfl, HB3.out⟩
       by_cases hqk : (k : Int) ≤ q
       · have hR := Lib.hid (may_no (e := e) (HNG.out _ (fun h => by have := h.ahead q (by rw [HL.out]; exact List.mem_of_getElem? HQ.out); omega)))
         have hq0' : 0 ≤ q := by omega
         clear hq0
         go_wp2
         go_ret
         exact ⟨by rw [hR.out]; rfl, HB3.out⟩
       obtain ⟨m, rfl⟩ := Int.eq_ofNat_of_zero_le (show 0 ≤ q by omega)
       have hmk : m < k := by omega
       have hml : m < e.length := by omega
       have hmk2 : decide (k ≤ m) = false := by simp; omega
       clear hq0 hqk
       have hcl : (P ++ L.take j).count (m : Int) ≤ 3 * k + 3 := by
        refine Nat.le_trans List.count_le_length ?_
        rw [List.length_append, List.length_take]; omega
       have c1 := (HO3.out.cellAt m (by omega)).trans (intsOf_get _ _ _ (cnt_get _ _ _ hml))
       have f1 := HO3.out.frozenAt m
       have HN2 := Lib.hid (show cntM (P ++ L.take (j + 1)) e.length = (cntM (P ++ L.take j) e.length).set m ((((P ++ L.take j).count (m : Int) : Nat) : Int) + 1) by
        rw [List.take_add_one, HQ.out, ← List.append_assoc]; exact cnt_snoc _ _ _ hml)
       have HIN : Hid (∀ q ∈ L.take (j + 1), 0 ≤ q ∧ q < (k : Int)) := Lib.hid (fun q hq => by
        rw [List.take_add_one, HQ.out, List.mem_append] at hq
        rcases hq with hq | hq
        · exact hin.out q hq
        · simp at hq; omega)
       obtain ⟨cn, hcn⟩ : ∃ cn, (P ++ L.take j).count (m : Int) = cn := ⟨_, rfl⟩
       rw [hcn] at c1 hcl HN2
       clear hcn
       go_wp2
       refine ⟨⟨j + 1, by omega, by go_num, ?_, HB3.out.setCell (by simp) _, by simpa using hz3, fun p hp => ?_, HIN⟩, by simp [intOf]; omega⟩
       · have := (HO3.out.stored m (.int .i64 ((cn : Int) + 1))).1
         rw [HN2.out, intsOf_set]; exact this
       · exact (World.cell?_setCell_other _ _ _ _ (fun h => hp (by rw [← h]))).trans (hk3.out p hp)
     · have hjl : j = L.length := by omega
       subst hjl
       have HIN : Hid (∀ q ∈ kidsM x, 0 ≤ q ∧ q < (k : Int)) := Lib.hid (by rw [HL.out]; have := hin.out; rwa [List.take_length] at this)
       obtain ⟨p3, hp3⟩ : ∃ b, argsL x.op ((kidsM x).map (opAt e)) = b := ⟨_, rfl⟩
       have HP3 := Lib.hid hp3
       clear hp3
       go_wp2_with fail
       refine (args_lit _ e k x _ _ (by exact HV.out.below HB3.out (Nat.le_refl _)) HX.out (fun q hq => by have := HIN.out q hq; omega) HP3.out).mono ?_
       rintro r w6 ⟨rfl, hb6⟩
       have HB6 := Lib.hid (HB3.out.trans (hb6.mono HB3.out.size))
       have HO6 := Lib.hid (own_below HO3.out hb6)
       clear hb6
       cases p3
       · have hR := Lib.hid (may_no (e := e) (HNG.out _ (fun h => by have := h.args; rw [HP3.out] at this; cases this)))
         go_wp2
         go_ret
         exact ⟨by rw [hR.out]; rfl, HB6.out⟩
       · have HC2 : Hid (NodeG e (k + 1)) := Lib.hid (fun i y hi hy => by
          by_cases hik : i < k
          · exact hC.out i y hik hy
          · have : i = k := by omega
            subst this
            have := HX.out.symm.trans hy
            simp only [Option.some.injEq] at this
            subst this
            refine ⟨?_, (bareM_iff x).1 HP1.out, HIN.out, HP3.out⟩
            rw [plain_range, HP2.out, decide_eq_true (show 1 ≤ x.lab.op from hr1'), decide_eq_true (show x.lab.op ≤ 28 from hr2')]; rfl)
         have HFL := Lib.hid (show (e.take (k + 1)).flatMap kidsM = P ++ L by rw [flat_next e k x HX.out, HPP.out, HL.out])
         go_wp2
         refine ⟨⟨k + 1, by omega, by go_num, ?_, HB6.out, HC2⟩, by simp [intOf]; omega⟩
         rw [HFL.out]; have := HO6.out; rwa [List.take_length] at this
  · have hkl : k = e.length := by omega
    subst hkl
    have HO := Lib.hid hown
    have HB := Lib.hid hb
    rw [List.take_length] at HO
    clear hown hb
    have hi2 := HIDX.out
    go_wp2
    go_loop [7] (fun c => ∃ j : Nat, j ≤ e.length - 1 ∧ c = .int .i64 j ∧ Hid (∀ p, p < j → usesM e p = 1)) (fun c => e.length - (intOf c).toNat)
    case atStart => exact ⟨0, Nat.zero_le _, rfl, fun p h => absurd h (by omega)⟩
    case round =>
     obtain ⟨j, hj, rfl, hu⟩ := hrel
     by_cases hlj : j < e.length - 1
     · have c1 := (HO.out.cellAt j (by omega)).trans (intsOf_get _ _ _ (cnt_get _ _ _ (show j < e.length by omega)))
       obtain ⟨cn, hcn⟩ : ∃ cn, (e.flatMap kidsM).count (j : Int) = cn := ⟨_, rfl⟩
       have HCN := Lib.hid (show usesM e j = cn from hcn)
       rw [hcn] at c1
       clear hcn
       by_cases h1 : cn = 1
       · subst h1
         have HU : Hid (∀ p, p < j + 1 → usesM e p = 1) := Lib.hid (fun p hp => by
          by_cases hpj : p < j
          · exact hu.out p hpj
          · have : p = j := by omega
            subst this; exact HCN.out)
         go_wp2
         refine ⟨⟨j + 1, by omega, by go_num, HU⟩, by simp [intOf]; omega⟩
       · have h1' : ((cn : Int) != 1) = true := by rw [bne_iff_ne]; omega
         have hR := Lib.hid (may_no (e := e) (fun h => by have := h.uses j (by omega); rw [HCN.out] at this; exact h1 this))
         go_wp2
         go_ret
         exact ⟨by rw [hR.out]; rfl, HB.out⟩
     · have hjl : j = e.length - 1 := by omega
       subst hjl
       obtain ⟨g', o', hgo, hg', a0, _, _, _, _, _⟩ := HA.out _ y HYY.out
       simp only [Option.some.injEq, Addr.mk.injEq, and_true] at hgo
       obtain ⟨rfl, rfl⟩ := hgo
       have b0 := (HB.out.cell (p := ⟨g, o + (e.length - 1) * 6, none⟩) hg).trans a0
       clear a0 hg'
       rcases Bool.eq_false_or_eq_true (y.op != 28) with hy | hy
       · go_wp2_with fail
         refine (rdepth_any _ e _ (by exact HV.out.below HB.out (Nat.le_refl _)) (by omega)).mono ?_
         rintro r w6 ⟨rfl, hb6⟩
         have HB6 := Lib.hid (HB.out.trans (hb6.mono HB.out.size))
         have HR := Lib.hid (show mayB e = decide (((depthM e : Nat) : Int) ≤ 40) by
          by_cases hd : depthM e ≤ 40
          · rw [may_yes ⟨hp, hle, fun i x hx => hC.out i x (List.getElem?_eq_some_iff.1 hx).1 hx, fun p hp => hu.out p (by omega), by rw [HY.out]; simpa using hy, hd⟩, decide_eq_true (by omega)]
          · rw [may_no (fun h => hd h.deep), decide_eq_false (by omega)])
         clear hb6
         go_wp2
         go_ret
         exact ⟨ret_bool HR.out.symm, HB6.out⟩
       · have hR := Lib.hid (may_no (e := e) (fun h => by have := h.last; rw [HY.out] at this; simp at hy; exact this hy))
         go_wp2
         go_ret
         exact ⟨by rw [hR.out]; rfl, HB.out⟩
theorem aim_mk (x : Nd) (K l : List Int) (h : x = mkL x.lab K) (hl : K.length = l.length) (h3 : l.length ≤ 3) : aimM x l = mkL x.lab l := by
 obtain ⟨o, a, b, c, n, s⟩ := x
 simp only [Nd.lab] at h ⊢
 match K, l, hl, h3 with
 | [], [], _, _ => exact h
 | [_], [_], _, _ =>
  simp only [mkL, Nd.mk.injEq, true_and, and_true] at h
  obtain ⟨-, rfl, rfl⟩ := h; rfl
 | [_, _], [_, _], _, _ =>
  simp only [mkL] at h
  by_cases ho : o = 28
  · subst ho
    simp only [if_true, Nd.mk.injEq, true_and, and_true] at h
    obtain ⟨-, -, rfl⟩ := h; simp [aimM, mkL]
  · simp only [ho, if_false, Nd.mk.injEq, true_and, and_true] at h
    obtain ⟨-, -, rfl⟩ := h; simp [aimM, mkL, ho]
 | _ :: _ :: _ :: _, [_, _, _], _, _ => rfl
 | _, _ :: _ :: _ :: _ :: _, _, h3 => simp at h3
structure OrdRel (w w2 : World) (b : Nat) (ov : Value) (out : List Nd) (e : List Nd) (L : List Int) (j : Nat) (wr : World) (ov' tv : Value) : Prop where
 le : j ≤ L.length
 own : wr.ownsRow b 59 6 ov' (out ++ flats e out.length (L.take j)).length (ndsOf (out ++ flats e out.length (L.take j)))
 row : wr.ownsRow w2.heap.size 3 1 tv j (intsOf ((List.range j).map (posOf e out.length L)))
 size : w2.heap.size ≤ wr.heap.size
 grown : w.grownBy wr ov.ownBlock
 keep : ∀ k, w.heap.size ≤ k → k < w2.heap.size → wr.heap[k]? = w2.heap[k]?
 blk : ∀ k, ov'.ownBlock = some k → ov.ownBlock = some k ∨ w2.heap.size ≤ k
theorem posOf_next (e : List Nd) (b : Nat) (L : List Int) (j : Nat) : (List.range (j + 1)).map (posOf e b L) = (List.range j).map (posOf e b L) ++ [posOf e b L j] := by
 rw [List.range_succ, List.map_append]; rfl
theorem ord_step {w w2 wr w3 w4 : World} {b : Nat} {ov ov' ov'' tv tv' : Value} {out : List Nd} {e : List Nd} {L : List Int} {j m : Nat} {o : Obj} (hj : L[j]? = some (m : Int)) (hb : b ≤ w.heap.size) (hw : w.heap.size ≤ w2.heap.size)
 (hov : ∀ k, ov.ownBlock = some k → k < w.heap.size) (h : OrdRel w w2 b ov out e L j wr ov' tv)
 (hown : w3.ownsRow b 59 6 ov'' ((out ++ flats e out.length (L.take j)) ++ (tree e m).flat (out ++ flats e out.length (L.take j)).length).length (ndsOf ((out ++ flats e out.length (L.take j)) ++ (tree e m).flat (out ++ flats e out.length (L.take j)).length)))
 (hg : wr.grownBy w3 ov'.ownBlock) (hblk : ∀ k, ov''.ownBlock = some k → ov'.ownBlock = some k ∨ wr.heap.size ≤ k)
 (hrow : w4.ownsRow w2.heap.size 3 1 tv' (j + 1) (intsOf ((List.range j).map (posOf e out.length L)) ++ [.int .i64 (posOf e out.length L j)])) (hg4 : (w3.alloc o).grownBy w4 tv.ownBlock)
 (htv : w3.ownsRow w2.heap.size 3 1 tv j (intsOf ((List.range j).map (posOf e out.length L)))) :
 OrdRel w w2 b ov out e L (j + 1) w4 ov'' tv' := by
 have hjl := (List.getElem?_eq_some_iff.1 hj).1
 have htk : L.take (j + 1) = L.take j ++ [(m : Int)] := by rw [List.take_add_one, hj]; rfl
 have hlen : (out ++ flats e out.length (L.take j)).length = out.length + upTo e (L.take j) := by rw [List.length_append, flats_len]
 have hs := h.size
 have hs3 := hg.size
 have hs4 := hg4.size
 simp at hs4
 have hne := own_ne hown htv (by decide)
 have hout : (out ++ flats e out.length (L.take j)) ++ (tree e m).flat (out ++ flats e out.length (L.take j)).length = out ++ flats e out.length (L.take (j + 1)) := by
  rw [htk, flats_snoc, Int.toNat_natCast, hlen, List.append_assoc]
 rw [hout] at hown
 have k4 : ∀ k, k < w3.heap.size → tv.ownBlock ≠ some k → w4.heap[k]? = w3.heap[k]? := fun k hk hn => by
  rw [hg4.block k (by simp; omega) (fun h => hn h.symm), Below.heap_alloc _ _ _ hk]
 have htl : ∀ k, tv.ownBlock = some k → w2.heap.size ≤ k := fun k hk => (htv.lt k hk).1
 refine ⟨by omega, ?_, ?_, by omega, ?_, ?_, ?_⟩
 · refine own_block hown (fun g hgb => k4 g (hown.lt g hgb).2 (hne g hgb))
 · rw [posOf_next, ints_snoc]; exact hrow
 · have g1 := h.grown
   refine ⟨?_, ?_, ?_, by omega, fun k hk hn => ?_⟩
   · exact (hg4.os).trans ((show (w3.alloc o).os = w3.os from rfl).trans (hg.os.trans g1.os)) 
   · exact (hg4.tape).trans ((show (w3.alloc o).tape = w3.tape from rfl).trans (hg.tape.trans g1.tape))
   · exact (hg4.output).trans ((show (w3.alloc o).output = w3.output from rfl).trans (hg.output.trans g1.output))
   · rw [k4 k (by omega) (fun h => by have := htl k h; omega), hg.block k (by omega) (fun h2 => by
      rcases h.blk k h2.symm with h3 | h3
      · exact hn h3.symm
      · omega)]
     exact g1.block k hk hn
 · intro k hk1 hk2
   rw [k4 k (by omega) (fun h => by have := htl k h; omega), hg.block k (by omega) (fun h2 => by
    rcases h.blk k h2.symm with h3 | h3
    · have := hov k h3; omega
    · omega)]
   exact h.keep k hk1 hk2
 · intro k hk
   rcases hblk k hk with h1 | h1
   · exact h.blk k h1
   · exact .inr (by omega)
theorem ord_end {w w2 wr w3 w4 : World} {b : Nat} {ov ov' tv : Value} {out : List Nd} {e : List Nd} {L : List Int} {i N gg cap : Nat} {y : Nd} {o : Obj} (hw : w.heap.size ≤ w2.heap.size) (h : OrdRel w w2 b ov out e L L.length wr ov' tv)
 (hb3 : Below wr.heap.size wr w3) (hg : (w3.alloc o).grownBy w4 ov'.ownBlock) (hN : (out ++ flats e out.length (L.take L.length)).length = N)
 (hown : w4.ownsRow b 59 6 (.slice (some ⟨gg, 0, none⟩) (N + 1) cap) (N + 1) (ndsOf (out ++ flats e out.length L) ++ ndCells y)) (hat : ov'.ownBlock = some gg ∨ gg = w3.heap.size + 1)
 (hfl : (tree e i).flat out.length = flats e out.length L ++ [y]) :
 OrderPost w b ov out ((tree e i).flat out.length) (.returned (.slice (some ⟨gg, 0, none⟩) (N + 1) cap)) w4 := by
 rw [List.take_length] at hN
 have hs := h.size
 have hs3 := hb3.size
 have hs4 := hg.size
 simp at hs4
 have g1 := h.grown
 refine ⟨_, rfl, ?_, ⟨?_, ?_, ?_, by omega, fun k hk hn => ?_⟩, fun k hk => ?_⟩
 · rw [hfl, ← List.append_assoc, nds_snoc, List.length_append, hN]; exact hown
 · exact hg.os.trans ((show (w3.alloc o).os = w3.os from rfl).trans (hb3.os.trans g1.os))
 · exact hg.tape.trans ((show (w3.alloc o).tape = w3.tape from rfl).trans (hb3.tape.trans g1.tape))
 · exact hg.output.trans ((show (w3.alloc o).output = w3.output from rfl).trans (hb3.output.trans g1.output))
 · rw [hg.block k (by simp; omega) (fun h2 => by
    rcases h.blk k h2.symm with h3 | h3
    · exact hn h3.symm
    · omega), Below.heap_alloc _ _ _ (by omega), hb3.block k (by omega)]
   exact g1.block k hk hn
 · have hk' : gg = k := by simpa [Value.ownBlock] using hk
   subst hk'
   rcases hat with h1 | h1
   · rcases h.blk _ h1 with h2 | h2
     · exact .inl h2
     · exact .inr (by omega)
   · exact .inr (by omega)
theorem Nodes.at_block {w w' : World} {g o n c : Nat} {l : List Nd} (h : Nodes w (.slice (some ⟨g, o, none⟩) n c) l) (hk : w'.heap[g]? = w.heap[g]?) (hs : g < w'.heap.size) : Nodes w' (.slice (some ⟨g, o, none⟩) n c) l := by
 obtain ⟨A', c', e, h1, h2, h3⟩ := h
 refine ⟨A', c', e, h1, h2, fun i t hi => ?_⟩
 obtain ⟨g', o', hg, hlt, c0, c1, c2, c3, c4, c5⟩ := h3 i t hi
 have hA : A' = some ⟨g, o, none⟩ := by injection e with e1; exact e1.symm
 rw [hA] at hg
 simp only [Option.some.injEq, Addr.mk.injEq, and_true] at hg
 obtain ⟨rfl, rfl⟩ := hg
 have q : ∀ k, w'.cell? ⟨g, k, none⟩ = w.cell? ⟨g, k, none⟩ := fun k => World.cell?_of_block (w := w) (a := ⟨g, k, none⟩) hk
 exact ⟨g, o, hA, hs, (q _).trans c0, (q _).trans c1, (q _).trans c2, (q _).trans c3, (q _).trans c4, (q _).trans c5⟩
set_option maxRecDepth 100000 in
set_option maxHeartbeats 1000000 in
theorem order_any (ev : Value) (e : List Nd) (hm : May e) (b : Nat) : ∀ (f i : Nat) (w : World) (ov : Value) (out : List Nd), i < f → i < e.length → Nodes w ev e → w.ownsRow b 59 6 ov out.length (ndsOf out) → b ≤ w.heap.size →
 (∀ g o n c, ev = .slice (some ⟨g, o, none⟩) n c → g < b) → out.length + (tree e i).size ≤ 100000 →
 Calls Tryz.prog 61 #[ev, .int .i64 i, ov] w (OrderPost w b ov out ((tree e i).flat out.length)) := by
 intro f
 induction f with
 | zero => intro i w ov out h; omega
 | succ f ih =>
  intro i w ov out hif hie hv hown hb hlow hsz
  have IH := Lib.hid ih
  clear ih
  have HV := Lib.hid hv
  have hv2 := hv
  obtain ⟨A, c, rfl, h1, h2, hA⟩ := hv2
  unfold maxLen at h2
  obtain ⟨x, hx⟩ : ∃ x, e[i]? = some x := ⟨_, List.getElem?_eq_getElem hie⟩
  obtain ⟨g, o, rfl, hg, a0, a1, a2, a3, a4, a5⟩ := hA i x hx
  have hgb := hlow g o _ _ rfl
  have HLOW := Lib.hid hlow
  have HC := Lib.hid (And.intro a0 (And.intro a1 (And.intro a2 (And.intro a3 (And.intro a4 a5)))))
  have HM := Lib.hid hm
  have HX := Lib.hid hx
  have HO := Lib.hid hown
  have hovl : ∀ k, ov.ownBlock = some k → k < w.heap.size := fun k hk => (hown.lt k hk).2
  have HOVL := Lib.hid hovl
  have HOB := Lib.hid (show ∀ k, ov.ownBlock = some k → b ≤ k from fun k hk => (hown.lt k hk).1)
  clear hA hx hm hv hown hlow hovl
  obtain ⟨L, hL⟩ : ∃ L, kidsM x = L := ⟨_, rfl⟩
  have HL := Lib.hid hL
  have hLs : L.length ≤ 3 := by rw [← hL]; exact kids_small x
  have HIN := Lib.hid (show ∀ q ∈ L, 0 ≤ q ∧ q < (i : Int) by rw [← hL]; exact HM.out.ahead i x HX.out)
  have HSZ := Lib.hid (show (tree e i).size = upTo e L + 1 by rw [← hL]; exact tree_size e HM.out.ahead i x HX.out)
  have HFL := Lib.hid (show (tree e i).flat out.length = flats e out.length L ++ [mkL x.lab ((List.range L.length).map (posOf e out.length L))] by rw [← hL]; exact tree_flat e HM.out.ahead i x HX.out _)
  clear hL
  obtain ⟨i0, hi, hz0, hz1, hz2⟩ := info_parts info3
  obtain ⟨i1, hi', hz0', hz1', hz2'⟩ := info_parts info30
  go_enter Tryz.func61, Tryz.ntmps61
  go_wp2_with fail
  refine (rkids_any x _).mono ?_
  rintro r w2 ⟨kv, rfl, hok, hb2⟩
  rw [HL.out] at hok
  obtain ⟨A2, c2, rfl, y1, y2, hA2⟩ := Ints.of_own hok
  have HA2 := Lib.hid hA2
  have hz2w := hb2.size
  have HW2 := Lib.hid hz2w
  have HKO := Lib.hid (show ∀ g2 o2, A2 = some ⟨g2, o2, none⟩ → w.heap.size ≤ g2 from fun g2 o2 h => by subst h; have := hok.lt g2 rfl; omega)
  have HREL0 : Hid (OrdRel w w2 b ov out e L 0 w2 ov (.slice none 0 0)) := Lib.hid
   { le := Nat.zero_le _, own := by have := own_below HO.out hb2; simpa [flats] using this, row := World.ownsRow_nil _ _ _ _, size := Nat.le_refl _,
     grown := ⟨hb2.os, hb2.tape, hb2.output, hb2.size, fun k hk _ => hb2.block k hk⟩, keep := fun k _ _ => rfl, blk := fun k hk => .inl hk }
  clear hok hA2 hb2 a0 a1 a2 a3 a4 a5
  unfold maxLen at y2
  go_wp2
  go_loopw [2, 8, 9] (fun s1 s2 cv wr => ∃ (j : Nat) (ov' tv : Value), ov' = s1 ∧ tv = s2 ∧ cv = .int .i64 j ∧ OrdRel w w2 b ov out e L j wr ov' tv) (fun _ _ cv _ => L.length - (intOf cv).toNat)
  case atStart => exact ⟨0, _, _, rfl, rfl, rfl, HREL0.out⟩
  case round =>
   obtain ⟨j, ov', tv, rfl, rfl, rfl, hrel⟩ := hrel
   have hj := hrel.le
   have hs2 := hrel.size
   have HREL := Lib.hid hrel
   have kp : ∀ k, w.heap.size ≤ k → k < w2.heap.size → wr.heap[k]? = w2.heap[k]? := hrel.keep
   have KP := Lib.hid kp
   have HGB : Hid (wr.heap[g]? = w.heap[g]?) := Lib.hid (hrel.grown.block g hg (fun h => by have := HOB.out g h.symm; omega))
   have NV : Hid (Nodes wr (.slice (some ⟨g, o, none⟩) e.length c) e) := Lib.hid (HV.out.at_block (hrel.grown.block g hg (fun h => by have := HOB.out g h.symm; omega)) (by omega))
   clear hrel kp
   by_cases hlj : j < L.length
   · obtain ⟨q, hq⟩ : ∃ q, L[j]? = some q := ⟨_, List.getElem?_eq_getElem hlj⟩
     obtain ⟨g2, o2, rfl, hg2, d0'⟩ := HA2.out j q hq
     have hgb2 := HKO.out g2 o2 rfl
     have d0 := (World.cell?_of_block (w := w2) (a := ⟨g2, o2 + j, none⟩) (KP.out g2 hgb2 hg2)).trans d0'
     obtain ⟨hq0, hqi⟩ := HIN.out q (List.mem_of_getElem? hq)
     obtain ⟨m, rfl⟩ := Int.eq_ofNat_of_zero_le hq0
     have HQ := Lib.hid hq
     clear hq d0'
     have hup := upTo_le e L (j + 1)
     have HUP := Lib.hid (show out.length + upTo e (L.take j) + (tree e m).size ≤ 100000 by
      rw [List.take_add_one, HQ.out] at hup
      have h3 := upTo_snoc e (L.take j) (m : Int)
      simp only [Option.toList] at hup
      rw [h3, Int.toNat_natCast] at hup
      have h4 := HSZ.out
      omega)
     clear hup
     go_wp2_with fail
     refine (IH.out m _ ov' _ (by omega) (by omega) NV.out HREL.out.own (by omega) HLOW.out (by rw [List.length_append, flats_len]; exact HUP.out)).mono ?_
     rintro r w3 ⟨ov'', rfl, hown3, hg3, hblk3⟩
     obtain ⟨A3, c3, rfl, z1, z2, _⟩ := Nodes.of_own hown3
     have hs3 := hg3.size
     have htv : w3.ownsRow w2.heap.size 3 1 tv j (intsOf ((List.range j).map (posOf e out.length L))) := own_block HREL.out.row (fun k hk => hg3.block k (HREL.out.row.lt k hk).2 (fun h => own_ne HREL.out.own HREL.out.row (by decide) k h.symm hk))
     obtain ⟨N, hN⟩ : ∃ N, ((out ++ flats e out.length (L.take j)) ++ (tree e m).flat (out ++ flats e out.length (L.take j)).length).length = N := ⟨_, rfl⟩
     have HN := Lib.hid hN
     have HPO := Lib.hid (show posOf e out.length L j = ((N - 1 : Nat) : Int) by
      rw [← hN]
      unfold posOf
      rw [List.length_append, List.length_append, flats_len, T.flat_len, List.take_add_one, HQ.out]
      rw [show (some (m : Int)).toList = [(m : Int)] from rfl, upTo_snoc, Int.toNat_natCast]
      congr 1; omega)
     have hNp : 1 ≤ N := by rw [← hN, List.length_append, T.flat_len]; have := (tree e m).size_pos; omega
     have hNm : N ≤ 100000 := by rw [← hN, List.length_append, List.length_append, flats_len, T.flat_len]; exact HUP.out
     have H3 := Lib.hid (And.intro hown3 (And.intro hg3 hblk3))
     have HTV := Lib.hid htv
     rw [hN] at z1
     clear hown3 hg3 hblk3 hN
     have e1 : (N : Int) - 1 = ((N - 1 : Nat) : Int) := by omega
     have HE1 := Lib.hid e1
     unfold maxLen at z2
     rw [HN.out]
     clear e1 htv
     go_wp2_with (at_builtin; refine wpList_append_own _ rfl (.tmp 28) (.tmp 32) 31 rfl w2.heap.size 3 i0 _ 1 8 Tryz.underlying31 hi hz0 hz1 hz2 rfl (by decide) _ _ _ rfl (HTV.out.alloc _) ⟨w3.heap.size, 0, none⟩ 1 1 [.int .i64 ((N : Int) - 1)] rfl rfl ?a1 ?b1 ?c1 ?d1 ?e1 ?_)
     case a1 => exact cell_one_new _ _ _
     case b1 => intro u hu; simp at hu; subst hu; rfl
     case c1 => unfold maxLen; omega
     case d1 => omega
     case e1 => simp; omega
     intro tv' w4 hrow4 hg4 _
     rw [HE1.out, ← HPO.out] at hrow4
     have R := Lib.hid (ord_step HQ.out hb HW2.out HOVL.out HREL.out H3.out.1 H3.out.2.1 H3.out.2.2 hrow4 hg4 HTV.out)
     clear hrow4 hg4
     go_wp2
     refine ⟨⟨j + 1, _, _, rfl, rfl, by go_num, ?_⟩, by simp [intOf]; omega⟩
     rw [← HN.out]; exact R.out
   · have hjl : j = L.length := by omega
     subst hjl
     have HL2 : Hid (Ints wr tv ((List.range L.length).map (posOf e out.length L))) := Lib.hid (Ints.of_own (by have := HREL.out.row; simpa using this))
     obtain ⟨l, hl⟩ : ∃ l, (List.range L.length).map (posOf e out.length L) = l := ⟨_, rfl⟩
     have hll : l.length = L.length := by rw [← hl]; simp
     rw [hl] at HL2 HFL
     have HAIM := Lib.hid (aim_mk x L l (by rw [← HL.out]; exact (HM.out.node i x HX.out).bare) hll.symm (by omega))
     obtain ⟨N, hN⟩ : ∃ N, (out ++ flats e out.length (L.take L.length)).length = N := ⟨_, rfl⟩
     have HN := Lib.hid hN
     have hNm : N ≤ 100000 := by
      rw [← hN, List.length_append, flats_len, List.take_length]; have := HSZ.out; omega
     have b0 := (World.cell?_of_block (w := w) (a := ⟨g, o + i * 6, none⟩) HGB.out).trans HC.out.1
     have b1 := (World.cell?_of_block (w := w) (a := ⟨g, o + i * 6 + 1, none⟩) HGB.out).trans HC.out.2.1
     have b2 := (World.cell?_of_block (w := w) (a := ⟨g, o + i * 6 + 2, none⟩) HGB.out).trans HC.out.2.2.1
     have b3 := (World.cell?_of_block (w := w) (a := ⟨g, o + i * 6 + 3, none⟩) HGB.out).trans HC.out.2.2.2.1
     have b4 := (World.cell?_of_block (w := w) (a := ⟨g, o + i * 6 + 4, none⟩) HGB.out).trans HC.out.2.2.2.2.1
     have b5 := (World.cell?_of_block (w := w) (a := ⟨g, o + i * 6 + 5, none⟩) HGB.out).trans HC.out.2.2.2.2.2
     clear hl hN
     go_wp2_with fail
     refine (aim_any x tv l _ HL2.out (by omega)).mono ?_
     rintro r w3 ⟨rfl, hb3⟩
     obtain ⟨y, hy⟩ : ∃ y, aimM x l = y := ⟨_, rfl⟩
     have HY := Lib.hid hy
     rw [hy]
     have HB3 := Lib.hid hb3
     have hs3 := hb3.size
     have HO3 := Lib.hid (own_below HREL.out.own hb3)
     rw [HN.out] at HO3
     clear hy hb3 b0 b1 b2 b3 b4 b5
     go_wp2_with (at_builtin; refine wpList_append_lies _ rfl (.tmp 34) (.tmp 41) 23 rfl b 59 i1 _ 6 56 Tryz.underlying23 hi' hz0' hz1' hz2' rfl (by decide) ov' N _ rfl (HO3.out.alloc _) ⟨w3.heap.size, 0, none⟩ 1 1 (ndCells y) rfl rfl ?a2 ?b2 (by omega) ?c2 ?d2 ?e2 (w3.heap.size + 1) ?f2 ?_)
     case a2 => exact World.news_of_block (t := 59) (fr := (0, 0)) (heap_alloc_new _ _)
     case b2 => simp [ndCells, Value.oneCell']
     case c2 => unfold maxLen; omega
     case d2 => omega
     case e2 => simp; omega
     case f2 => simp
     intro gg cap w4 hown4 hg4 hat _
     have R := Lib.hid (ord_end (i := i) HW2.out HREL.out HB3.out hg4 HN.out hown4 hat (by rw [HFL.out, ← HAIM.out, HY.out]))
     clear hown4 hg4 hat
     go_wp2
     go_ret
     exact R.out
theorem rmay_lit (v : Value) (e : List Nd) (b : Bool) (w : World) (hv : Nodes w v e) (h : mayB e = b) : Calls Tryz.prog 60 #[v] w fun r w' => r = .returned (.bool b) ∧ Below w.heap.size w w' := by rw [← h]; exact rmay_any v e w hv
set_option maxHeartbeats 1000000 in
theorem rsub_any (v : Value) (e : List Nd) (i : Int) (w : World) (hv : Nodes w v e) : Calls Tryz.prog 43 #[v, .int .i64 i] w (NodesPost w (subM e i)) := by
 have HV := Lib.hid hv
 obtain ⟨A, c, rfl, h1, h2, hA⟩ := hv
 clear hA
 unfold maxLen at h2
 rcases Bool.eq_false_or_eq_true (mayB e) with hm | hm
 · by_cases h0 : 0 ≤ i
   · by_cases hl : i < (e.length : Int)
     · obtain ⟨m, rfl⟩ := Int.eq_ofNat_of_zero_le h0
       have hml : m < e.length := by omega
       have HM := Lib.hid (may_of hm)
       have HR := Lib.hid (show subM e (m : Int) = (tree e m).flat 0 by unfold subM; rw [if_pos ⟨hm, h0, hl⟩, Int.toNat_natCast])
       have hd : decide (e.length ≤ m) = false := by simp; omega
       have HMM := Lib.hid hm
       clear hm
       rw [HR.out]
       go_enter Tryz.func43, Tryz.ntmps43
       go_wp2_with fail
       refine (rmay_lit _ e _ _ HV.out HMM.out).mono ?_
       rintro r w2 ⟨rfl, hb2⟩
       have HB2 := Lib.hid hb2
       have hs2 := hb2.size
       have HV2 := Lib.hid (HV.out.below hb2 (Nat.le_refl _))
       clear hb2
       go_wp2_with fail
       refine (order_any _ e HM.out w.heap.size (m + 1) m _ _ [] (by omega) hml HV2.out (World.ownsRow_nil _ _ _ _) hs2 (fun g o n c' he => by
        obtain ⟨A', c'', e1, _, _, hA⟩ := HV.out
        obtain ⟨g', o', hg, hlt, _⟩ := hA m _ (List.getElem?_eq_getElem hml)
        injection e1 with e2
        injection he with e3
        rw [← e2, e3] at hg
        simp at hg
        omega) (by have := size_le e HM.out m hml; have := HM.out.le; simp; omega)).mono ?_
       rintro r w3 ⟨ov, rfl, hown, hg, -⟩
       have HO := Lib.hid hown
       have HG := Lib.hid (HB2.out.grown hg hs2 (fun k hk => by simp [Value.ownBlock] at hk))
       clear hown hg
       go_wp2
       go_ret
       exact ⟨_, rfl, by simpa using HO.out, HG.out⟩
     · have HR := Lib.hid (show subM e i = [] by unfold subM; rw [if_neg (by omega)])
       have HMM := Lib.hid hm
       have hl' : (e.length : Int) ≤ i := by omega
       clear hm
       rw [HR.out]
       go_enter Tryz.func43, Tryz.ntmps43
       go_wp2_with fail
       refine (rmay_lit _ e _ _ HV.out HMM.out).mono ?_
       rintro r w2 ⟨rfl, hb2⟩
       go_wp2
       go_ret
       exact nodes_none _ _ hb2
   · have HR := Lib.hid (show subM e i = [] by unfold subM; rw [if_neg (by omega)])
     have HMM := Lib.hid hm
     have hl' : i < 0 := by omega
     clear hm h0
     rw [HR.out]
     go_enter Tryz.func43, Tryz.ntmps43
     go_wp2_with fail
     refine (rmay_lit _ e _ _ HV.out HMM.out).mono ?_
     rintro r w2 ⟨rfl, hb2⟩
     go_wp2
     go_ret
     exact nodes_none _ _ hb2
 · have HR := Lib.hid (show subM e i = [] by unfold subM; rw [if_neg (by rw [hm]; simp)])
   have HMM := Lib.hid hm
   clear hm
   rw [HR.out]
   go_enter Tryz.func43, Tryz.ntmps43
   go_wp2_with fail
   refine (rmay_lit _ e _ _ HV.out HMM.out).mono ?_
   rintro r w2 ⟨rfl, hb2⟩
   go_wp2
   go_ret
   exact nodes_none _ _ hb2
theorem rnorm_any (v : Value) (e : List Nd) (w : World) (hv : Nodes w v e) : Calls Tryz.prog 20 #[v] w (NodesPost w (normB e)) := by
 have HV := Lib.hid hv
 obtain ⟨A, c, rfl, h1, h2, hA⟩ := hv
 clear hA
 unfold maxLen at h2
 go_enter Tryz.func20, Tryz.ntmps20
 go_wp2_with fail
 refine (rsub_any _ e _ _ HV.out).mono ?_
 rintro r w2 ⟨ov, rfl, hown, hb⟩
 go_wp2
 go_ret
 exact ⟨_, rfl, hown, hb⟩
theorem Parts.keep {w w' : World} {b : Nat} {v : Value} {ls : List (List Nd)} (h : Parts w b v ls) (hb : b ≤ w.heap.size) (hs : w.heap.size ≤ w'.heap.size) (hk : ∀ g, g < b → w'.heap[g]? = w.heap[g]?) : Parts w' b v ls := by
 obtain ⟨A, c, rfl, h1, h2, h3⟩ := h
 refine ⟨A, c, rfl, h1, h2, fun i l hi => ?_⟩
 obtain ⟨g, o, u, rfl, hgb, hg, c0, hu, hul⟩ := h3 i l hi
 exact ⟨g, o, u, rfl, hgb, by omega, (World.cell?_of_block (w := w) (a := ⟨g, o + i, none⟩) (hk g hgb)).trans c0, hu.low hul hs (fun g h _ => hk g h), hul⟩
end Go.Proofs.YtdebhngpgabglaaGreat.Tr
