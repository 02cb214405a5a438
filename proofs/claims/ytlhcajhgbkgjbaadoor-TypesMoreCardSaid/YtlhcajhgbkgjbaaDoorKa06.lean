/- The function plain of the document's answer tells whether a node's number and name may be. Conditions: none. -/
import Derived.Test.YtlhcajhgbkgjbaaDoorKa02
set_option linter.unusedVariables false
set_option linter.unusedSimpArgs false
namespace Go.Proofs.YtlhcajhgbkgjbaaDoor.Tr
open Go.ChangeShapes Go.WideShapes Go.ChangeAt Go.RowKit
theorem keI (s : Bytes) : (s != []) = !decide (s = []) := by cases s <;> simp
def kao (x : Lab) : Bool :=
  ((x.name != []) == (x.op == 3 || x.op == 27)) && decide (0 <= x.n) && decide (x.n <= if x.op = 1 then 2147483647 else if x.op = 2 then 1 else if x.op = 25 then 1000 else 0)
theorem kia (a b c n : Int) (S : ByteArray) (w : World) (hs : S.toList = []) (h2 : 0 <= n) (h3 : n <= 2147483647) : Calls Tryd.prog 20 #[.agg #[.int .i64 1, .int .i64 a, .int .i64 b, .int .i64 c, .int .i64 n, .string S]] w fun e w' => e = .returned (.bool true) /\ Below w.heap.size w w' := by
  go_enter Tryd.func20, Tryd.ntmps20
  go_wp2
  go_ret
  exact ⟨by first | rfl | exact ka1 (by simp <;> omega), (Below.refl _ _).alloc (Nat.le_refl _) _⟩
theorem kib (a b c n : Int) (S : ByteArray) (w : World) (hs : S.toList = []) (h2 : 0 <= n) (h3 : 2147483647 < n) : Calls Tryd.prog 20 #[.agg #[.int .i64 1, .int .i64 a, .int .i64 b, .int .i64 c, .int .i64 n, .string S]] w fun e w' => e = .returned (.bool false) /\ Below w.heap.size w w' := by
  go_enter Tryd.func20, Tryd.ntmps20
  go_wp2
  go_ret
  exact ⟨by first | rfl | exact ka1 (by simp <;> omega), (Below.refl _ _).alloc (Nat.le_refl _) _⟩
theorem kic (a b c n : Int) (S : ByteArray) (w : World) (hs : S.toList = []) (h2 : n < 0) (h3 : n <= 2147483647) : Calls Tryd.prog 20 #[.agg #[.int .i64 1, .int .i64 a, .int .i64 b, .int .i64 c, .int .i64 n, .string S]] w fun e w' => e = .returned (.bool false) /\ Below w.heap.size w w' := by
  go_enter Tryd.func20, Tryd.ntmps20
  go_wp2
  go_ret
  exact ⟨by first | rfl | exact ka1 (by simp <;> omega), (Below.refl _ _).alloc (Nat.le_refl _) _⟩
theorem kie (a b c n : Int) (S : ByteArray) (w : World) (hs : ¬ S.toList = []) (h2 : 0 <= n) (h3 : n <= 2147483647) : Calls Tryd.prog 20 #[.agg #[.int .i64 1, .int .i64 a, .int .i64 b, .int .i64 c, .int .i64 n, .string S]] w fun e w' => e = .returned (.bool false) /\ Below w.heap.size w w' := by
  have hs' : (!S.toList.isEmpty) = true := by simp [hs]
  go_enter Tryd.func20, Tryd.ntmps20
  go_wp2
  go_ret
  exact ⟨by first | rfl | exact ka1 (by simp <;> omega), (Below.refl _ _).alloc (Nat.le_refl _) _⟩
theorem kif (a b c n : Int) (S : ByteArray) (w : World) (hs : ¬ S.toList = []) (h2 : 0 <= n) (h3 : 2147483647 < n) : Calls Tryd.prog 20 #[.agg #[.int .i64 1, .int .i64 a, .int .i64 b, .int .i64 c, .int .i64 n, .string S]] w fun e w' => e = .returned (.bool false) /\ Below w.heap.size w w' := by
  have hs' : (!S.toList.isEmpty) = true := by simp [hs]
  go_enter Tryd.func20, Tryd.ntmps20
  go_wp2
  go_ret
  exact ⟨by first | rfl | exact ka1 (by simp <;> omega), (Below.refl _ _).alloc (Nat.le_refl _) _⟩
theorem kig (a b c n : Int) (S : ByteArray) (w : World) (hs : ¬ S.toList = []) (h2 : n < 0) (h3 : n <= 2147483647) : Calls Tryd.prog 20 #[.agg #[.int .i64 1, .int .i64 a, .int .i64 b, .int .i64 c, .int .i64 n, .string S]] w fun e w' => e = .returned (.bool false) /\ Below w.heap.size w w' := by
  have hs' : (!S.toList.isEmpty) = true := by simp [hs]
  go_enter Tryd.func20, Tryd.ntmps20
  go_wp2
  go_ret
  exact ⟨by first | rfl | exact ka1 (by simp <;> omega), (Below.refl _ _).alloc (Nat.le_refl _) _⟩
theorem plain_2_1a (a b c n : Int) (S : ByteArray) (w : World) (hs : S.toList = []) (h2 : (n == 0) = true) : Calls Tryd.prog 20 #[.agg #[.int .i64 2, .int .i64 a, .int .i64 b, .int .i64 c, .int .i64 n, .string S]] w fun e w' => e = .returned (.bool true) /\ Below w.heap.size w w' := by
  go_enter Tryd.func20, Tryd.ntmps20
  go_wp2
  go_ret
  exact ⟨by first | rfl | exact ka1 (by simp <;> omega), (Below.refl _ _).alloc (Nat.le_refl _) _⟩
theorem plain_2_1b (a b c n : Int) (S : ByteArray) (w : World) (hs : S.toList = []) (h2 : (n == 0) = false) (h3 : (n == 1) = true) : Calls Tryd.prog 20 #[.agg #[.int .i64 2, .int .i64 a, .int .i64 b, .int .i64 c, .int .i64 n, .string S]] w fun e w' => e = .returned (.bool true) /\ Below w.heap.size w w' := by
  go_enter Tryd.func20, Tryd.ntmps20
  go_wp2
  go_ret
  exact ⟨by first | rfl | exact ka1 (by simp <;> omega), (Below.refl _ _).alloc (Nat.le_refl _) _⟩
theorem plain_2_1c (a b c n : Int) (S : ByteArray) (w : World) (hs : S.toList = []) (h2 : (n == 0) = false) (h3 : (n == 1) = false) : Calls Tryd.prog 20 #[.agg #[.int .i64 2, .int .i64 a, .int .i64 b, .int .i64 c, .int .i64 n, .string S]] w fun e w' => e = .returned (.bool false) /\ Below w.heap.size w w' := by
  go_enter Tryd.func20, Tryd.ntmps20
  go_wp2
  go_ret
  exact ⟨by first | rfl | exact ka1 (by simp <;> omega), (Below.refl _ _).alloc (Nat.le_refl _) _⟩
theorem plain_2_0a (a b c n : Int) (S : ByteArray) (w : World) (hs : ¬ S.toList = []) (h2 : (n == 0) = true) : Calls Tryd.prog 20 #[.agg #[.int .i64 2, .int .i64 a, .int .i64 b, .int .i64 c, .int .i64 n, .string S]] w fun e w' => e = .returned (.bool false) /\ Below w.heap.size w w' := by
  have hs' : (!S.toList.isEmpty) = true := by simp [hs]
  go_enter Tryd.func20, Tryd.ntmps20
  go_wp2
  go_ret
  exact ⟨by first | rfl | exact ka1 (by simp <;> omega), (Below.refl _ _).alloc (Nat.le_refl _) _⟩
theorem plain_2_0b (a b c n : Int) (S : ByteArray) (w : World) (hs : ¬ S.toList = []) (h2 : (n == 0) = false) (h3 : (n == 1) = true) : Calls Tryd.prog 20 #[.agg #[.int .i64 2, .int .i64 a, .int .i64 b, .int .i64 c, .int .i64 n, .string S]] w fun e w' => e = .returned (.bool false) /\ Below w.heap.size w w' := by
  have hs' : (!S.toList.isEmpty) = true := by simp [hs]
  go_enter Tryd.func20, Tryd.ntmps20
  go_wp2
  go_ret
  exact ⟨by first | rfl | exact ka1 (by simp <;> omega), (Below.refl _ _).alloc (Nat.le_refl _) _⟩
theorem plain_2_0c (a b c n : Int) (S : ByteArray) (w : World) (hs : ¬ S.toList = []) (h2 : (n == 0) = false) (h3 : (n == 1) = false) : Calls Tryd.prog 20 #[.agg #[.int .i64 2, .int .i64 a, .int .i64 b, .int .i64 c, .int .i64 n, .string S]] w fun e w' => e = .returned (.bool false) /\ Below w.heap.size w w' := by
  have hs' : (!S.toList.isEmpty) = true := by simp [hs]
  go_enter Tryd.func20, Tryd.ntmps20
  go_wp2
  go_ret
  exact ⟨by first | rfl | exact ka1 (by simp <;> omega), (Below.refl _ _).alloc (Nat.le_refl _) _⟩
theorem kgW (a b c n : Int) (S : ByteArray) (w : World) (hs : S.toList = []) (h2 : 0 <= n) (h3 : n <= 1000) : Calls Tryd.prog 20 #[.agg #[.int .i64 25, .int .i64 a, .int .i64 b, .int .i64 c, .int .i64 n, .string S]] w fun e w' => e = .returned (.bool true) /\ Below w.heap.size w w' := by
  go_enter Tryd.func20, Tryd.ntmps20
  go_wp2
  go_ret
  exact ⟨by first | rfl | exact ka1 (by simp <;> omega), (Below.refl _ _).alloc (Nat.le_refl _) _⟩
theorem kgX (a b c n : Int) (S : ByteArray) (w : World) (hs : S.toList = []) (h2 : 0 <= n) (h3 : 1000 < n) : Calls Tryd.prog 20 #[.agg #[.int .i64 25, .int .i64 a, .int .i64 b, .int .i64 c, .int .i64 n, .string S]] w fun e w' => e = .returned (.bool false) /\ Below w.heap.size w w' := by
  go_enter Tryd.func20, Tryd.ntmps20
  go_wp2
  go_ret
  exact ⟨by first | rfl | exact ka1 (by simp <;> omega), (Below.refl _ _).alloc (Nat.le_refl _) _⟩
theorem kgY (a b c n : Int) (S : ByteArray) (w : World) (hs : S.toList = []) (h2 : n < 0) (h3 : n <= 1000) : Calls Tryd.prog 20 #[.agg #[.int .i64 25, .int .i64 a, .int .i64 b, .int .i64 c, .int .i64 n, .string S]] w fun e w' => e = .returned (.bool false) /\ Below w.heap.size w w' := by
  go_enter Tryd.func20, Tryd.ntmps20
  go_wp2
  go_ret
  exact ⟨by first | rfl | exact ka1 (by simp <;> omega), (Below.refl _ _).alloc (Nat.le_refl _) _⟩
theorem kgZ (a b c n : Int) (S : ByteArray) (w : World) (hs : ¬ S.toList = []) (h2 : 0 <= n) (h3 : n <= 1000) : Calls Tryd.prog 20 #[.agg #[.int .i64 25, .int .i64 a, .int .i64 b, .int .i64 c, .int .i64 n, .string S]] w fun e w' => e = .returned (.bool false) /\ Below w.heap.size w w' := by
  have hs' : (!S.toList.isEmpty) = true := by simp [hs]
  go_enter Tryd.func20, Tryd.ntmps20
  go_wp2
  go_ret
  exact ⟨by first | rfl | exact ka1 (by simp <;> omega), (Below.refl _ _).alloc (Nat.le_refl _) _⟩
theorem kh0 (a b c n : Int) (S : ByteArray) (w : World) (hs : ¬ S.toList = []) (h2 : 0 <= n) (h3 : 1000 < n) : Calls Tryd.prog 20 #[.agg #[.int .i64 25, .int .i64 a, .int .i64 b, .int .i64 c, .int .i64 n, .string S]] w fun e w' => e = .returned (.bool false) /\ Below w.heap.size w w' := by
  have hs' : (!S.toList.isEmpty) = true := by simp [hs]
  go_enter Tryd.func20, Tryd.ntmps20
  go_wp2
  go_ret
  exact ⟨by first | rfl | exact ka1 (by simp <;> omega), (Below.refl _ _).alloc (Nat.le_refl _) _⟩
theorem kh1 (a b c n : Int) (S : ByteArray) (w : World) (hs : ¬ S.toList = []) (h2 : n < 0) (h3 : n <= 1000) : Calls Tryd.prog 20 #[.agg #[.int .i64 25, .int .i64 a, .int .i64 b, .int .i64 c, .int .i64 n, .string S]] w fun e w' => e = .returned (.bool false) /\ Below w.heap.size w w' := by
  have hs' : (!S.toList.isEmpty) = true := by simp [hs]
  go_enter Tryd.func20, Tryd.ntmps20
  go_wp2
  go_ret
  exact ⟨by first | rfl | exact ka1 (by simp <;> omega), (Below.refl _ _).alloc (Nat.le_refl _) _⟩
theorem plain_3_1a (a b c n : Int) (S : ByteArray) (w : World) (hs : S.toList = []) (h2 : (n == 0) = true) : Calls Tryd.prog 20 #[.agg #[.int .i64 3, .int .i64 a, .int .i64 b, .int .i64 c, .int .i64 n, .string S]] w fun e w' => e = .returned (.bool false) /\ Below w.heap.size w w' := by
  go_enter Tryd.func20, Tryd.ntmps20
  go_wp2
  go_ret
  exact ⟨by first | rfl | exact ka1 (by simp <;> omega), (Below.refl _ _).alloc (Nat.le_refl _) _⟩
theorem plain_3_1b (a b c n : Int) (S : ByteArray) (w : World) (hs : S.toList = []) (h2 : (n == 0) = false) : Calls Tryd.prog 20 #[.agg #[.int .i64 3, .int .i64 a, .int .i64 b, .int .i64 c, .int .i64 n, .string S]] w fun e w' => e = .returned (.bool false) /\ Below w.heap.size w w' := by
  go_enter Tryd.func20, Tryd.ntmps20
  go_wp2
  go_ret
  exact ⟨by first | rfl | exact ka1 (by simp <;> omega), (Below.refl _ _).alloc (Nat.le_refl _) _⟩
theorem plain_3_0a (a b c n : Int) (S : ByteArray) (w : World) (hs : ¬ S.toList = []) (h2 : (n == 0) = true) : Calls Tryd.prog 20 #[.agg #[.int .i64 3, .int .i64 a, .int .i64 b, .int .i64 c, .int .i64 n, .string S]] w fun e w' => e = .returned (.bool true) /\ Below w.heap.size w w' := by
  have hs' : (!S.toList.isEmpty) = true := by simp [hs]
  go_enter Tryd.func20, Tryd.ntmps20
  go_wp2
  go_ret
  exact ⟨by first | rfl | exact ka1 (by simp <;> omega), (Below.refl _ _).alloc (Nat.le_refl _) _⟩
theorem plain_3_0b (a b c n : Int) (S : ByteArray) (w : World) (hs : ¬ S.toList = []) (h2 : (n == 0) = false) : Calls Tryd.prog 20 #[.agg #[.int .i64 3, .int .i64 a, .int .i64 b, .int .i64 c, .int .i64 n, .string S]] w fun e w' => e = .returned (.bool false) /\ Below w.heap.size w w' := by
  have hs' : (!S.toList.isEmpty) = true := by simp [hs]
  go_enter Tryd.func20, Tryd.ntmps20
  go_wp2
  go_ret
  exact ⟨by first | rfl | exact ka1 (by simp <;> omega), (Below.refl _ _).alloc (Nat.le_refl _) _⟩
theorem ki7 (a b c n : Int) (S : ByteArray) (w : World) (hs : S.toList = []) (h2 : (n == 0) = true) : Calls Tryd.prog 20 #[.agg #[.int .i64 27, .int .i64 a, .int .i64 b, .int .i64 c, .int .i64 n, .string S]] w fun e w' => e = .returned (.bool false) /\ Below w.heap.size w w' := by
  go_enter Tryd.func20, Tryd.ntmps20
  go_wp2
  go_ret
  exact ⟨by first | rfl | exact ka1 (by simp <;> omega), (Below.refl _ _).alloc (Nat.le_refl _) _⟩
theorem ki6 (a b c n : Int) (S : ByteArray) (w : World) (hs : S.toList = []) (h2 : (n == 0) = false) : Calls Tryd.prog 20 #[.agg #[.int .i64 27, .int .i64 a, .int .i64 b, .int .i64 c, .int .i64 n, .string S]] w fun e w' => e = .returned (.bool false) /\ Below w.heap.size w w' := by
  go_enter Tryd.func20, Tryd.ntmps20
  go_wp2
  go_ret
  exact ⟨by first | rfl | exact ka1 (by simp <;> omega), (Below.refl _ _).alloc (Nat.le_refl _) _⟩
theorem ki9 (a b c n : Int) (S : ByteArray) (w : World) (hs : ¬ S.toList = []) (h2 : (n == 0) = true) : Calls Tryd.prog 20 #[.agg #[.int .i64 27, .int .i64 a, .int .i64 b, .int .i64 c, .int .i64 n, .string S]] w fun e w' => e = .returned (.bool true) /\ Below w.heap.size w w' := by
  have hs' : (!S.toList.isEmpty) = true := by simp [hs]
  go_enter Tryd.func20, Tryd.ntmps20
  go_wp2
  go_ret
  exact ⟨by first | rfl | exact ka1 (by simp <;> omega), (Below.refl _ _).alloc (Nat.le_refl _) _⟩
theorem ki8 (a b c n : Int) (S : ByteArray) (w : World) (hs : ¬ S.toList = []) (h2 : (n == 0) = false) : Calls Tryd.prog 20 #[.agg #[.int .i64 27, .int .i64 a, .int .i64 b, .int .i64 c, .int .i64 n, .string S]] w fun e w' => e = .returned (.bool false) /\ Below w.heap.size w w' := by
  have hs' : (!S.toList.isEmpty) = true := by simp [hs]
  go_enter Tryd.func20, Tryd.ntmps20
  go_wp2
  go_ret
  exact ⟨by first | rfl | exact ka1 (by simp <;> omega), (Below.refl _ _).alloc (Nat.le_refl _) _⟩
theorem plain_o_1a (o a b c n : Int) (S : ByteArray) (w : World) (hs : S.toList = []) (h2 : (n == 0) = true) (g1 : (o == 1) = false) (g2 : (o == 2) = false) (g25 : (o == 25) = false) (g3 : (o == 3) = false) (g27 : (o == 27) = false) : Calls Tryd.prog 20 #[.agg #[.int .i64 o, .int .i64 a, .int .i64 b, .int .i64 c, .int .i64 n, .string S]] w fun e w' => e = .returned (.bool true) /\ Below w.heap.size w w' := by
  go_enter Tryd.func20, Tryd.ntmps20
  go_wp2
  go_ret
  exact ⟨by first | rfl | exact ka1 (by simp <;> omega), (Below.refl _ _).alloc (Nat.le_refl _) _⟩
theorem kk1 (o a b c n : Int) (S : ByteArray) (w : World) (hs : S.toList = []) (h2 : (n == 0) = false) (g1 : (o == 1) = false) (g2 : (o == 2) = false) (g25 : (o == 25) = false) (g3 : (o == 3) = false) (g27 : (o == 27) = false) : Calls Tryd.prog 20 #[.agg #[.int .i64 o, .int .i64 a, .int .i64 b, .int .i64 c, .int .i64 n, .string S]] w fun e w' => e = .returned (.bool false) /\ Below w.heap.size w w' := by
  go_enter Tryd.func20, Tryd.ntmps20
  go_wp2
  go_ret
  exact ⟨by first | rfl | exact ka1 (by simp <;> omega), (Below.refl _ _).alloc (Nat.le_refl _) _⟩
theorem plain_o_0a (o a b c n : Int) (S : ByteArray) (w : World) (hs : ¬ S.toList = []) (h2 : (n == 0) = true) (g1 : (o == 1) = false) (g2 : (o == 2) = false) (g25 : (o == 25) = false) (g3 : (o == 3) = false) (g27 : (o == 27) = false) : Calls Tryd.prog 20 #[.agg #[.int .i64 o, .int .i64 a, .int .i64 b, .int .i64 c, .int .i64 n, .string S]] w fun e w' => e = .returned (.bool false) /\ Below w.heap.size w w' := by
  have hs' : (!S.toList.isEmpty) = true := by simp [hs]
  go_enter Tryd.func20, Tryd.ntmps20
  go_wp2
  go_ret
  exact ⟨by first | rfl | exact ka1 (by simp <;> omega), (Below.refl _ _).alloc (Nat.le_refl _) _⟩
theorem plain_o_0b (o a b c n : Int) (S : ByteArray) (w : World) (hs : ¬ S.toList = []) (h2 : (n == 0) = false) (g1 : (o == 1) = false) (g2 : (o == 2) = false) (g25 : (o == 25) = false) (g3 : (o == 3) = false) (g27 : (o == 27) = false) : Calls Tryd.prog 20 #[.agg #[.int .i64 o, .int .i64 a, .int .i64 b, .int .i64 c, .int .i64 n, .string S]] w fun e w' => e = .returned (.bool false) /\ Below w.heap.size w w' := by
  have hs' : (!S.toList.isEmpty) = true := by simp [hs]
  go_enter Tryd.func20, Tryd.ntmps20
  go_wp2
  go_ret
  exact ⟨rfl, (Below.refl _ _).alloc (Nat.le_refl _) _⟩
set_option maxHeartbeats 1600000 in
theorem plain_any (x : Nd) (w : World) : Calls Tryd.prog 20 #[.agg #[.int .i64 x.op, .int .i64 x.a, .int .i64 x.b, .int .i64 x.c, .int .i64 x.n, .string (str x.name)]] w
    fun e w' => e = .returned (.bool (kao x.lab)) /\ Below w.heap.size w w' := by
  obtain ⟨o, a, b, c, n, s⟩ := x
  show Calls Tryd.prog 20 #[.agg #[.int .i64 o, .int .i64 a, .int .i64 b, .int .i64 c, .int .i64 n, .string (str s)]] w fun e w' => e = .returned (.bool (kao ⟨o, n, s⟩)) /\ Below w.heap.size w w'
  by_cases hs : s = []
  · have hS : (str s).toList = [] := by rw [str_toList]; exact hs
    by_cases q1 : o = 1
    · subst q1
      by_cases h2 : 0 <= n
      · by_cases h3 : n <= 2147483647
        · have h := kia a b c n (str s) w hS h2 h3; refine h.mono fun e w' ⟨h1, h2⟩ => ⟨h1.trans (ka1 ?_), h2⟩; simp [hs, kao] <;> (try intros) <;> omega
        · have h := kib a b c n (str s) w hS h2 (by omega); refine h.mono fun e w' ⟨h1, h2⟩ => ⟨h1.trans (ka1 ?_), h2⟩; simp [hs, kao] <;> (try intros) <;> omega
      · have h := kic a b c n (str s) w hS (by omega) (by omega); refine h.mono fun e w' ⟨h1, h2⟩ => ⟨h1.trans (ka1 ?_), h2⟩; simp [hs, kao] <;> (try intros) <;> omega
    by_cases q2 : o = 2
    · subst q2
      by_cases h2 : n = 0
      · have h := plain_2_1a a b c n (str s) w hS (by simp [h2]); refine h.mono fun e w' ⟨h1, h2⟩ => ⟨h1.trans (ka1 ?_), h2⟩; simp [hs, kao] <;> (try intros) <;> omega
      by_cases h3 : n = 1
      · have h := plain_2_1b a b c n (str s) w hS (by simp [h2]) (by simp [h3]); refine h.mono fun e w' ⟨h1, h2⟩ => ⟨h1.trans (ka1 ?_), h2⟩; simp [hs, kao] <;> (try intros) <;> omega
      · have h := plain_2_1c a b c n (str s) w hS (by simp [h2]) (by simp [h3]); refine h.mono fun e w' ⟨h1, h2⟩ => ⟨h1.trans (ka1 ?_), h2⟩; simp [hs, kao] <;> (try intros) <;> omega
    by_cases q25 : o = 25
    · subst q25
      by_cases h2 : 0 <= n
      · by_cases h3 : n <= 1000
        · have h := kgW a b c n (str s) w hS h2 h3; refine h.mono fun e w' ⟨h1, h2⟩ => ⟨h1.trans (ka1 ?_), h2⟩; simp [hs, kao] <;> (try intros) <;> omega
        · have h := kgX a b c n (str s) w hS h2 (by omega); refine h.mono fun e w' ⟨h1, h2⟩ => ⟨h1.trans (ka1 ?_), h2⟩; simp [hs, kao] <;> (try intros) <;> omega
      · have h := kgY a b c n (str s) w hS (by omega) (by omega); refine h.mono fun e w' ⟨h1, h2⟩ => ⟨h1.trans (ka1 ?_), h2⟩; simp [hs, kao] <;> (try intros) <;> omega
    by_cases q3 : o = 3
    · subst q3
      by_cases h2 : n = 0
      · have h := plain_3_1a a b c n (str s) w hS (by simp [h2]); refine h.mono fun e w' ⟨h1, h2⟩ => ⟨h1.trans (ka1 ?_), h2⟩; simp [hs, kao] <;> (try intros) <;> omega
      · have h := plain_3_1b a b c n (str s) w hS (by simp [h2]); refine h.mono fun e w' ⟨h1, h2⟩ => ⟨h1.trans (ka1 ?_), h2⟩; simp [hs, kao] <;> (try intros) <;> omega
    by_cases q27 : o = 27
    · subst q27
      by_cases h2 : n = 0
      · have h := ki7 a b c n (str s) w hS (by simp [h2]); refine h.mono fun e w' ⟨h1, h2⟩ => ⟨h1.trans (ka1 ?_), h2⟩; simp [hs, kao] <;> (try intros) <;> omega
      · have h := ki6 a b c n (str s) w hS (by simp [h2]); refine h.mono fun e w' ⟨h1, h2⟩ => ⟨h1.trans (ka1 ?_), h2⟩; simp [hs, kao] <;> (try intros) <;> omega
    by_cases h2 : n = 0
    · have h := plain_o_1a o a b c n (str s) w hS (by simp [h2]) (by simp [q1]) (by simp [q2]) (by simp [q25]) (by simp [q3]) (by simp [q27]); refine h.mono fun e w' ⟨h1, h2⟩ => ⟨h1.trans (ka1 ?_), h2⟩; have eo : (o == 3 || o == 27) = false := (by simp [q3, q27]); simp [hs, kao, eo, q1, q2, q25, q3, q27, keI s] <;> (try intros) <;> omega
    · have h := kk1 o a b c n (str s) w hS (by simp [h2]) (by simp [q1]) (by simp [q2]) (by simp [q25]) (by simp [q3]) (by simp [q27]); refine h.mono fun e w' ⟨h1, h2⟩ => ⟨h1.trans (ka1 ?_), h2⟩; have eo : (o == 3 || o == 27) = false := (by simp [q3, q27]); simp [hs, kao, eo, q1, q2, q25, q3, q27, keI s] <;> (try intros) <;> omega
  · have hS : ¬ (str s).toList = [] := by rw [str_toList]; exact hs
    by_cases q1 : o = 1
    · subst q1
      by_cases h2 : 0 <= n
      · by_cases h3 : n <= 2147483647
        · have h := kie a b c n (str s) w hS h2 h3; refine h.mono fun e w' ⟨h1, h2⟩ => ⟨h1.trans (ka1 ?_), h2⟩; simp [hs, kao] <;> (try intros) <;> omega
        · have h := kif a b c n (str s) w hS h2 (by omega); refine h.mono fun e w' ⟨h1, h2⟩ => ⟨h1.trans (ka1 ?_), h2⟩; simp [hs, kao] <;> (try intros) <;> omega
      · have h := kig a b c n (str s) w hS (by omega) (by omega); refine h.mono fun e w' ⟨h1, h2⟩ => ⟨h1.trans (ka1 ?_), h2⟩; simp [hs, kao] <;> (try intros) <;> omega
    by_cases q2 : o = 2
    · subst q2
      by_cases h2 : n = 0
      · have h := plain_2_0a a b c n (str s) w hS (by simp [h2]); refine h.mono fun e w' ⟨h1, h2⟩ => ⟨h1.trans (ka1 ?_), h2⟩; simp [hs, kao] <;> (try intros) <;> omega
      by_cases h3 : n = 1
      · have h := plain_2_0b a b c n (str s) w hS (by simp [h2]) (by simp [h3]); refine h.mono fun e w' ⟨h1, h2⟩ => ⟨h1.trans (ka1 ?_), h2⟩; simp [hs, kao] <;> (try intros) <;> omega
      · have h := plain_2_0c a b c n (str s) w hS (by simp [h2]) (by simp [h3]); refine h.mono fun e w' ⟨h1, h2⟩ => ⟨h1.trans (ka1 ?_), h2⟩; simp [hs, kao] <;> (try intros) <;> omega
    by_cases q25 : o = 25
    · subst q25
      by_cases h2 : 0 <= n
      · by_cases h3 : n <= 1000
        · have h := kgZ a b c n (str s) w hS h2 h3; refine h.mono fun e w' ⟨h1, h2⟩ => ⟨h1.trans (ka1 ?_), h2⟩; simp [hs, kao] <;> (try intros) <;> omega
        · have h := kh0 a b c n (str s) w hS h2 (by omega); refine h.mono fun e w' ⟨h1, h2⟩ => ⟨h1.trans (ka1 ?_), h2⟩; simp [hs, kao] <;> (try intros) <;> omega
      · have h := kh1 a b c n (str s) w hS (by omega) (by omega); refine h.mono fun e w' ⟨h1, h2⟩ => ⟨h1.trans (ka1 ?_), h2⟩; simp [hs, kao] <;> (try intros) <;> omega
    by_cases q3 : o = 3
    · subst q3
      by_cases h2 : n = 0
      · have h := plain_3_0a a b c n (str s) w hS (by simp [h2]); refine h.mono fun e w' ⟨h1, h2⟩ => ⟨h1.trans (ka1 ?_), h2⟩; simp [hs, kao] <;> (try intros) <;> omega
      · have h := plain_3_0b a b c n (str s) w hS (by simp [h2]); refine h.mono fun e w' ⟨h1, h2⟩ => ⟨h1.trans (ka1 ?_), h2⟩; simp [hs, kao] <;> (try intros) <;> omega
    by_cases q27 : o = 27
    · subst q27
      by_cases h2 : n = 0
      · have h := ki9 a b c n (str s) w hS (by simp [h2]); refine h.mono fun e w' ⟨h1, h2⟩ => ⟨h1.trans (ka1 ?_), h2⟩; simp [hs, kao] <;> (try intros) <;> omega
      · have h := ki8 a b c n (str s) w hS (by simp [h2]); refine h.mono fun e w' ⟨h1, h2⟩ => ⟨h1.trans (ka1 ?_), h2⟩; simp [hs, kao] <;> (try intros) <;> omega
    by_cases h2 : n = 0
    · have h := plain_o_0a o a b c n (str s) w hS (by simp [h2]) (by simp [q1]) (by simp [q2]) (by simp [q25]) (by simp [q3]) (by simp [q27]); refine h.mono fun e w' ⟨h1, h2⟩ => ⟨h1.trans (ka1 ?_), h2⟩; have eo : (o == 3 || o == 27) = false := (by simp [q3, q27]); simp [hs, kao, eo, q1, q2, q25, q3, q27, keI s] <;> (try intros) <;> omega
    · have h := plain_o_0b o a b c n (str s) w hS (by simp [h2]) (by simp [q1]) (by simp [q2]) (by simp [q25]) (by simp [q3]) (by simp [q27]); refine h.mono fun e w' ⟨h1, h2⟩ => ⟨h1.trans (ka1 ?_), h2⟩; have eo : (o == 3 || o == 27) = false := (by simp [q3, q27]); simp [hs, kao, eo, q1, q2, q25, q3, q27, keI s] <;> (try intros) <;> omega
end Go.Proofs.YtlhcajhgbkgjbaaDoor.Tr
namespace Go.Proofs.YtlhcajhgbkgjbaaDoor.Tr
open Go.ChangeShapes Go.WideShapes Go.ChangeAt Go.RowKit
def kfg (m : Nat) (a b c : Int) : Bool := (decide (0 < m) || a == -1) && (decide (1 < m) || b == -1) && (decide (2 < m) || c == -1)
def kdp (x : Nd) : Bool := if x.op = 27 then x.b == -1 && x.c == -1 else if x.op = 28 then x.c == -1 else kfg (ka6 x).length x.a x.b x.c
theorem keb (x : Nd) : kdp x = true ↔ x = mkL x.lab (ka6 x) := by
  obtain ⟨o, a, b, c, n, s⟩ := x
  unfold kdp kfg
  by_cases hu : kab o = true
  · have h27 : o ≠ 27 := by rintro rfl; simp [kab] at hu
    have h28 : o ≠ 28 := by rintro rfl; simp [kab] at hu
    simp [ka6, hu, mkL, Nd.lab, h27, h28]
  by_cases h26 : o = 26
  · subst h26; simp [ka6, kab, mkL, Nd.lab]
  by_cases h27 : o = 27
  · subst h27
    by_cases ha : a = -1 <;> simp [ka6, kab, mkL, Nd.lab, kaD, ha]
  by_cases h28 : o = 28
  · subst h28
    by_cases hb : b = -1 <;> simp [ka6, kab, mkL, Nd.lab, kaD, hb]
  by_cases hb : ka8 o = true
  · simp [ka6, hu, hb, mkL, Nd.lab, h26, h27, h28]
  · simp [ka6, hu, hb, mkL, Nd.lab, h26, h27, h28, and_assoc]
set_option maxHeartbeats 3200000 in
theorem bare_any (x : Nd) (w : World) : Calls Tryd.prog 19 #[.agg #[.int .i64 x.op, .int .i64 x.a, .int .i64 x.b, .int .i64 x.c, .int .i64 x.n, .string (str x.name)]] w fun r w' => r = .returned (.bool (kdp x)) /\ Below w.heap.size w w' := by
  obtain ⟨L, hL⟩ : ∃ L, ka6 x = L := ⟨_, rfl⟩
  have HL := Lib.hid hL
  obtain ⟨R, hR⟩ : ∃ R, kdp x = R := ⟨_, rfl⟩
  have HR := Lib.hid hR
  rw [hR]
  have hl3 : L.length <= 3 := by rw [<- hL]; exact kaA x
  clear hR hL
  go_enter Tryd.func19, Tryd.ntmps19
  go_wp2_with fail
  refine (kcx x _).mono ?_
  rintro r w2 ⟨kv, rfl, hok, hb2⟩
  rw [HL.out] at hok
  obtain ⟨A2, c2, rfl, y1, y2, hA2⟩ := Ints.of_own hok
  have hz2 := hb2.size
  simp at hz2
  have HB2 := Lib.hid (((Below.refl _ _).alloc (Nat.le_refl _) _).trans (hb2.mono (B' := w.heap.size) (by simp)))
  have e0 : w2.cell? ⟨w.heap.size, 0, none⟩ = some (.int .i64 x.op) := (hb2.cell (by simp)).trans (by simp [World.cell?_alloc_at])
  have e1 : w2.cell? ⟨w.heap.size, 1, none⟩ = some (.int .i64 x.a) := (hb2.cell (by simp)).trans (by simp [World.cell?_alloc_at])
  have e2 : w2.cell? ⟨w.heap.size, 2, none⟩ = some (.int .i64 x.b) := (hb2.cell (by simp)).trans (by simp [World.cell?_alloc_at])
  have e3 : w2.cell? ⟨w.heap.size, 3, none⟩ = some (.int .i64 x.c) := (hb2.cell (by simp)).trans (by simp [World.cell?_alloc_at])
  have e4 : w2.cell? ⟨w.heap.size, 4, none⟩ = some (.int .i64 x.n) := (hb2.cell (by simp)).trans (by simp [World.cell?_alloc_at])
  have e5 : w2.cell? ⟨w.heap.size, 5, none⟩ = some (.string (str x.name)) := (hb2.cell (by simp)).trans (by simp [World.cell?_alloc_at])
  clear hok hA2 hb2
  unfold maxLen at y2
  rcases Bool.eq_false_or_eq_true (x.op == 27) with h27 | h27
  · have hx : x.op = 27 := by simpa using h27
    have HX := Lib.hid hx
    clear hx
    rcases Bool.eq_false_or_eq_true (x.b == -1) with hb | hb <;> rcases Bool.eq_false_or_eq_true (x.c == -1) with hc | hc
    all_goals
      go_wp2
      go_ret
      exact ⟨ka1 (by rw [<- HR.out]; unfold kdp; rw [if_pos HX.out]; simp [hb, hc]), HB2.out⟩
  rcases Bool.eq_false_or_eq_true (x.op == 28) with h28 | h28
  · have hx : x.op = 28 := by simpa using h28
    have HX := Lib.hid hx
    clear hx
    rcases Bool.eq_false_or_eq_true (x.c == -1) with hc | hc
    all_goals
      go_wp2
      go_ret
      exact ⟨ka1 (by rw [<- HR.out]; unfold kdp; rw [if_neg (by simpa using h27), if_pos HX.out]; simp [hc]), HB2.out⟩
  have HR2 := Lib.hid (show R = kfg L.length x.a x.b x.c by
    rw [<- HR.out, <- HL.out]; unfold kdp; rw [if_neg (by simpa using h27), if_neg (by simpa using h28)])
  obtain ⟨m, hm⟩ : ∃ m, L.length = m := ⟨_, rfl⟩
  rw [hm] at HR2 y1 hl3 ⊢
  clear hm
  have hmm : m = 0 ∨ m = 1 ∨ m = 2 ∨ m = 3 := by omega
  rcases hmm with rfl | rfl | rfl | rfl
  · rcases Bool.eq_false_or_eq_true (x.a == -1) with ha | ha <;> rcases Bool.eq_false_or_eq_true (x.b == -1) with hb | hb <;> rcases Bool.eq_false_or_eq_true (x.c == -1) with hc | hc
    all_goals
      go_wp2
      go_ret
      exact ⟨ka1 (by rw [HR2.out]; simp [kfg, ha, hb, hc]), HB2.out⟩
  · rcases Bool.eq_false_or_eq_true (x.b == -1) with hb | hb <;> rcases Bool.eq_false_or_eq_true (x.c == -1) with hc | hc
    all_goals
      go_wp2
      go_ret
      exact ⟨ka1 (by rw [HR2.out]; simp [kfg, hb, hc]), HB2.out⟩
  · rcases Bool.eq_false_or_eq_true (x.c == -1) with hc | hc
    all_goals
      go_wp2
      go_ret
      exact ⟨ka1 (by rw [HR2.out]; simp [kfg, hc]), HB2.out⟩
  · go_wp2
    go_ret
    exact ⟨ka1 (by rw [HR2.out]; simp [kfg]), HB2.out⟩
end Go.Proofs.YtlhcajhgbkgjbaaDoor.Tr

