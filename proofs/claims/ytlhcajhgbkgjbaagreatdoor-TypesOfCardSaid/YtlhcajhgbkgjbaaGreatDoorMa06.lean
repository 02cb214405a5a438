/- The function plain of the document's answer tells whether a node's number and name may be. Conditions: none. -/
import Derived.Test.YtlhcajhgbkgjbaaGreatDoorMa02
set_option linter.unusedVariables false
set_option linter.unusedSimpArgs false
namespace Go.Proofs.YtlhcajhgbkgjbaaGreatDoor.Tr
open Go.ChangeShapes Go.WideShapes Go.ChangeAt Go.RowKit
theorem keU (s : Bytes) : (s != []) = !decide (s = []) := by cases s <;> simp
def kao (x : Lab) : Bool :=
 ((x.name != []) == (x.op == 3 || x.op == 27)) && decide (0 <= x.n) && decide (x.n <= if x.op = 1 then 2147483647 else if x.op = 2 then 1 else if x.op = 25 then 1000 else 0)
theorem kih (a b c n : Int) (S : ByteArray) (w : World) (hs : S.toList = []) (h2 : 0 <= n) (h3 : n <= 2147483647) : Calls Tryz.prog 36 #[.agg #[.int .i64 1, .int .i64 a, .int .i64 b, .int .i64 c, .int .i64 n, .string S]] w fun e w' => e = .returned (.bool true) /\ Below w.heap.size w w' := by
 go_enter Tryz.func36, Tryz.ntmps36
 go_wp2
 go_ret
 exact ⟨by first | rfl | exact ka1 (by simp <;> omega), (Below.refl _ _).alloc (Nat.le_refl _) _⟩
theorem kii (a b c n : Int) (S : ByteArray) (w : World) (hs : S.toList = []) (h2 : 0 <= n) (h3 : 2147483647 < n) : Calls Tryz.prog 36 #[.agg #[.int .i64 1, .int .i64 a, .int .i64 b, .int .i64 c, .int .i64 n, .string S]] w fun e w' => e = .returned (.bool false) /\ Below w.heap.size w w' := by
 go_enter Tryz.func36, Tryz.ntmps36
 go_wp2
 go_ret
 exact ⟨by first | rfl | exact ka1 (by simp <;> omega), (Below.refl _ _).alloc (Nat.le_refl _) _⟩
theorem kij (a b c n : Int) (S : ByteArray) (w : World) (hs : S.toList = []) (h2 : n < 0) (h3 : n <= 2147483647) : Calls Tryz.prog 36 #[.agg #[.int .i64 1, .int .i64 a, .int .i64 b, .int .i64 c, .int .i64 n, .string S]] w fun e w' => e = .returned (.bool false) /\ Below w.heap.size w w' := by
 go_enter Tryz.func36, Tryz.ntmps36
 go_wp2
 go_ret
 exact ⟨by first | rfl | exact ka1 (by simp <;> omega), (Below.refl _ _).alloc (Nat.le_refl _) _⟩
theorem kik (a b c n : Int) (S : ByteArray) (w : World) (hs : ¬ S.toList = []) (h2 : 0 <= n) (h3 : n <= 2147483647) : Calls Tryz.prog 36 #[.agg #[.int .i64 1, .int .i64 a, .int .i64 b, .int .i64 c, .int .i64 n, .string S]] w fun e w' => e = .returned (.bool false) /\ Below w.heap.size w w' := by
 have hs' : (!S.toList.isEmpty) = true := by simp [hs]
 go_enter Tryz.func36, Tryz.ntmps36
 go_wp2
 go_ret
 exact ⟨by first | rfl | exact ka1 (by simp <;> omega), (Below.refl _ _).alloc (Nat.le_refl _) _⟩
theorem kil (a b c n : Int) (S : ByteArray) (w : World) (hs : ¬ S.toList = []) (h2 : 0 <= n) (h3 : 2147483647 < n) : Calls Tryz.prog 36 #[.agg #[.int .i64 1, .int .i64 a, .int .i64 b, .int .i64 c, .int .i64 n, .string S]] w fun e w' => e = .returned (.bool false) /\ Below w.heap.size w w' := by
 have hs' : (!S.toList.isEmpty) = true := by simp [hs]
 go_enter Tryz.func36, Tryz.ntmps36
 go_wp2
 go_ret
 exact ⟨by first | rfl | exact ka1 (by simp <;> omega), (Below.refl _ _).alloc (Nat.le_refl _) _⟩
theorem kim (a b c n : Int) (S : ByteArray) (w : World) (hs : ¬ S.toList = []) (h2 : n < 0) (h3 : n <= 2147483647) : Calls Tryz.prog 36 #[.agg #[.int .i64 1, .int .i64 a, .int .i64 b, .int .i64 c, .int .i64 n, .string S]] w fun e w' => e = .returned (.bool false) /\ Below w.heap.size w w' := by
 have hs' : (!S.toList.isEmpty) = true := by simp [hs]
 go_enter Tryz.func36, Tryz.ntmps36
 go_wp2
 go_ret
 exact ⟨by first | rfl | exact ka1 (by simp <;> omega), (Below.refl _ _).alloc (Nat.le_refl _) _⟩
theorem kk4 (a b c n : Int) (S : ByteArray) (w : World) (hs : S.toList = []) (h2 : (n == 0) = true) : Calls Tryz.prog 36 #[.agg #[.int .i64 2, .int .i64 a, .int .i64 b, .int .i64 c, .int .i64 n, .string S]] w fun e w' => e = .returned (.bool true) /\ Below w.heap.size w w' := by
 go_enter Tryz.func36, Tryz.ntmps36
 go_wp2
 go_ret
 exact ⟨by first | rfl | exact ka1 (by simp <;> omega), (Below.refl _ _).alloc (Nat.le_refl _) _⟩
theorem kk3 (a b c n : Int) (S : ByteArray) (w : World) (hs : S.toList = []) (h2 : (n == 0) = false) (h3 : (n == 1) = true) : Calls Tryz.prog 36 #[.agg #[.int .i64 2, .int .i64 a, .int .i64 b, .int .i64 c, .int .i64 n, .string S]] w fun e w' => e = .returned (.bool true) /\ Below w.heap.size w w' := by
 go_enter Tryz.func36, Tryz.ntmps36
 go_wp2
 go_ret
 exact ⟨by first | rfl | exact ka1 (by simp <;> omega), (Below.refl _ _).alloc (Nat.le_refl _) _⟩
theorem kk2 (a b c n : Int) (S : ByteArray) (w : World) (hs : S.toList = []) (h2 : (n == 0) = false) (h3 : (n == 1) = false) : Calls Tryz.prog 36 #[.agg #[.int .i64 2, .int .i64 a, .int .i64 b, .int .i64 c, .int .i64 n, .string S]] w fun e w' => e = .returned (.bool false) /\ Below w.heap.size w w' := by
 go_enter Tryz.func36, Tryz.ntmps36
 go_wp2
 go_ret
 exact ⟨by first | rfl | exact ka1 (by simp <;> omega), (Below.refl _ _).alloc (Nat.le_refl _) _⟩
theorem kk7 (a b c n : Int) (S : ByteArray) (w : World) (hs : ¬ S.toList = []) (h2 : (n == 0) = true) : Calls Tryz.prog 36 #[.agg #[.int .i64 2, .int .i64 a, .int .i64 b, .int .i64 c, .int .i64 n, .string S]] w fun e w' => e = .returned (.bool false) /\ Below w.heap.size w w' := by
 have hs' : (!S.toList.isEmpty) = true := by simp [hs]
 go_enter Tryz.func36, Tryz.ntmps36
 go_wp2
 go_ret
 exact ⟨by first | rfl | exact ka1 (by simp <;> omega), (Below.refl _ _).alloc (Nat.le_refl _) _⟩
theorem kk6 (a b c n : Int) (S : ByteArray) (w : World) (hs : ¬ S.toList = []) (h2 : (n == 0) = false) (h3 : (n == 1) = true) : Calls Tryz.prog 36 #[.agg #[.int .i64 2, .int .i64 a, .int .i64 b, .int .i64 c, .int .i64 n, .string S]] w fun e w' => e = .returned (.bool false) /\ Below w.heap.size w w' := by
 have hs' : (!S.toList.isEmpty) = true := by simp [hs]
 go_enter Tryz.func36, Tryz.ntmps36
 go_wp2
 go_ret
 exact ⟨by first | rfl | exact ka1 (by simp <;> omega), (Below.refl _ _).alloc (Nat.le_refl _) _⟩
theorem kk5 (a b c n : Int) (S : ByteArray) (w : World) (hs : ¬ S.toList = []) (h2 : (n == 0) = false) (h3 : (n == 1) = false) : Calls Tryz.prog 36 #[.agg #[.int .i64 2, .int .i64 a, .int .i64 b, .int .i64 c, .int .i64 n, .string S]] w fun e w' => e = .returned (.bool false) /\ Below w.heap.size w w' := by
 have hs' : (!S.toList.isEmpty) = true := by simp [hs]
 go_enter Tryz.func36, Tryz.ntmps36
 go_wp2
 go_ret
 exact ⟨by first | rfl | exact ka1 (by simp <;> omega), (Below.refl _ _).alloc (Nat.le_refl _) _⟩
theorem kh5 (a b c n : Int) (S : ByteArray) (w : World) (hs : S.toList = []) (h2 : 0 <= n) (h3 : n <= 1000) : Calls Tryz.prog 36 #[.agg #[.int .i64 25, .int .i64 a, .int .i64 b, .int .i64 c, .int .i64 n, .string S]] w fun e w' => e = .returned (.bool true) /\ Below w.heap.size w w' := by
 go_enter Tryz.func36, Tryz.ntmps36
 go_wp2
 go_ret
 exact ⟨by first | rfl | exact ka1 (by simp <;> omega), (Below.refl _ _).alloc (Nat.le_refl _) _⟩
theorem kh6 (a b c n : Int) (S : ByteArray) (w : World) (hs : S.toList = []) (h2 : 0 <= n) (h3 : 1000 < n) : Calls Tryz.prog 36 #[.agg #[.int .i64 25, .int .i64 a, .int .i64 b, .int .i64 c, .int .i64 n, .string S]] w fun e w' => e = .returned (.bool false) /\ Below w.heap.size w w' := by
 go_enter Tryz.func36, Tryz.ntmps36
 go_wp2
 go_ret
 exact ⟨by first | rfl | exact ka1 (by simp <;> omega), (Below.refl _ _).alloc (Nat.le_refl _) _⟩
theorem kh7 (a b c n : Int) (S : ByteArray) (w : World) (hs : S.toList = []) (h2 : n < 0) (h3 : n <= 1000) : Calls Tryz.prog 36 #[.agg #[.int .i64 25, .int .i64 a, .int .i64 b, .int .i64 c, .int .i64 n, .string S]] w fun e w' => e = .returned (.bool false) /\ Below w.heap.size w w' := by
 go_enter Tryz.func36, Tryz.ntmps36
 go_wp2
 go_ret
 exact ⟨by first | rfl | exact ka1 (by simp <;> omega), (Below.refl _ _).alloc (Nat.le_refl _) _⟩
theorem kh8 (a b c n : Int) (S : ByteArray) (w : World) (hs : ¬ S.toList = []) (h2 : 0 <= n) (h3 : n <= 1000) : Calls Tryz.prog 36 #[.agg #[.int .i64 25, .int .i64 a, .int .i64 b, .int .i64 c, .int .i64 n, .string S]] w fun e w' => e = .returned (.bool false) /\ Below w.heap.size w w' := by
 have hs' : (!S.toList.isEmpty) = true := by simp [hs]
 go_enter Tryz.func36, Tryz.ntmps36
 go_wp2
 go_ret
 exact ⟨by first | rfl | exact ka1 (by simp <;> omega), (Below.refl _ _).alloc (Nat.le_refl _) _⟩
theorem kh9 (a b c n : Int) (S : ByteArray) (w : World) (hs : ¬ S.toList = []) (h2 : 0 <= n) (h3 : 1000 < n) : Calls Tryz.prog 36 #[.agg #[.int .i64 25, .int .i64 a, .int .i64 b, .int .i64 c, .int .i64 n, .string S]] w fun e w' => e = .returned (.bool false) /\ Below w.heap.size w w' := by
 have hs' : (!S.toList.isEmpty) = true := by simp [hs]
 go_enter Tryz.func36, Tryz.ntmps36
 go_wp2
 go_ret
 exact ⟨by first | rfl | exact ka1 (by simp <;> omega), (Below.refl _ _).alloc (Nat.le_refl _) _⟩
theorem kha (a b c n : Int) (S : ByteArray) (w : World) (hs : ¬ S.toList = []) (h2 : n < 0) (h3 : n <= 1000) : Calls Tryz.prog 36 #[.agg #[.int .i64 25, .int .i64 a, .int .i64 b, .int .i64 c, .int .i64 n, .string S]] w fun e w' => e = .returned (.bool false) /\ Below w.heap.size w w' := by
 have hs' : (!S.toList.isEmpty) = true := by simp [hs]
 go_enter Tryz.func36, Tryz.ntmps36
 go_wp2
 go_ret
 exact ⟨by first | rfl | exact ka1 (by simp <;> omega), (Below.refl _ _).alloc (Nat.le_refl _) _⟩
theorem kjZ (a b c n : Int) (S : ByteArray) (w : World) (hs : S.toList = []) (h2 : (n == 0) = true) : Calls Tryz.prog 36 #[.agg #[.int .i64 3, .int .i64 a, .int .i64 b, .int .i64 c, .int .i64 n, .string S]] w fun e w' => e = .returned (.bool false) /\ Below w.heap.size w w' := by
 go_enter Tryz.func36, Tryz.ntmps36
 go_wp2
 go_ret
 exact ⟨by first | rfl | exact ka1 (by simp <;> omega), (Below.refl _ _).alloc (Nat.le_refl _) _⟩
theorem kjY (a b c n : Int) (S : ByteArray) (w : World) (hs : S.toList = []) (h2 : (n == 0) = false) : Calls Tryz.prog 36 #[.agg #[.int .i64 3, .int .i64 a, .int .i64 b, .int .i64 c, .int .i64 n, .string S]] w fun e w' => e = .returned (.bool false) /\ Below w.heap.size w w' := by
 go_enter Tryz.func36, Tryz.ntmps36
 go_wp2
 go_ret
 exact ⟨by first | rfl | exact ka1 (by simp <;> omega), (Below.refl _ _).alloc (Nat.le_refl _) _⟩
theorem kk1 (a b c n : Int) (S : ByteArray) (w : World) (hs : ¬ S.toList = []) (h2 : (n == 0) = true) : Calls Tryz.prog 36 #[.agg #[.int .i64 3, .int .i64 a, .int .i64 b, .int .i64 c, .int .i64 n, .string S]] w fun e w' => e = .returned (.bool true) /\ Below w.heap.size w w' := by
 have hs' : (!S.toList.isEmpty) = true := by simp [hs]
 go_enter Tryz.func36, Tryz.ntmps36
 go_wp2
 go_ret
 exact ⟨by first | rfl | exact ka1 (by simp <;> omega), (Below.refl _ _).alloc (Nat.le_refl _) _⟩
theorem kk0 (a b c n : Int) (S : ByteArray) (w : World) (hs : ¬ S.toList = []) (h2 : (n == 0) = false) : Calls Tryz.prog 36 #[.agg #[.int .i64 3, .int .i64 a, .int .i64 b, .int .i64 c, .int .i64 n, .string S]] w fun e w' => e = .returned (.bool false) /\ Below w.heap.size w w' := by
 have hs' : (!S.toList.isEmpty) = true := by simp [hs]
 go_enter Tryz.func36, Tryz.ntmps36
 go_wp2
 go_ret
 exact ⟨by first | rfl | exact ka1 (by simp <;> omega), (Below.refl _ _).alloc (Nat.le_refl _) _⟩
theorem kie (a b c n : Int) (S : ByteArray) (w : World) (hs : S.toList = []) (h2 : (n == 0) = true) : Calls Tryz.prog 36 #[.agg #[.int .i64 27, .int .i64 a, .int .i64 b, .int .i64 c, .int .i64 n, .string S]] w fun e w' => e = .returned (.bool false) /\ Below w.heap.size w w' := by
 go_enter Tryz.func36, Tryz.ntmps36
 go_wp2
 go_ret
 exact ⟨by first | rfl | exact ka1 (by simp <;> omega), (Below.refl _ _).alloc (Nat.le_refl _) _⟩
theorem kic (a b c n : Int) (S : ByteArray) (w : World) (hs : S.toList = []) (h2 : (n == 0) = false) : Calls Tryz.prog 36 #[.agg #[.int .i64 27, .int .i64 a, .int .i64 b, .int .i64 c, .int .i64 n, .string S]] w fun e w' => e = .returned (.bool false) /\ Below w.heap.size w w' := by
 go_enter Tryz.func36, Tryz.ntmps36
 go_wp2
 go_ret
 exact ⟨by first | rfl | exact ka1 (by simp <;> omega), (Below.refl _ _).alloc (Nat.le_refl _) _⟩
theorem kig (a b c n : Int) (S : ByteArray) (w : World) (hs : ¬ S.toList = []) (h2 : (n == 0) = true) : Calls Tryz.prog 36 #[.agg #[.int .i64 27, .int .i64 a, .int .i64 b, .int .i64 c, .int .i64 n, .string S]] w fun e w' => e = .returned (.bool true) /\ Below w.heap.size w w' := by
 have hs' : (!S.toList.isEmpty) = true := by simp [hs]
 go_enter Tryz.func36, Tryz.ntmps36
 go_wp2
 go_ret
 exact ⟨by first | rfl | exact ka1 (by simp <;> omega), (Below.refl _ _).alloc (Nat.le_refl _) _⟩
theorem kif (a b c n : Int) (S : ByteArray) (w : World) (hs : ¬ S.toList = []) (h2 : (n == 0) = false) : Calls Tryz.prog 36 #[.agg #[.int .i64 27, .int .i64 a, .int .i64 b, .int .i64 c, .int .i64 n, .string S]] w fun e w' => e = .returned (.bool false) /\ Below w.heap.size w w' := by
 have hs' : (!S.toList.isEmpty) = true := by simp [hs]
 go_enter Tryz.func36, Tryz.ntmps36
 go_wp2
 go_ret
 exact ⟨by first | rfl | exact ka1 (by simp <;> omega), (Below.refl _ _).alloc (Nat.le_refl _) _⟩
theorem kjV (o a b c n : Int) (S : ByteArray) (w : World) (hs : S.toList = []) (h2 : (n == 0) = true) (g1 : (o == 1) = false) (g2 : (o == 2) = false) (g25 : (o == 25) = false) (g3 : (o == 3) = false) (g27 : (o == 27) = false) : Calls Tryz.prog 36 #[.agg #[.int .i64 o, .int .i64 a, .int .i64 b, .int .i64 c, .int .i64 n, .string S]] w fun e w' => e = .returned (.bool true) /\ Below w.heap.size w w' := by
 go_enter Tryz.func36, Tryz.ntmps36
 go_wp2
 go_ret
 exact ⟨by first | rfl | exact ka1 (by simp <;> omega), (Below.refl _ _).alloc (Nat.le_refl _) _⟩
theorem kjU (o a b c n : Int) (S : ByteArray) (w : World) (hs : S.toList = []) (h2 : (n == 0) = false) (g1 : (o == 1) = false) (g2 : (o == 2) = false) (g25 : (o == 25) = false) (g3 : (o == 3) = false) (g27 : (o == 27) = false) : Calls Tryz.prog 36 #[.agg #[.int .i64 o, .int .i64 a, .int .i64 b, .int .i64 c, .int .i64 n, .string S]] w fun e w' => e = .returned (.bool false) /\ Below w.heap.size w w' := by
 go_enter Tryz.func36, Tryz.ntmps36
 go_wp2
 go_ret
 exact ⟨by first | rfl | exact ka1 (by simp <;> omega), (Below.refl _ _).alloc (Nat.le_refl _) _⟩
theorem kjX (o a b c n : Int) (S : ByteArray) (w : World) (hs : ¬ S.toList = []) (h2 : (n == 0) = true) (g1 : (o == 1) = false) (g2 : (o == 2) = false) (g25 : (o == 25) = false) (g3 : (o == 3) = false) (g27 : (o == 27) = false) : Calls Tryz.prog 36 #[.agg #[.int .i64 o, .int .i64 a, .int .i64 b, .int .i64 c, .int .i64 n, .string S]] w fun e w' => e = .returned (.bool false) /\ Below w.heap.size w w' := by
 have hs' : (!S.toList.isEmpty) = true := by simp [hs]
 go_enter Tryz.func36, Tryz.ntmps36
 go_wp2
 go_ret
 exact ⟨by first | rfl | exact ka1 (by simp <;> omega), (Below.refl _ _).alloc (Nat.le_refl _) _⟩
theorem kjW (o a b c n : Int) (S : ByteArray) (w : World) (hs : ¬ S.toList = []) (h2 : (n == 0) = false) (g1 : (o == 1) = false) (g2 : (o == 2) = false) (g25 : (o == 25) = false) (g3 : (o == 3) = false) (g27 : (o == 27) = false) : Calls Tryz.prog 36 #[.agg #[.int .i64 o, .int .i64 a, .int .i64 b, .int .i64 c, .int .i64 n, .string S]] w fun e w' => e = .returned (.bool false) /\ Below w.heap.size w w' := by
 have hs' : (!S.toList.isEmpty) = true := by simp [hs]
 go_enter Tryz.func36, Tryz.ntmps36
 go_wp2
 go_ret
 exact ⟨rfl, (Below.refl _ _).alloc (Nat.le_refl _) _⟩
set_option maxHeartbeats 1600000 in
theorem kln (x : Nd) (w : World) : Calls Tryz.prog 36 #[.agg #[.int .i64 x.op, .int .i64 x.a, .int .i64 x.b, .int .i64 x.c, .int .i64 x.n, .string (str x.name)]] w
 fun e w' => e = .returned (.bool (kao x.lab)) /\ Below w.heap.size w w' := by
 obtain ⟨o, a, b, c, n, s⟩ := x
 show Calls Tryz.prog 36 #[.agg #[.int .i64 o, .int .i64 a, .int .i64 b, .int .i64 c, .int .i64 n, .string (str s)]] w fun e w' => e = .returned (.bool (kao ⟨o, n, s⟩)) /\ Below w.heap.size w w'
 by_cases hs : s = []
 · have hS : (str s).toList = [] := by rw [str_toList]; exact hs
   by_cases q1 : o = 1
   · subst q1
     by_cases h2 : 0 <= n
     · by_cases h3 : n <= 2147483647
       · have h := kih a b c n (str s) w hS h2 h3; refine h.mono fun e w' ⟨h1, h2⟩ => ⟨h1.trans (ka1 ?_), h2⟩; simp [hs, kao] <;> (try intros) <;> omega
       · have h := kii a b c n (str s) w hS h2 (by omega); refine h.mono fun e w' ⟨h1, h2⟩ => ⟨h1.trans (ka1 ?_), h2⟩; simp [hs, kao] <;> (try intros) <;> omega
     · have h := kij a b c n (str s) w hS (by omega) (by omega); refine h.mono fun e w' ⟨h1, h2⟩ => ⟨h1.trans (ka1 ?_), h2⟩; simp [hs, kao] <;> (try intros) <;> omega
   by_cases q2 : o = 2
   · subst q2
     by_cases h2 : n = 0
     · have h := kk4 a b c n (str s) w hS (by simp [h2]); refine h.mono fun e w' ⟨h1, h2⟩ => ⟨h1.trans (ka1 ?_), h2⟩; simp [hs, kao] <;> (try intros) <;> omega
     by_cases h3 : n = 1
     · have h := kk3 a b c n (str s) w hS (by simp [h2]) (by simp [h3]); refine h.mono fun e w' ⟨h1, h2⟩ => ⟨h1.trans (ka1 ?_), h2⟩; simp [hs, kao] <;> (try intros) <;> omega
     · have h := kk2 a b c n (str s) w hS (by simp [h2]) (by simp [h3]); refine h.mono fun e w' ⟨h1, h2⟩ => ⟨h1.trans (ka1 ?_), h2⟩; simp [hs, kao] <;> (try intros) <;> omega
   by_cases q25 : o = 25
   · subst q25
     by_cases h2 : 0 <= n
     · by_cases h3 : n <= 1000
       · have h := kh5 a b c n (str s) w hS h2 h3; refine h.mono fun e w' ⟨h1, h2⟩ => ⟨h1.trans (ka1 ?_), h2⟩; simp [hs, kao] <;> (try intros) <;> omega
       · have h := kh6 a b c n (str s) w hS h2 (by omega); refine h.mono fun e w' ⟨h1, h2⟩ => ⟨h1.trans (ka1 ?_), h2⟩; simp [hs, kao] <;> (try intros) <;> omega
     · have h := kh7 a b c n (str s) w hS (by omega) (by omega); refine h.mono fun e w' ⟨h1, h2⟩ => ⟨h1.trans (ka1 ?_), h2⟩; simp [hs, kao] <;> (try intros) <;> omega
   by_cases q3 : o = 3
   · subst q3
     by_cases h2 : n = 0
     · have h := kjZ a b c n (str s) w hS (by simp [h2]); refine h.mono fun e w' ⟨h1, h2⟩ => ⟨h1.trans (ka1 ?_), h2⟩; simp [hs, kao] <;> (try intros) <;> omega
     · have h := kjY a b c n (str s) w hS (by simp [h2]); refine h.mono fun e w' ⟨h1, h2⟩ => ⟨h1.trans (ka1 ?_), h2⟩; simp [hs, kao] <;> (try intros) <;> omega
   by_cases q27 : o = 27
   · subst q27
     by_cases h2 : n = 0
     · have h := kie a b c n (str s) w hS (by simp [h2]); refine h.mono fun e w' ⟨h1, h2⟩ => ⟨h1.trans (ka1 ?_), h2⟩; simp [hs, kao] <;> (try intros) <;> omega
     · have h := kic a b c n (str s) w hS (by simp [h2]); refine h.mono fun e w' ⟨h1, h2⟩ => ⟨h1.trans (ka1 ?_), h2⟩; simp [hs, kao] <;> (try intros) <;> omega
   by_cases h2 : n = 0
   · have h := kjV o a b c n (str s) w hS (by simp [h2]) (by simp [q1]) (by simp [q2]) (by simp [q25]) (by simp [q3]) (by simp [q27]); refine h.mono fun e w' ⟨h1, h2⟩ => ⟨h1.trans (ka1 ?_), h2⟩; have eo : (o == 3 || o == 27) = false := (by simp [q3, q27]); simp [hs, kao, eo, q1, q2, q25, q3, q27, keU s] <;> (try intros) <;> omega
   · have h := kjU o a b c n (str s) w hS (by simp [h2]) (by simp [q1]) (by simp [q2]) (by simp [q25]) (by simp [q3]) (by simp [q27]); refine h.mono fun e w' ⟨h1, h2⟩ => ⟨h1.trans (ka1 ?_), h2⟩; have eo : (o == 3 || o == 27) = false := (by simp [q3, q27]); simp [hs, kao, eo, q1, q2, q25, q3, q27, keU s] <;> (try intros) <;> omega
 · have hS : ¬ (str s).toList = [] := by rw [str_toList]; exact hs
   by_cases q1 : o = 1
   · subst q1
     by_cases h2 : 0 <= n
     · by_cases h3 : n <= 2147483647
       · have h := kik a b c n (str s) w hS h2 h3; refine h.mono fun e w' ⟨h1, h2⟩ => ⟨h1.trans (ka1 ?_), h2⟩; simp [hs, kao] <;> (try intros) <;> omega
       · have h := kil a b c n (str s) w hS h2 (by omega); refine h.mono fun e w' ⟨h1, h2⟩ => ⟨h1.trans (ka1 ?_), h2⟩; simp [hs, kao] <;> (try intros) <;> omega
     · have h := kim a b c n (str s) w hS (by omega) (by omega); refine h.mono fun e w' ⟨h1, h2⟩ => ⟨h1.trans (ka1 ?_), h2⟩; simp [hs, kao] <;> (try intros) <;> omega
   by_cases q2 : o = 2
   · subst q2
     by_cases h2 : n = 0
     · have h := kk7 a b c n (str s) w hS (by simp [h2]); refine h.mono fun e w' ⟨h1, h2⟩ => ⟨h1.trans (ka1 ?_), h2⟩; simp [hs, kao] <;> (try intros) <;> omega
     by_cases h3 : n = 1
     · have h := kk6 a b c n (str s) w hS (by simp [h2]) (by simp [h3]); refine h.mono fun e w' ⟨h1, h2⟩ => ⟨h1.trans (ka1 ?_), h2⟩; simp [hs, kao] <;> (try intros) <;> omega
     · have h := kk5 a b c n (str s) w hS (by simp [h2]) (by simp [h3]); refine h.mono fun e w' ⟨h1, h2⟩ => ⟨h1.trans (ka1 ?_), h2⟩; simp [hs, kao] <;> (try intros) <;> omega
   by_cases q25 : o = 25
   · subst q25
     by_cases h2 : 0 <= n
     · by_cases h3 : n <= 1000
       · have h := kh8 a b c n (str s) w hS h2 h3; refine h.mono fun e w' ⟨h1, h2⟩ => ⟨h1.trans (ka1 ?_), h2⟩; simp [hs, kao] <;> (try intros) <;> omega
       · have h := kh9 a b c n (str s) w hS h2 (by omega); refine h.mono fun e w' ⟨h1, h2⟩ => ⟨h1.trans (ka1 ?_), h2⟩; simp [hs, kao] <;> (try intros) <;> omega
     · have h := kha a b c n (str s) w hS (by omega) (by omega); refine h.mono fun e w' ⟨h1, h2⟩ => ⟨h1.trans (ka1 ?_), h2⟩; simp [hs, kao] <;> (try intros) <;> omega
   by_cases q3 : o = 3
   · subst q3
     by_cases h2 : n = 0
     · have h := kk1 a b c n (str s) w hS (by simp [h2]); refine h.mono fun e w' ⟨h1, h2⟩ => ⟨h1.trans (ka1 ?_), h2⟩; simp [hs, kao] <;> (try intros) <;> omega
     · have h := kk0 a b c n (str s) w hS (by simp [h2]); refine h.mono fun e w' ⟨h1, h2⟩ => ⟨h1.trans (ka1 ?_), h2⟩; simp [hs, kao] <;> (try intros) <;> omega
   by_cases q27 : o = 27
   · subst q27
     by_cases h2 : n = 0
     · have h := kig a b c n (str s) w hS (by simp [h2]); refine h.mono fun e w' ⟨h1, h2⟩ => ⟨h1.trans (ka1 ?_), h2⟩; simp [hs, kao] <;> (try intros) <;> omega
     · have h := kif a b c n (str s) w hS (by simp [h2]); refine h.mono fun e w' ⟨h1, h2⟩ => ⟨h1.trans (ka1 ?_), h2⟩; simp [hs, kao] <;> (try intros) <;> omega
   by_cases h2 : n = 0
   · have h := kjX o a b c n (str s) w hS (by simp [h2]) (by simp [q1]) (by simp [q2]) (by simp [q25]) (by simp [q3]) (by simp [q27]); refine h.mono fun e w' ⟨h1, h2⟩ => ⟨h1.trans (ka1 ?_), h2⟩; have eo : (o == 3 || o == 27) = false := (by simp [q3, q27]); simp [hs, kao, eo, q1, q2, q25, q3, q27, keU s] <;> (try intros) <;> omega
   · have h := kjW o a b c n (str s) w hS (by simp [h2]) (by simp [q1]) (by simp [q2]) (by simp [q25]) (by simp [q3]) (by simp [q27]); refine h.mono fun e w' ⟨h1, h2⟩ => ⟨h1.trans (ka1 ?_), h2⟩; have eo : (o == 3 || o == 27) = false := (by simp [q3, q27]); simp [hs, kao, eo, q1, q2, q25, q3, q27, keU s] <;> (try intros) <;> omega
end Go.Proofs.YtlhcajhgbkgjbaaGreatDoor.Tr
namespace Go.Proofs.YtlhcajhgbkgjbaaGreatDoor.Tr
open Go.ChangeShapes Go.WideShapes Go.ChangeAt Go.RowKit
def kfw (m : Nat) (a b c : Int) : Bool := (decide (0 < m) || a == -1) && (decide (1 < m) || b == -1) && (decide (2 < m) || c == -1)
def kdy (x : Nd) : Bool := if x.op = 27 then x.b == -1 && x.c == -1 else if x.op = 28 then x.c == -1 else kfw (ka5 x).length x.a x.b x.c
theorem kej (x : Nd) : kdy x = true ↔ x = mkL x.lab (ka5 x) := by
 obtain ⟨o, a, b, c, n, s⟩ := x
 unfold kdy kfw
 by_cases hu : kaa o = true
 · have h27 : o ≠ 27 := by rintro rfl; simp [kaa] at hu
   have h28 : o ≠ 28 := by rintro rfl; simp [kaa] at hu
   simp [ka5, hu, mkL, Nd.lab, h27, h28]
 by_cases h26 : o = 26
 · subst h26; simp [ka5, kaa, mkL, Nd.lab]
 by_cases h27 : o = 27
 · subst h27
   by_cases ha : a = -1 <;> simp [ka5, kaa, mkL, Nd.lab, kaE, ha]
 by_cases h28 : o = 28
 · subst h28
   by_cases hb : b = -1 <;> simp [ka5, kaa, mkL, Nd.lab, kaE, hb]
 by_cases hb : ka9 o = true
 · simp [ka5, hu, hb, mkL, Nd.lab, h26, h27, h28]
 · simp [ka5, hu, hb, mkL, Nd.lab, h26, h27, h28, and_assoc]
set_option maxHeartbeats 3200000 in
theorem koj (x : Nd) (w : World) : Calls Tryz.prog 35 #[.agg #[.int .i64 x.op, .int .i64 x.a, .int .i64 x.b, .int .i64 x.c, .int .i64 x.n, .string (str x.name)]] w fun r w' => r = .returned (.bool (kdy x)) /\ Below w.heap.size w w' := by
 obtain ⟨L, hL⟩ : ∃ L, ka5 x = L := ⟨_, rfl⟩
 have HL := Lib.hid hL
 obtain ⟨R, hR⟩ : ∃ R, kdy x = R := ⟨_, rfl⟩
 have HR := Lib.hid hR
 rw [hR]
 have hl3 : L.length <= 3 := by rw [<- hL]; exact kay x
 clear hR hL
 go_enter Tryz.func35, Tryz.ntmps35
 go_wp2_with fail
 refine (kc1 x _).mono ?_
 rintro r w2 ⟨kv, rfl, hok, hb2⟩
 rw [HL.out] at hok
 obtain ⟨A2, c2, rfl, y1, y2, hA2⟩ := Ints.of_own hok
 have hz2 := hb2.size
 simp at hz2
 have HB2 := Lib.hid (((Below.refl _ _).alloc (Nat.le_refl _) _).trans (hb2.mono (B' := w.heap.size) (by simp)))
 have e0 : w2.cell? ⟨w.heap.size, 0, none⟩ = some (.int .i64 x.op) := (hb2.cell (by simp)).trans (by simp [World.cell?_alloc_at])
 have e1 : w2.cell? ⟨w.heap.size, 1, none⟩ = some (.int .i64 x.a) := (hb2.cell (by simp)).trans (by simp [World.cell?_alloc_at])
 have e2 : w2.cell? ⟨w.heap.size, 2, none⟩ = some (.int .i64 x.b) := (hb2.cell (by simp)).trans (by simp [World.cell?_alloc_at])
 have e3 : w2.cell? ⟨w.heap.size, 3, none⟩ = some (.int .i64 x.c) := (hb2.cell (by simp)).trans (by simp [World.cell?_alloc_at])
 have e4 : w2.cell? ⟨w.heap.size, 4, none⟩ = some (.int .i64 x.n) := (hb2.cell (by simp)).trans (by simp [World.cell?_alloc_at])
 have e5 : w2.cell? ⟨w.heap.size, 5, none⟩ = some (.string (str x.name)) := (hb2.cell (by simp)).trans (by simp [World.cell?_alloc_at])
 clear hok hA2 hb2
 unfold maxLen at y2
 rcases Bool.eq_false_or_eq_true (x.op == 27) with h27 | h27
 · have hx : x.op = 27 := by simpa using h27
   have HX := Lib.hid hx
   clear hx
   rcases Bool.eq_false_or_eq_true (x.b == -1) with hb | hb <;> rcases Bool.eq_false_or_eq_true (x.c == -1) with hc | hc
   all_goals
    go_wp2
    go_ret
    exact ⟨ka1 (by rw [<- HR.out]; unfold kdy; rw [if_pos HX.out]; simp [hb, hc]), HB2.out⟩
 rcases Bool.eq_false_or_eq_true (x.op == 28) with h28 | h28
 · have hx : x.op = 28 := by simpa using h28
   have HX := Lib.hid hx
   clear hx
   rcases Bool.eq_false_or_eq_true (x.c == -1) with hc | hc
   all_goals
    go_wp2
    go_ret
    exact ⟨ka1 (by rw [<- HR.out]; unfold kdy; rw [if_neg (by simpa using h27), if_pos HX.out]; simp [hc]), HB2.out⟩
 have HR2 := Lib.hid (show R = kfw L.length x.a x.b x.c by
  rw [<- HR.out, <- HL.out]; unfold kdy; rw [if_neg (by simpa using h27), if_neg (by simpa using h28)])
 obtain ⟨m, hm⟩ : ∃ m, L.length = m := ⟨_, rfl⟩
 rw [hm] at HR2 y1 hl3 ⊢
 clear hm
 have hmm : m = 0 ∨ m = 1 ∨ m = 2 ∨ m = 3 := by omega
 rcases hmm with rfl | rfl | rfl | rfl
 · rcases Bool.eq_false_or_eq_true (x.a == -1) with ha | ha <;> rcases Bool.eq_false_or_eq_true (x.b == -1) with hb | hb <;> rcases Bool.eq_false_or_eq_true (x.c == -1) with hc | hc
   all_goals
    go_wp2
    go_ret
    exact ⟨ka1 (by rw [HR2.out]; simp [kfw, ha, hb, hc]), HB2.out⟩
 · rcases Bool.eq_false_or_eq_true (x.b == -1) with hb | hb <;> rcases Bool.eq_false_or_eq_true (x.c == -1) with hc | hc
   all_goals
    go_wp2
    go_ret
    exact ⟨ka1 (by rw [HR2.out]; simp [kfw, hb, hc]), HB2.out⟩
 · rcases Bool.eq_false_or_eq_true (x.c == -1) with hc | hc
   all_goals
    go_wp2
    go_ret
    exact ⟨ka1 (by rw [HR2.out]; simp [kfw, hc]), HB2.out⟩
 · go_wp2
   go_ret
   exact ⟨ka1 (by rw [HR2.out]; simp [kfw]), HB2.out⟩
end Go.Proofs.YtlhcajhgbkgjbaaGreatDoor.Tr

