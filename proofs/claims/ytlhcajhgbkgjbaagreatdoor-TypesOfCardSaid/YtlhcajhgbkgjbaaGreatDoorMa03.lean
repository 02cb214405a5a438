/- Small functions on a node: whether it bears what it has, whether it takes Args, whether it is bare. Conditions: none. -/
import Derived.Test.YtlhcajhgbkgjbaaGreatDoorMa02
set_option linter.unusedVariables false
set_option linter.unusedSimpArgs false
namespace Go.Proofs.YtlhcajhgbkgjbaaGreatDoor.Tr
open Go.ChangeShapes Go.WideShapes Go.ChangeAt Go.RowKit
def kbu (x : Nd) (k : Int) : Bool := x.op == 27 || (x.op == 28 && k != x.a)
theorem kkK (x : Nd) (k : Int) (w : World) : Calls Tryz.prog 107 #[.agg #[.int .i64 x.op, .int .i64 x.a, .int .i64 x.b, .int .i64 x.c, .int .i64 x.n, .string (str x.name)], .int .i64 k] w
 fun e w' => e = .returned (.bool (kbu x k)) /\ Below w.heap.size w w' := by
 obtain ⟨o, a, b, c, n, s⟩ := x
 unfold kbu
 show Calls Tryz.prog 107 #[.agg #[.int .i64 o, .int .i64 a, .int .i64 b, .int .i64 c, .int .i64 n, .string (str s)], .int .i64 k] w fun e w' => e = .returned (.bool (o == 27 || (o == 28 && k != a))) /\ Below w.heap.size w w'
 rcases Bool.eq_false_or_eq_true (o == 27) with h1 | h1 <;> rcases Bool.eq_false_or_eq_true (o == 28) with h2 | h2 <;> rcases Bool.eq_false_or_eq_true (k != a) with h3 | h3
 all_goals
  rw [h1, h2, h3]
  go_enter Tryz.func107, Tryz.ntmps107
  go_wp2
  go_ret
  exact ⟨rfl, (Below.refl _ _).alloc (Nat.le_refl _) _⟩
theorem kbe (s : Bytes) : (s != []) = !decide (s = []) := by cases s <;> simp
theorem kiS (a b c n : Int) (S : ByteArray) (w : World) (hs : S.toList = []) (h2 : 0 <= n) (h3 : n <= 2147483647) : Calls Tryz.prog 91 #[.agg #[.int .i64 1, .int .i64 a, .int .i64 b, .int .i64 c, .int .i64 n, .string S]] w fun e w' => e = .returned (.bool true) /\ Below w.heap.size w w' := by
 go_enter Tryz.func91, Tryz.ntmps91
 go_wp2
 go_ret
 exact ⟨rfl, (Below.refl _ _).alloc (Nat.le_refl _) _⟩
theorem kiT (a b c n : Int) (S : ByteArray) (w : World) (hs : S.toList = []) (h2 : 0 <= n) (h3 : 2147483647 < n) : Calls Tryz.prog 91 #[.agg #[.int .i64 1, .int .i64 a, .int .i64 b, .int .i64 c, .int .i64 n, .string S]] w fun e w' => e = .returned (.bool false) /\ Below w.heap.size w w' := by
 go_enter Tryz.func91, Tryz.ntmps91
 go_wp2
 go_ret
 exact ⟨rfl, (Below.refl _ _).alloc (Nat.le_refl _) _⟩
theorem kiU (a b c n : Int) (S : ByteArray) (w : World) (hs : S.toList = []) (h2 : n < 0) (h3 : n <= 2147483647) : Calls Tryz.prog 91 #[.agg #[.int .i64 1, .int .i64 a, .int .i64 b, .int .i64 c, .int .i64 n, .string S]] w fun e w' => e = .returned (.bool false) /\ Below w.heap.size w w' := by
 go_enter Tryz.func91, Tryz.ntmps91
 go_wp2
 go_ret
 exact ⟨rfl, (Below.refl _ _).alloc (Nat.le_refl _) _⟩
theorem kiV (a b c n : Int) (S : ByteArray) (w : World) (hs : ¬ S.toList = []) (h2 : 0 <= n) (h3 : n <= 2147483647) : Calls Tryz.prog 91 #[.agg #[.int .i64 1, .int .i64 a, .int .i64 b, .int .i64 c, .int .i64 n, .string S]] w fun e w' => e = .returned (.bool false) /\ Below w.heap.size w w' := by
 have hs' : (!S.toList.isEmpty) = true := by simp [hs]
 go_enter Tryz.func91, Tryz.ntmps91
 go_wp2
 go_ret
 exact ⟨rfl, (Below.refl _ _).alloc (Nat.le_refl _) _⟩
theorem kiW (a b c n : Int) (S : ByteArray) (w : World) (hs : ¬ S.toList = []) (h2 : 0 <= n) (h3 : 2147483647 < n) : Calls Tryz.prog 91 #[.agg #[.int .i64 1, .int .i64 a, .int .i64 b, .int .i64 c, .int .i64 n, .string S]] w fun e w' => e = .returned (.bool false) /\ Below w.heap.size w w' := by
 have hs' : (!S.toList.isEmpty) = true := by simp [hs]
 go_enter Tryz.func91, Tryz.ntmps91
 go_wp2
 go_ret
 exact ⟨rfl, (Below.refl _ _).alloc (Nat.le_refl _) _⟩
theorem kiX (a b c n : Int) (S : ByteArray) (w : World) (hs : ¬ S.toList = []) (h2 : n < 0) (h3 : n <= 2147483647) : Calls Tryz.prog 91 #[.agg #[.int .i64 1, .int .i64 a, .int .i64 b, .int .i64 c, .int .i64 n, .string S]] w fun e w' => e = .returned (.bool false) /\ Below w.heap.size w w' := by
 have hs' : (!S.toList.isEmpty) = true := by simp [hs]
 go_enter Tryz.func91, Tryz.ntmps91
 go_wp2
 go_ret
 exact ⟨rfl, (Below.refl _ _).alloc (Nat.le_refl _) _⟩
theorem kiM (a b c n : Int) (S : ByteArray) (w : World) (hs : S.toList = []) (h2 : 0 <= n) (h3 : n <= 1) : Calls Tryz.prog 91 #[.agg #[.int .i64 2, .int .i64 a, .int .i64 b, .int .i64 c, .int .i64 n, .string S]] w fun e w' => e = .returned (.bool true) /\ Below w.heap.size w w' := by
 go_enter Tryz.func91, Tryz.ntmps91
 go_wp2
 go_ret
 exact ⟨rfl, (Below.refl _ _).alloc (Nat.le_refl _) _⟩
theorem kiN (a b c n : Int) (S : ByteArray) (w : World) (hs : S.toList = []) (h2 : 0 <= n) (h3 : 1 < n) : Calls Tryz.prog 91 #[.agg #[.int .i64 2, .int .i64 a, .int .i64 b, .int .i64 c, .int .i64 n, .string S]] w fun e w' => e = .returned (.bool false) /\ Below w.heap.size w w' := by
 go_enter Tryz.func91, Tryz.ntmps91
 go_wp2
 go_ret
 exact ⟨rfl, (Below.refl _ _).alloc (Nat.le_refl _) _⟩
theorem kiO (a b c n : Int) (S : ByteArray) (w : World) (hs : S.toList = []) (h2 : n < 0) (h3 : n <= 1) : Calls Tryz.prog 91 #[.agg #[.int .i64 2, .int .i64 a, .int .i64 b, .int .i64 c, .int .i64 n, .string S]] w fun e w' => e = .returned (.bool false) /\ Below w.heap.size w w' := by
 go_enter Tryz.func91, Tryz.ntmps91
 go_wp2
 go_ret
 exact ⟨rfl, (Below.refl _ _).alloc (Nat.le_refl _) _⟩
theorem kiP (a b c n : Int) (S : ByteArray) (w : World) (hs : ¬ S.toList = []) (h2 : 0 <= n) (h3 : n <= 1) : Calls Tryz.prog 91 #[.agg #[.int .i64 2, .int .i64 a, .int .i64 b, .int .i64 c, .int .i64 n, .string S]] w fun e w' => e = .returned (.bool false) /\ Below w.heap.size w w' := by
 have hs' : (!S.toList.isEmpty) = true := by simp [hs]
 go_enter Tryz.func91, Tryz.ntmps91
 go_wp2
 go_ret
 exact ⟨rfl, (Below.refl _ _).alloc (Nat.le_refl _) _⟩
theorem kiQ (a b c n : Int) (S : ByteArray) (w : World) (hs : ¬ S.toList = []) (h2 : 0 <= n) (h3 : 1 < n) : Calls Tryz.prog 91 #[.agg #[.int .i64 2, .int .i64 a, .int .i64 b, .int .i64 c, .int .i64 n, .string S]] w fun e w' => e = .returned (.bool false) /\ Below w.heap.size w w' := by
 have hs' : (!S.toList.isEmpty) = true := by simp [hs]
 go_enter Tryz.func91, Tryz.ntmps91
 go_wp2
 go_ret
 exact ⟨rfl, (Below.refl _ _).alloc (Nat.le_refl _) _⟩
theorem kiR (a b c n : Int) (S : ByteArray) (w : World) (hs : ¬ S.toList = []) (h2 : n < 0) (h3 : n <= 1) : Calls Tryz.prog 91 #[.agg #[.int .i64 2, .int .i64 a, .int .i64 b, .int .i64 c, .int .i64 n, .string S]] w fun e w' => e = .returned (.bool false) /\ Below w.heap.size w w' := by
 have hs' : (!S.toList.isEmpty) = true := by simp [hs]
 go_enter Tryz.func91, Tryz.ntmps91
 go_wp2
 go_ret
 exact ⟨rfl, (Below.refl _ _).alloc (Nat.le_refl _) _⟩
theorem khT (a b c n : Int) (S : ByteArray) (w : World) (hs : S.toList = []) (h2 : 0 <= n) (h3 : n <= 1000) : Calls Tryz.prog 91 #[.agg #[.int .i64 25, .int .i64 a, .int .i64 b, .int .i64 c, .int .i64 n, .string S]] w fun e w' => e = .returned (.bool true) /\ Below w.heap.size w w' := by
 go_enter Tryz.func91, Tryz.ntmps91
 go_wp2
 go_ret
 exact ⟨rfl, (Below.refl _ _).alloc (Nat.le_refl _) _⟩
theorem khU (a b c n : Int) (S : ByteArray) (w : World) (hs : S.toList = []) (h2 : 0 <= n) (h3 : 1000 < n) : Calls Tryz.prog 91 #[.agg #[.int .i64 25, .int .i64 a, .int .i64 b, .int .i64 c, .int .i64 n, .string S]] w fun e w' => e = .returned (.bool false) /\ Below w.heap.size w w' := by
 go_enter Tryz.func91, Tryz.ntmps91
 go_wp2
 go_ret
 exact ⟨rfl, (Below.refl _ _).alloc (Nat.le_refl _) _⟩
theorem khV (a b c n : Int) (S : ByteArray) (w : World) (hs : S.toList = []) (h2 : n < 0) (h3 : n <= 1000) : Calls Tryz.prog 91 #[.agg #[.int .i64 25, .int .i64 a, .int .i64 b, .int .i64 c, .int .i64 n, .string S]] w fun e w' => e = .returned (.bool false) /\ Below w.heap.size w w' := by
 go_enter Tryz.func91, Tryz.ntmps91
 go_wp2
 go_ret
 exact ⟨rfl, (Below.refl _ _).alloc (Nat.le_refl _) _⟩
theorem khW (a b c n : Int) (S : ByteArray) (w : World) (hs : ¬ S.toList = []) (h2 : 0 <= n) (h3 : n <= 1000) : Calls Tryz.prog 91 #[.agg #[.int .i64 25, .int .i64 a, .int .i64 b, .int .i64 c, .int .i64 n, .string S]] w fun e w' => e = .returned (.bool false) /\ Below w.heap.size w w' := by
 have hs' : (!S.toList.isEmpty) = true := by simp [hs]
 go_enter Tryz.func91, Tryz.ntmps91
 go_wp2
 go_ret
 exact ⟨rfl, (Below.refl _ _).alloc (Nat.le_refl _) _⟩
theorem khX (a b c n : Int) (S : ByteArray) (w : World) (hs : ¬ S.toList = []) (h2 : 0 <= n) (h3 : 1000 < n) : Calls Tryz.prog 91 #[.agg #[.int .i64 25, .int .i64 a, .int .i64 b, .int .i64 c, .int .i64 n, .string S]] w fun e w' => e = .returned (.bool false) /\ Below w.heap.size w w' := by
 have hs' : (!S.toList.isEmpty) = true := by simp [hs]
 go_enter Tryz.func91, Tryz.ntmps91
 go_wp2
 go_ret
 exact ⟨rfl, (Below.refl _ _).alloc (Nat.le_refl _) _⟩
theorem khY (a b c n : Int) (S : ByteArray) (w : World) (hs : ¬ S.toList = []) (h2 : n < 0) (h3 : n <= 1000) : Calls Tryz.prog 91 #[.agg #[.int .i64 25, .int .i64 a, .int .i64 b, .int .i64 c, .int .i64 n, .string S]] w fun e w' => e = .returned (.bool false) /\ Below w.heap.size w w' := by
 have hs' : (!S.toList.isEmpty) = true := by simp [hs]
 go_enter Tryz.func91, Tryz.ntmps91
 go_wp2
 go_ret
 exact ⟨rfl, (Below.refl _ _).alloc (Nat.le_refl _) _⟩
theorem kiG (a b c n : Int) (S : ByteArray) (w : World) (hs : S.toList = []) (h2 : 0 <= n) (h3 : n <= 0) : Calls Tryz.prog 91 #[.agg #[.int .i64 3, .int .i64 a, .int .i64 b, .int .i64 c, .int .i64 n, .string S]] w fun e w' => e = .returned (.bool false) /\ Below w.heap.size w w' := by
 go_enter Tryz.func91, Tryz.ntmps91
 go_wp2
 go_ret
 exact ⟨rfl, (Below.refl _ _).alloc (Nat.le_refl _) _⟩
theorem kiH (a b c n : Int) (S : ByteArray) (w : World) (hs : S.toList = []) (h2 : 0 <= n) (h3 : 0 < n) : Calls Tryz.prog 91 #[.agg #[.int .i64 3, .int .i64 a, .int .i64 b, .int .i64 c, .int .i64 n, .string S]] w fun e w' => e = .returned (.bool false) /\ Below w.heap.size w w' := by
 go_enter Tryz.func91, Tryz.ntmps91
 go_wp2
 go_ret
 exact ⟨rfl, (Below.refl _ _).alloc (Nat.le_refl _) _⟩
theorem kiI (a b c n : Int) (S : ByteArray) (w : World) (hs : S.toList = []) (h2 : n < 0) (h3 : n <= 0) : Calls Tryz.prog 91 #[.agg #[.int .i64 3, .int .i64 a, .int .i64 b, .int .i64 c, .int .i64 n, .string S]] w fun e w' => e = .returned (.bool false) /\ Below w.heap.size w w' := by
 go_enter Tryz.func91, Tryz.ntmps91
 go_wp2
 go_ret
 exact ⟨rfl, (Below.refl _ _).alloc (Nat.le_refl _) _⟩
theorem kiJ (a b c n : Int) (S : ByteArray) (w : World) (hs : ¬ S.toList = []) (h2 : 0 <= n) (h3 : n <= 0) : Calls Tryz.prog 91 #[.agg #[.int .i64 3, .int .i64 a, .int .i64 b, .int .i64 c, .int .i64 n, .string S]] w fun e w' => e = .returned (.bool true) /\ Below w.heap.size w w' := by
 have hs' : (!S.toList.isEmpty) = true := by simp [hs]
 go_enter Tryz.func91, Tryz.ntmps91
 go_wp2
 go_ret
 exact ⟨rfl, (Below.refl _ _).alloc (Nat.le_refl _) _⟩
theorem kiK (a b c n : Int) (S : ByteArray) (w : World) (hs : ¬ S.toList = []) (h2 : 0 <= n) (h3 : 0 < n) : Calls Tryz.prog 91 #[.agg #[.int .i64 3, .int .i64 a, .int .i64 b, .int .i64 c, .int .i64 n, .string S]] w fun e w' => e = .returned (.bool false) /\ Below w.heap.size w w' := by
 have hs' : (!S.toList.isEmpty) = true := by simp [hs]
 go_enter Tryz.func91, Tryz.ntmps91
 go_wp2
 go_ret
 exact ⟨rfl, (Below.refl _ _).alloc (Nat.le_refl _) _⟩
theorem kiL (a b c n : Int) (S : ByteArray) (w : World) (hs : ¬ S.toList = []) (h2 : n < 0) (h3 : n <= 0) : Calls Tryz.prog 91 #[.agg #[.int .i64 3, .int .i64 a, .int .i64 b, .int .i64 c, .int .i64 n, .string S]] w fun e w' => e = .returned (.bool false) /\ Below w.heap.size w w' := by
 have hs' : (!S.toList.isEmpty) = true := by simp [hs]
 go_enter Tryz.func91, Tryz.ntmps91
 go_wp2
 go_ret
 exact ⟨rfl, (Below.refl _ _).alloc (Nat.le_refl _) _⟩
theorem khN (a b c n : Int) (S : ByteArray) (w : World) (hs : S.toList = []) (h2 : 0 <= n) (h3 : n <= 0) : Calls Tryz.prog 91 #[.agg #[.int .i64 27, .int .i64 a, .int .i64 b, .int .i64 c, .int .i64 n, .string S]] w fun e w' => e = .returned (.bool false) /\ Below w.heap.size w w' := by
 go_enter Tryz.func91, Tryz.ntmps91
 go_wp2
 go_ret
 exact ⟨rfl, (Below.refl _ _).alloc (Nat.le_refl _) _⟩
theorem khO (a b c n : Int) (S : ByteArray) (w : World) (hs : S.toList = []) (h2 : 0 <= n) (h3 : 0 < n) : Calls Tryz.prog 91 #[.agg #[.int .i64 27, .int .i64 a, .int .i64 b, .int .i64 c, .int .i64 n, .string S]] w fun e w' => e = .returned (.bool false) /\ Below w.heap.size w w' := by
 go_enter Tryz.func91, Tryz.ntmps91
 go_wp2
 go_ret
 exact ⟨rfl, (Below.refl _ _).alloc (Nat.le_refl _) _⟩
theorem khP (a b c n : Int) (S : ByteArray) (w : World) (hs : S.toList = []) (h2 : n < 0) (h3 : n <= 0) : Calls Tryz.prog 91 #[.agg #[.int .i64 27, .int .i64 a, .int .i64 b, .int .i64 c, .int .i64 n, .string S]] w fun e w' => e = .returned (.bool false) /\ Below w.heap.size w w' := by
 go_enter Tryz.func91, Tryz.ntmps91
 go_wp2
 go_ret
 exact ⟨rfl, (Below.refl _ _).alloc (Nat.le_refl _) _⟩
theorem khQ (a b c n : Int) (S : ByteArray) (w : World) (hs : ¬ S.toList = []) (h2 : 0 <= n) (h3 : n <= 0) : Calls Tryz.prog 91 #[.agg #[.int .i64 27, .int .i64 a, .int .i64 b, .int .i64 c, .int .i64 n, .string S]] w fun e w' => e = .returned (.bool true) /\ Below w.heap.size w w' := by
 have hs' : (!S.toList.isEmpty) = true := by simp [hs]
 go_enter Tryz.func91, Tryz.ntmps91
 go_wp2
 go_ret
 exact ⟨rfl, (Below.refl _ _).alloc (Nat.le_refl _) _⟩
theorem khR (a b c n : Int) (S : ByteArray) (w : World) (hs : ¬ S.toList = []) (h2 : 0 <= n) (h3 : 0 < n) : Calls Tryz.prog 91 #[.agg #[.int .i64 27, .int .i64 a, .int .i64 b, .int .i64 c, .int .i64 n, .string S]] w fun e w' => e = .returned (.bool false) /\ Below w.heap.size w w' := by
 have hs' : (!S.toList.isEmpty) = true := by simp [hs]
 go_enter Tryz.func91, Tryz.ntmps91
 go_wp2
 go_ret
 exact ⟨rfl, (Below.refl _ _).alloc (Nat.le_refl _) _⟩
theorem khS (a b c n : Int) (S : ByteArray) (w : World) (hs : ¬ S.toList = []) (h2 : n < 0) (h3 : n <= 0) : Calls Tryz.prog 91 #[.agg #[.int .i64 27, .int .i64 a, .int .i64 b, .int .i64 c, .int .i64 n, .string S]] w fun e w' => e = .returned (.bool false) /\ Below w.heap.size w w' := by
 have hs' : (!S.toList.isEmpty) = true := by simp [hs]
 go_enter Tryz.func91, Tryz.ntmps91
 go_wp2
 go_ret
 exact ⟨rfl, (Below.refl _ _).alloc (Nat.le_refl _) _⟩
theorem khw (o a b c n : Int) (S : ByteArray) (w : World) (hs : S.toList = []) (h2 : 0 <= n) (h3 : n <= 0) (g1 : (o == 1) = false) (g2 : (o == 2) = false) (g25 : (o == 25) = false) (g3 : (o == 3) = false) (g27 : (o == 27) = false) (r1 : 1 <= o) (r2 : o <= 28) : Calls Tryz.prog 91 #[.agg #[.int .i64 o, .int .i64 a, .int .i64 b, .int .i64 c, .int .i64 n, .string S]] w fun e w' => e = .returned (.bool true) /\ Below w.heap.size w w' := by
 go_enter Tryz.func91, Tryz.ntmps91
 go_wp2
 go_ret
 exact ⟨rfl, (Below.refl _ _).alloc (Nat.le_refl _) _⟩
theorem khx (o a b c n : Int) (S : ByteArray) (w : World) (hs : S.toList = []) (h2 : 0 <= n) (h3 : n <= 0) (g1 : (o == 1) = false) (g2 : (o == 2) = false) (g25 : (o == 25) = false) (g3 : (o == 3) = false) (g27 : (o == 27) = false) (r1 : 1 <= o) (r2 : 28 < o) : Calls Tryz.prog 91 #[.agg #[.int .i64 o, .int .i64 a, .int .i64 b, .int .i64 c, .int .i64 n, .string S]] w fun e w' => e = .returned (.bool false) /\ Below w.heap.size w w' := by
 go_enter Tryz.func91, Tryz.ntmps91
 go_wp2
 go_ret
 exact ⟨rfl, (Below.refl _ _).alloc (Nat.le_refl _) _⟩
theorem khv (o a b c n : Int) (S : ByteArray) (w : World) (hs : S.toList = []) (h2 : 0 <= n) (h3 : n <= 0) (g1 : (o == 1) = false) (g2 : (o == 2) = false) (g25 : (o == 25) = false) (g3 : (o == 3) = false) (g27 : (o == 27) = false) (r1 : o < 1) (r2 : o <= 28) : Calls Tryz.prog 91 #[.agg #[.int .i64 o, .int .i64 a, .int .i64 b, .int .i64 c, .int .i64 n, .string S]] w fun e w' => e = .returned (.bool false) /\ Below w.heap.size w w' := by
 go_enter Tryz.func91, Tryz.ntmps91
 go_wp2
 go_ret
 exact ⟨rfl, (Below.refl _ _).alloc (Nat.le_refl _) _⟩
theorem khz (o a b c n : Int) (S : ByteArray) (w : World) (hs : S.toList = []) (h2 : 0 <= n) (h3 : 0 < n) (g1 : (o == 1) = false) (g2 : (o == 2) = false) (g25 : (o == 25) = false) (g3 : (o == 3) = false) (g27 : (o == 27) = false) (r1 : 1 <= o) (r2 : o <= 28) : Calls Tryz.prog 91 #[.agg #[.int .i64 o, .int .i64 a, .int .i64 b, .int .i64 c, .int .i64 n, .string S]] w fun e w' => e = .returned (.bool false) /\ Below w.heap.size w w' := by
 go_enter Tryz.func91, Tryz.ntmps91
 go_wp2
 go_ret
 exact ⟨rfl, (Below.refl _ _).alloc (Nat.le_refl _) _⟩
theorem khA (o a b c n : Int) (S : ByteArray) (w : World) (hs : S.toList = []) (h2 : 0 <= n) (h3 : 0 < n) (g1 : (o == 1) = false) (g2 : (o == 2) = false) (g25 : (o == 25) = false) (g3 : (o == 3) = false) (g27 : (o == 27) = false) (r1 : 1 <= o) (r2 : 28 < o) : Calls Tryz.prog 91 #[.agg #[.int .i64 o, .int .i64 a, .int .i64 b, .int .i64 c, .int .i64 n, .string S]] w fun e w' => e = .returned (.bool false) /\ Below w.heap.size w w' := by
 go_enter Tryz.func91, Tryz.ntmps91
 go_wp2
 go_ret
 exact ⟨rfl, (Below.refl _ _).alloc (Nat.le_refl _) _⟩
theorem khy (o a b c n : Int) (S : ByteArray) (w : World) (hs : S.toList = []) (h2 : 0 <= n) (h3 : 0 < n) (g1 : (o == 1) = false) (g2 : (o == 2) = false) (g25 : (o == 25) = false) (g3 : (o == 3) = false) (g27 : (o == 27) = false) (r1 : o < 1) (r2 : o <= 28) : Calls Tryz.prog 91 #[.agg #[.int .i64 o, .int .i64 a, .int .i64 b, .int .i64 c, .int .i64 n, .string S]] w fun e w' => e = .returned (.bool false) /\ Below w.heap.size w w' := by
 go_enter Tryz.func91, Tryz.ntmps91
 go_wp2
 go_ret
 exact ⟨rfl, (Below.refl _ _).alloc (Nat.le_refl _) _⟩
theorem khC (o a b c n : Int) (S : ByteArray) (w : World) (hs : S.toList = []) (h2 : n < 0) (h3 : n <= 0) (g1 : (o == 1) = false) (g2 : (o == 2) = false) (g25 : (o == 25) = false) (g3 : (o == 3) = false) (g27 : (o == 27) = false) (r1 : 1 <= o) (r2 : o <= 28) : Calls Tryz.prog 91 #[.agg #[.int .i64 o, .int .i64 a, .int .i64 b, .int .i64 c, .int .i64 n, .string S]] w fun e w' => e = .returned (.bool false) /\ Below w.heap.size w w' := by
 go_enter Tryz.func91, Tryz.ntmps91
 go_wp2
 go_ret
 exact ⟨rfl, (Below.refl _ _).alloc (Nat.le_refl _) _⟩
theorem khD (o a b c n : Int) (S : ByteArray) (w : World) (hs : S.toList = []) (h2 : n < 0) (h3 : n <= 0) (g1 : (o == 1) = false) (g2 : (o == 2) = false) (g25 : (o == 25) = false) (g3 : (o == 3) = false) (g27 : (o == 27) = false) (r1 : 1 <= o) (r2 : 28 < o) : Calls Tryz.prog 91 #[.agg #[.int .i64 o, .int .i64 a, .int .i64 b, .int .i64 c, .int .i64 n, .string S]] w fun e w' => e = .returned (.bool false) /\ Below w.heap.size w w' := by
 go_enter Tryz.func91, Tryz.ntmps91
 go_wp2
 go_ret
 exact ⟨rfl, (Below.refl _ _).alloc (Nat.le_refl _) _⟩
theorem khB (o a b c n : Int) (S : ByteArray) (w : World) (hs : S.toList = []) (h2 : n < 0) (h3 : n <= 0) (g1 : (o == 1) = false) (g2 : (o == 2) = false) (g25 : (o == 25) = false) (g3 : (o == 3) = false) (g27 : (o == 27) = false) (r1 : o < 1) (r2 : o <= 28) : Calls Tryz.prog 91 #[.agg #[.int .i64 o, .int .i64 a, .int .i64 b, .int .i64 c, .int .i64 n, .string S]] w fun e w' => e = .returned (.bool false) /\ Below w.heap.size w w' := by
 go_enter Tryz.func91, Tryz.ntmps91
 go_wp2
 go_ret
 exact ⟨rfl, (Below.refl _ _).alloc (Nat.le_refl _) _⟩
theorem khF (o a b c n : Int) (S : ByteArray) (w : World) (hs : ¬ S.toList = []) (h2 : 0 <= n) (h3 : n <= 0) (g1 : (o == 1) = false) (g2 : (o == 2) = false) (g25 : (o == 25) = false) (g3 : (o == 3) = false) (g27 : (o == 27) = false) (r1 : 1 <= o) (r2 : o <= 28) : Calls Tryz.prog 91 #[.agg #[.int .i64 o, .int .i64 a, .int .i64 b, .int .i64 c, .int .i64 n, .string S]] w fun e w' => e = .returned (.bool false) /\ Below w.heap.size w w' := by
 have hs' : (!S.toList.isEmpty) = true := by simp [hs]
 go_enter Tryz.func91, Tryz.ntmps91
 go_wp2
 go_ret
 exact ⟨rfl, (Below.refl _ _).alloc (Nat.le_refl _) _⟩
theorem khG (o a b c n : Int) (S : ByteArray) (w : World) (hs : ¬ S.toList = []) (h2 : 0 <= n) (h3 : n <= 0) (g1 : (o == 1) = false) (g2 : (o == 2) = false) (g25 : (o == 25) = false) (g3 : (o == 3) = false) (g27 : (o == 27) = false) (r1 : 1 <= o) (r2 : 28 < o) : Calls Tryz.prog 91 #[.agg #[.int .i64 o, .int .i64 a, .int .i64 b, .int .i64 c, .int .i64 n, .string S]] w fun e w' => e = .returned (.bool false) /\ Below w.heap.size w w' := by
 have hs' : (!S.toList.isEmpty) = true := by simp [hs]
 go_enter Tryz.func91, Tryz.ntmps91
 go_wp2
 go_ret
 exact ⟨rfl, (Below.refl _ _).alloc (Nat.le_refl _) _⟩
theorem khE (o a b c n : Int) (S : ByteArray) (w : World) (hs : ¬ S.toList = []) (h2 : 0 <= n) (h3 : n <= 0) (g1 : (o == 1) = false) (g2 : (o == 2) = false) (g25 : (o == 25) = false) (g3 : (o == 3) = false) (g27 : (o == 27) = false) (r1 : o < 1) (r2 : o <= 28) : Calls Tryz.prog 91 #[.agg #[.int .i64 o, .int .i64 a, .int .i64 b, .int .i64 c, .int .i64 n, .string S]] w fun e w' => e = .returned (.bool false) /\ Below w.heap.size w w' := by
 have hs' : (!S.toList.isEmpty) = true := by simp [hs]
 go_enter Tryz.func91, Tryz.ntmps91
 go_wp2
 go_ret
 exact ⟨rfl, (Below.refl _ _).alloc (Nat.le_refl _) _⟩
theorem khI (o a b c n : Int) (S : ByteArray) (w : World) (hs : ¬ S.toList = []) (h2 : 0 <= n) (h3 : 0 < n) (g1 : (o == 1) = false) (g2 : (o == 2) = false) (g25 : (o == 25) = false) (g3 : (o == 3) = false) (g27 : (o == 27) = false) (r1 : 1 <= o) (r2 : o <= 28) : Calls Tryz.prog 91 #[.agg #[.int .i64 o, .int .i64 a, .int .i64 b, .int .i64 c, .int .i64 n, .string S]] w fun e w' => e = .returned (.bool false) /\ Below w.heap.size w w' := by
 have hs' : (!S.toList.isEmpty) = true := by simp [hs]
 go_enter Tryz.func91, Tryz.ntmps91
 go_wp2
 go_ret
 exact ⟨rfl, (Below.refl _ _).alloc (Nat.le_refl _) _⟩
theorem khJ (o a b c n : Int) (S : ByteArray) (w : World) (hs : ¬ S.toList = []) (h2 : 0 <= n) (h3 : 0 < n) (g1 : (o == 1) = false) (g2 : (o == 2) = false) (g25 : (o == 25) = false) (g3 : (o == 3) = false) (g27 : (o == 27) = false) (r1 : 1 <= o) (r2 : 28 < o) : Calls Tryz.prog 91 #[.agg #[.int .i64 o, .int .i64 a, .int .i64 b, .int .i64 c, .int .i64 n, .string S]] w fun e w' => e = .returned (.bool false) /\ Below w.heap.size w w' := by
 have hs' : (!S.toList.isEmpty) = true := by simp [hs]
 go_enter Tryz.func91, Tryz.ntmps91
 go_wp2
 go_ret
 exact ⟨rfl, (Below.refl _ _).alloc (Nat.le_refl _) _⟩
theorem khH (o a b c n : Int) (S : ByteArray) (w : World) (hs : ¬ S.toList = []) (h2 : 0 <= n) (h3 : 0 < n) (g1 : (o == 1) = false) (g2 : (o == 2) = false) (g25 : (o == 25) = false) (g3 : (o == 3) = false) (g27 : (o == 27) = false) (r1 : o < 1) (r2 : o <= 28) : Calls Tryz.prog 91 #[.agg #[.int .i64 o, .int .i64 a, .int .i64 b, .int .i64 c, .int .i64 n, .string S]] w fun e w' => e = .returned (.bool false) /\ Below w.heap.size w w' := by
 have hs' : (!S.toList.isEmpty) = true := by simp [hs]
 go_enter Tryz.func91, Tryz.ntmps91
 go_wp2
 go_ret
 exact ⟨rfl, (Below.refl _ _).alloc (Nat.le_refl _) _⟩
theorem khL (o a b c n : Int) (S : ByteArray) (w : World) (hs : ¬ S.toList = []) (h2 : n < 0) (h3 : n <= 0) (g1 : (o == 1) = false) (g2 : (o == 2) = false) (g25 : (o == 25) = false) (g3 : (o == 3) = false) (g27 : (o == 27) = false) (r1 : 1 <= o) (r2 : o <= 28) : Calls Tryz.prog 91 #[.agg #[.int .i64 o, .int .i64 a, .int .i64 b, .int .i64 c, .int .i64 n, .string S]] w fun e w' => e = .returned (.bool false) /\ Below w.heap.size w w' := by
 have hs' : (!S.toList.isEmpty) = true := by simp [hs]
 go_enter Tryz.func91, Tryz.ntmps91
 go_wp2
 go_ret
 exact ⟨rfl, (Below.refl _ _).alloc (Nat.le_refl _) _⟩
theorem khM (o a b c n : Int) (S : ByteArray) (w : World) (hs : ¬ S.toList = []) (h2 : n < 0) (h3 : n <= 0) (g1 : (o == 1) = false) (g2 : (o == 2) = false) (g25 : (o == 25) = false) (g3 : (o == 3) = false) (g27 : (o == 27) = false) (r1 : 1 <= o) (r2 : 28 < o) : Calls Tryz.prog 91 #[.agg #[.int .i64 o, .int .i64 a, .int .i64 b, .int .i64 c, .int .i64 n, .string S]] w fun e w' => e = .returned (.bool false) /\ Below w.heap.size w w' := by
 have hs' : (!S.toList.isEmpty) = true := by simp [hs]
 go_enter Tryz.func91, Tryz.ntmps91
 go_wp2
 go_ret
 exact ⟨rfl, (Below.refl _ _).alloc (Nat.le_refl _) _⟩
theorem khK (o a b c n : Int) (S : ByteArray) (w : World) (hs : ¬ S.toList = []) (h2 : n < 0) (h3 : n <= 0) (g1 : (o == 1) = false) (g2 : (o == 2) = false) (g25 : (o == 25) = false) (g3 : (o == 3) = false) (g27 : (o == 27) = false) (r1 : o < 1) (r2 : o <= 28) : Calls Tryz.prog 91 #[.agg #[.int .i64 o, .int .i64 a, .int .i64 b, .int .i64 c, .int .i64 n, .string S]] w fun e w' => e = .returned (.bool false) /\ Below w.heap.size w w' := by
 have hs' : (!S.toList.isEmpty) = true := by simp [hs]
 go_enter Tryz.func91, Tryz.ntmps91
 go_wp2
 go_ret
 exact ⟨by first | rfl | exact ka1 (by simp <;> omega), (Below.refl _ _).alloc (Nat.le_refl _) _⟩
set_option maxHeartbeats 1600000 in
theorem bears_any (x : Nd) (w : World) : Calls Tryz.prog 91 #[.agg #[.int .i64 x.op, .int .i64 x.a, .int .i64 x.b, .int .i64 x.c, .int .i64 x.n, .string (str x.name)]] w
 fun e w' => e = .returned (.bool (ka8 x.lab)) /\ Below w.heap.size w w' := by
 obtain ⟨o, a, b, c, n, s⟩ := x
 show Calls Tryz.prog 91 #[.agg #[.int .i64 o, .int .i64 a, .int .i64 b, .int .i64 c, .int .i64 n, .string (str s)]] w fun e w' => e = .returned (.bool (ka8 ⟨o, n, s⟩)) /\ Below w.heap.size w w'
 by_cases hs : s = []
 · have hS : (str s).toList = [] := by rw [str_toList]; exact hs
   by_cases q1 : o = 1
   · subst q1
     by_cases h2 : 0 <= n
     · by_cases h3 : n <= 2147483647
       · have h := kiS a b c n (str s) w hS h2 h3; refine h.mono fun e w' ⟨h1, h2⟩ => ⟨h1.trans (ka1 ?_), h2⟩; simp [hs, ka8] <;> omega
       · have h := kiT a b c n (str s) w hS h2 (by omega); refine h.mono fun e w' ⟨h1, h2⟩ => ⟨h1.trans (ka1 ?_), h2⟩; simp [hs, ka8] <;> omega
     · have h := kiU a b c n (str s) w hS (by omega) (by omega); refine h.mono fun e w' ⟨h1, h2⟩ => ⟨h1.trans (ka1 ?_), h2⟩; simp [hs, ka8] <;> omega
   by_cases q2 : o = 2
   · subst q2
     by_cases h2 : 0 <= n
     · by_cases h3 : n <= 1
       · have h := kiM a b c n (str s) w hS h2 h3; refine h.mono fun e w' ⟨h1, h2⟩ => ⟨h1.trans (ka1 ?_), h2⟩; simp [hs, ka8] <;> omega
       · have h := kiN a b c n (str s) w hS h2 (by omega); refine h.mono fun e w' ⟨h1, h2⟩ => ⟨h1.trans (ka1 ?_), h2⟩; simp [hs, ka8] <;> omega
     · have h := kiO a b c n (str s) w hS (by omega) (by omega); refine h.mono fun e w' ⟨h1, h2⟩ => ⟨h1.trans (ka1 ?_), h2⟩; simp [hs, ka8] <;> omega
   by_cases q25 : o = 25
   · subst q25
     by_cases h2 : 0 <= n
     · by_cases h3 : n <= 1000
       · have h := khT a b c n (str s) w hS h2 h3; refine h.mono fun e w' ⟨h1, h2⟩ => ⟨h1.trans (ka1 ?_), h2⟩; simp [hs, ka8] <;> omega
       · have h := khU a b c n (str s) w hS h2 (by omega); refine h.mono fun e w' ⟨h1, h2⟩ => ⟨h1.trans (ka1 ?_), h2⟩; simp [hs, ka8] <;> omega
     · have h := khV a b c n (str s) w hS (by omega) (by omega); refine h.mono fun e w' ⟨h1, h2⟩ => ⟨h1.trans (ka1 ?_), h2⟩; simp [hs, ka8] <;> omega
   by_cases q3 : o = 3
   · subst q3
     by_cases h2 : 0 <= n
     · by_cases h3 : n <= 0
       · have h := kiG a b c n (str s) w hS h2 h3; refine h.mono fun e w' ⟨h1, h2⟩ => ⟨h1.trans (ka1 ?_), h2⟩; simp [hs, ka8] <;> omega
       · have h := kiH a b c n (str s) w hS h2 (by omega); refine h.mono fun e w' ⟨h1, h2⟩ => ⟨h1.trans (ka1 ?_), h2⟩; simp [hs, ka8] <;> omega
     · have h := kiI a b c n (str s) w hS (by omega) (by omega); refine h.mono fun e w' ⟨h1, h2⟩ => ⟨h1.trans (ka1 ?_), h2⟩; simp [hs, ka8] <;> omega
   by_cases q27 : o = 27
   · subst q27
     by_cases h2 : 0 <= n
     · by_cases h3 : n <= 0
       · have h := khN a b c n (str s) w hS h2 h3; refine h.mono fun e w' ⟨h1, h2⟩ => ⟨h1.trans (ka1 ?_), h2⟩; simp [hs, ka8] <;> omega
       · have h := khO a b c n (str s) w hS h2 (by omega); refine h.mono fun e w' ⟨h1, h2⟩ => ⟨h1.trans (ka1 ?_), h2⟩; simp [hs, ka8] <;> omega
     · have h := khP a b c n (str s) w hS (by omega) (by omega); refine h.mono fun e w' ⟨h1, h2⟩ => ⟨h1.trans (ka1 ?_), h2⟩; simp [hs, ka8] <;> omega
   by_cases r1 : 1 <= o
   · by_cases r2 : o <= 28
     · skip
       by_cases h2 : 0 <= n
       · by_cases h3 : n <= 0
         · have h := khw o a b c n (str s) w hS h2 h3 (by simp [q1]) (by simp [q2]) (by simp [q25]) (by simp [q3]) (by simp [q27]) r1 r2; refine h.mono fun e w' ⟨h1, h2⟩ => ⟨h1.trans (ka1 ?_), h2⟩; have eo : (o == 3 || o == 27) = false := (by simp [q3, q27]); simp [hs, ka8, eo, q1, q2, q25, q3, q27, kbe s] <;> (try intros) <;> omega
         · have h := khz o a b c n (str s) w hS h2 (by omega) (by simp [q1]) (by simp [q2]) (by simp [q25]) (by simp [q3]) (by simp [q27]) r1 r2; refine h.mono fun e w' ⟨h1, h2⟩ => ⟨h1.trans (ka1 ?_), h2⟩; have eo : (o == 3 || o == 27) = false := (by simp [q3, q27]); simp [hs, ka8, eo, q1, q2, q25, q3, q27, kbe s] <;> (try intros) <;> omega
       · have h := khC o a b c n (str s) w hS (by omega) (by omega) (by simp [q1]) (by simp [q2]) (by simp [q25]) (by simp [q3]) (by simp [q27]) r1 r2; refine h.mono fun e w' ⟨h1, h2⟩ => ⟨h1.trans (ka1 ?_), h2⟩; have eo : (o == 3 || o == 27) = false := (by simp [q3, q27]); simp [hs, ka8, eo, q1, q2, q25, q3, q27, kbe s] <;> (try intros) <;> omega
     · skip
       by_cases h2 : 0 <= n
       · by_cases h3 : n <= 0
         · have h := khx o a b c n (str s) w hS h2 h3 (by simp [q1]) (by simp [q2]) (by simp [q25]) (by simp [q3]) (by simp [q27]) r1 (by omega); refine h.mono fun e w' ⟨h1, h2⟩ => ⟨h1.trans (ka1 ?_), h2⟩; have eo : (o == 3 || o == 27) = false := (by simp [q3, q27]); simp [hs, ka8, eo, q1, q2, q25, q3, q27, kbe s] <;> (try intros) <;> omega
         · have h := khA o a b c n (str s) w hS h2 (by omega) (by simp [q1]) (by simp [q2]) (by simp [q25]) (by simp [q3]) (by simp [q27]) r1 (by omega); refine h.mono fun e w' ⟨h1, h2⟩ => ⟨h1.trans (ka1 ?_), h2⟩; have eo : (o == 3 || o == 27) = false := (by simp [q3, q27]); simp [hs, ka8, eo, q1, q2, q25, q3, q27, kbe s] <;> (try intros) <;> omega
       · have h := khD o a b c n (str s) w hS (by omega) (by omega) (by simp [q1]) (by simp [q2]) (by simp [q25]) (by simp [q3]) (by simp [q27]) r1 (by omega); refine h.mono fun e w' ⟨h1, h2⟩ => ⟨h1.trans (ka1 ?_), h2⟩; have eo : (o == 3 || o == 27) = false := (by simp [q3, q27]); simp [hs, ka8, eo, q1, q2, q25, q3, q27, kbe s] <;> (try intros) <;> omega
   · skip
     by_cases h2 : 0 <= n
     · by_cases h3 : n <= 0
       · have h := khv o a b c n (str s) w hS h2 h3 (by simp [q1]) (by simp [q2]) (by simp [q25]) (by simp [q3]) (by simp [q27]) (by omega) (by omega); refine h.mono fun e w' ⟨h1, h2⟩ => ⟨h1.trans (ka1 ?_), h2⟩; have eo : (o == 3 || o == 27) = false := (by simp [q3, q27]); simp [hs, ka8, eo, q1, q2, q25, q3, q27, kbe s] <;> (try intros) <;> omega
       · have h := khy o a b c n (str s) w hS h2 (by omega) (by simp [q1]) (by simp [q2]) (by simp [q25]) (by simp [q3]) (by simp [q27]) (by omega) (by omega); refine h.mono fun e w' ⟨h1, h2⟩ => ⟨h1.trans (ka1 ?_), h2⟩; have eo : (o == 3 || o == 27) = false := (by simp [q3, q27]); simp [hs, ka8, eo, q1, q2, q25, q3, q27, kbe s] <;> (try intros) <;> omega
     · have h := khB o a b c n (str s) w hS (by omega) (by omega) (by simp [q1]) (by simp [q2]) (by simp [q25]) (by simp [q3]) (by simp [q27]) (by omega) (by omega); refine h.mono fun e w' ⟨h1, h2⟩ => ⟨h1.trans (ka1 ?_), h2⟩; have eo : (o == 3 || o == 27) = false := (by simp [q3, q27]); simp [hs, ka8, eo, q1, q2, q25, q3, q27, kbe s] <;> (try intros) <;> omega
 · have hS : ¬ (str s).toList = [] := by rw [str_toList]; exact hs
   by_cases q1 : o = 1
   · subst q1
     by_cases h2 : 0 <= n
     · by_cases h3 : n <= 2147483647
       · have h := kiV a b c n (str s) w hS h2 h3; refine h.mono fun e w' ⟨h1, h2⟩ => ⟨h1.trans (ka1 ?_), h2⟩; simp [hs, ka8] <;> omega
       · have h := kiW a b c n (str s) w hS h2 (by omega); refine h.mono fun e w' ⟨h1, h2⟩ => ⟨h1.trans (ka1 ?_), h2⟩; simp [hs, ka8] <;> omega
     · have h := kiX a b c n (str s) w hS (by omega) (by omega); refine h.mono fun e w' ⟨h1, h2⟩ => ⟨h1.trans (ka1 ?_), h2⟩; simp [hs, ka8] <;> omega
   by_cases q2 : o = 2
   · subst q2
     by_cases h2 : 0 <= n
     · by_cases h3 : n <= 1
       · have h := kiP a b c n (str s) w hS h2 h3; refine h.mono fun e w' ⟨h1, h2⟩ => ⟨h1.trans (ka1 ?_), h2⟩; simp [hs, ka8] <;> omega
       · have h := kiQ a b c n (str s) w hS h2 (by omega); refine h.mono fun e w' ⟨h1, h2⟩ => ⟨h1.trans (ka1 ?_), h2⟩; simp [hs, ka8] <;> omega
     · have h := kiR a b c n (str s) w hS (by omega) (by omega); refine h.mono fun e w' ⟨h1, h2⟩ => ⟨h1.trans (ka1 ?_), h2⟩; simp [hs, ka8] <;> omega
   by_cases q25 : o = 25
   · subst q25
     by_cases h2 : 0 <= n
     · by_cases h3 : n <= 1000
       · have h := khW a b c n (str s) w hS h2 h3; refine h.mono fun e w' ⟨h1, h2⟩ => ⟨h1.trans (ka1 ?_), h2⟩; simp [hs, ka8] <;> omega
       · have h := khX a b c n (str s) w hS h2 (by omega); refine h.mono fun e w' ⟨h1, h2⟩ => ⟨h1.trans (ka1 ?_), h2⟩; simp [hs, ka8] <;> omega
     · have h := khY a b c n (str s) w hS (by omega) (by omega); refine h.mono fun e w' ⟨h1, h2⟩ => ⟨h1.trans (ka1 ?_), h2⟩; simp [hs, ka8] <;> omega
   by_cases q3 : o = 3
   · subst q3
     by_cases h2 : 0 <= n
     · by_cases h3 : n <= 0
       · have h := kiJ a b c n (str s) w hS h2 h3; refine h.mono fun e w' ⟨h1, h2⟩ => ⟨h1.trans (ka1 ?_), h2⟩; simp [hs, ka8] <;> omega
       · have h := kiK a b c n (str s) w hS h2 (by omega); refine h.mono fun e w' ⟨h1, h2⟩ => ⟨h1.trans (ka1 ?_), h2⟩; simp [hs, ka8] <;> omega
     · have h := kiL a b c n (str s) w hS (by omega) (by omega); refine h.mono fun e w' ⟨h1, h2⟩ => ⟨h1.trans (ka1 ?_), h2⟩; simp [hs, ka8] <;> omega
   by_cases q27 : o = 27
   · subst q27
     by_cases h2 : 0 <= n
     · by_cases h3 : n <= 0
       · have h := khQ a b c n (str s) w hS h2 h3; refine h.mono fun e w' ⟨h1, h2⟩ => ⟨h1.trans (ka1 ?_), h2⟩; simp [hs, ka8] <;> omega
       · have h := khR a b c n (str s) w hS h2 (by omega); refine h.mono fun e w' ⟨h1, h2⟩ => ⟨h1.trans (ka1 ?_), h2⟩; simp [hs, ka8] <;> omega
     · have h := khS a b c n (str s) w hS (by omega) (by omega); refine h.mono fun e w' ⟨h1, h2⟩ => ⟨h1.trans (ka1 ?_), h2⟩; simp [hs, ka8] <;> omega
   by_cases r1 : 1 <= o
   · by_cases r2 : o <= 28
     · skip
       by_cases h2 : 0 <= n
       · by_cases h3 : n <= 0
         · have h := khF o a b c n (str s) w hS h2 h3 (by simp [q1]) (by simp [q2]) (by simp [q25]) (by simp [q3]) (by simp [q27]) r1 r2; refine h.mono fun e w' ⟨h1, h2⟩ => ⟨h1.trans (ka1 ?_), h2⟩; have eo : (o == 3 || o == 27) = false := (by simp [q3, q27]); simp [hs, ka8, eo, q1, q2, q25, q3, q27, kbe s] <;> (try intros) <;> omega
         · have h := khI o a b c n (str s) w hS h2 (by omega) (by simp [q1]) (by simp [q2]) (by simp [q25]) (by simp [q3]) (by simp [q27]) r1 r2; refine h.mono fun e w' ⟨h1, h2⟩ => ⟨h1.trans (ka1 ?_), h2⟩; have eo : (o == 3 || o == 27) = false := (by simp [q3, q27]); simp [hs, ka8, eo, q1, q2, q25, q3, q27, kbe s] <;> (try intros) <;> omega
       · have h := khL o a b c n (str s) w hS (by omega) (by omega) (by simp [q1]) (by simp [q2]) (by simp [q25]) (by simp [q3]) (by simp [q27]) r1 r2; refine h.mono fun e w' ⟨h1, h2⟩ => ⟨h1.trans (ka1 ?_), h2⟩; have eo : (o == 3 || o == 27) = false := (by simp [q3, q27]); simp [hs, ka8, eo, q1, q2, q25, q3, q27, kbe s] <;> (try intros) <;> omega
     · skip
       by_cases h2 : 0 <= n
       · by_cases h3 : n <= 0
         · have h := khG o a b c n (str s) w hS h2 h3 (by simp [q1]) (by simp [q2]) (by simp [q25]) (by simp [q3]) (by simp [q27]) r1 (by omega); refine h.mono fun e w' ⟨h1, h2⟩ => ⟨h1.trans (ka1 ?_), h2⟩; have eo : (o == 3 || o == 27) = false := (by simp [q3, q27]); simp [hs, ka8, eo, q1, q2, q25, q3, q27, kbe s] <;> (try intros) <;> omega
         · have h := khJ o a b c n (str s) w hS h2 (by omega) (by simp [q1]) (by simp [q2]) (by simp [q25]) (by simp [q3]) (by simp [q27]) r1 (by omega); refine h.mono fun e w' ⟨h1, h2⟩ => ⟨h1.trans (ka1 ?_), h2⟩; have eo : (o == 3 || o == 27) = false := (by simp [q3, q27]); simp [hs, ka8, eo, q1, q2, q25, q3, q27, kbe s] <;> (try intros) <;> omega
       · have h := khM o a b c n (str s) w hS (by omega) (by omega) (by simp [q1]) (by simp [q2]) (by simp [q25]) (by simp [q3]) (by simp [q27]) r1 (by omega); refine h.mono fun e w' ⟨h1, h2⟩ => ⟨h1.trans (ka1 ?_), h2⟩; have eo : (o == 3 || o == 27) = false := (by simp [q3, q27]); simp [hs, ka8, eo, q1, q2, q25, q3, q27, kbe s] <;> (try intros) <;> omega
   · skip
     by_cases h2 : 0 <= n
     · by_cases h3 : n <= 0
       · have h := khE o a b c n (str s) w hS h2 h3 (by simp [q1]) (by simp [q2]) (by simp [q25]) (by simp [q3]) (by simp [q27]) (by omega) (by omega); refine h.mono fun e w' ⟨h1, h2⟩ => ⟨h1.trans (ka1 ?_), h2⟩; have eo : (o == 3 || o == 27) = false := (by simp [q3, q27]); simp [hs, ka8, eo, q1, q2, q25, q3, q27, kbe s] <;> (try intros) <;> omega
       · have h := khH o a b c n (str s) w hS h2 (by omega) (by simp [q1]) (by simp [q2]) (by simp [q25]) (by simp [q3]) (by simp [q27]) (by omega) (by omega); refine h.mono fun e w' ⟨h1, h2⟩ => ⟨h1.trans (ka1 ?_), h2⟩; have eo : (o == 3 || o == 27) = false := (by simp [q3, q27]); simp [hs, ka8, eo, q1, q2, q25, q3, q27, kbe s] <;> (try intros) <;> omega
     · have h := khK o a b c n (str s) w hS (by omega) (by omega) (by simp [q1]) (by simp [q2]) (by simp [q25]) (by simp [q3]) (by simp [q27]) (by omega) (by omega); refine h.mono fun e w' ⟨h1, h2⟩ => ⟨h1.trans (ka1 ?_), h2⟩; have eo : (o == 3 || o == 27) = false := (by simp [q3, q27]); simp [hs, ka8, eo, q1, q2, q25, q3, q27, kbe s] <;> (try intros) <;> omega
end Go.Proofs.YtlhcajhgbkgjbaaGreatDoor.Tr

