/- The document's questions on an instruction's fields, its number, a register. Conditions: none. -/
import Derived.Test.YtcphjehjdhgheaaKaA
namespace Go.Proofs.Ytcphjehjdhgheaa.Nt
open Go.ChangeShapes Go.WideShapes Go.ChangeAt Go.RowKit Go.Proofs.Ytcphjehjdhgheaa.Tr
set_option linter.unusedVariables false
set_option linter.unusedSimpArgs false

def namedB (op : Int) : Bool := op == 3 || op == 1 || op == 2 || op == 21 || op == 30
def restD (x : Ins6) (m : Int) : Bool := !((decide (m < 1) && x.a != 0) || (decide (m < 2) && x.b != 0) || (decide (m < 3) && x.c != 0)) && ((namedB x.op || x.n == 0) && (x.op != 30 || x.d == 0))
theorem rest_end {w w' : World} {x : Ins6} {m : Int} {b : Bool} (h : restD x m = b) (hb : Below w.heap.size w w') : Ending.returned (.bool b) = .returned (.bool (restD x m)) ∧ Below w.heap.size w w' := ⟨by rw [h], hb⟩
set_option maxRecDepth 100000 in
set_option maxHeartbeats 4000000 in
theorem krest_any (w : World) (x : Ins6) (m : Int) (hm : m = nrd x.op) (hm0 : 0 ≤ m) : Calls Try.prog 66 #[insV x, .int .i64 m] w (fun e w' => e = .returned (.bool (restD x m)) ∧ Below w.heap.size w w') := by
  obtain ⟨o, d, a, b, c, n⟩ := x
  have HNB := Lib.hid (below_new w (.cells #[.int .i64 o, .int .i64 d, .int .i64 a, .int .i64 b, .int .i64 c, .int .i64 n] 112))
  unfold insV
  dsimp only at hm ⊢
  rcases nrd_cs o with rfl | rfl | rfl | rfl | rfl | rfl | ⟨h1, h2, h3, h4, h5, h6, hr⟩
  · have e : m = 0 := hm
    subst e
    by_cases ha : a = 0
    · subst ha
      by_cases hb : b = 0
      · subst hb
        by_cases hc : c = 0
        · subst hc
          have HE : Hid (restD ⟨1, d, 0, 0, 0, n⟩ 0 = true) := Lib.hid (by simp [restD, namedB])
          go_enter Try.func66, Try.ntmps66
          go_wp2
          go_ret
          exact rest_end HE.out HNB.out
        · have kc : (c != 0) = true := by simpa using hc
          have HE : Hid (restD ⟨1, d, 0, 0, c, n⟩ 0 = false) := Lib.hid (by simp [restD, namedB, hc])
          go_enter Try.func66, Try.ntmps66
          go_wp2
          go_ret
          exact rest_end HE.out HNB.out
      · have kb : (b != 0) = true := by simpa using hb
        have HE : Hid (restD ⟨1, d, 0, b, c, n⟩ 0 = false) := Lib.hid (by simp [restD, namedB, hb])
        go_enter Try.func66, Try.ntmps66
        go_wp2
        go_ret
        exact rest_end HE.out HNB.out
    · have ka : (a != 0) = true := by simpa using ha
      have HE : Hid (restD ⟨1, d, a, b, c, n⟩ 0 = false) := Lib.hid (by simp [restD, namedB, ha])
      go_enter Try.func66, Try.ntmps66
      go_wp2
      go_ret
      exact rest_end HE.out HNB.out
  · have e : m = 0 := hm
    subst e
    by_cases ha : a = 0
    · subst ha
      by_cases hb : b = 0
      · subst hb
        by_cases hc : c = 0
        · subst hc
          have HE : Hid (restD ⟨2, d, 0, 0, 0, n⟩ 0 = true) := Lib.hid (by simp [restD, namedB])
          go_enter Try.func66, Try.ntmps66
          go_wp2
          go_ret
          exact rest_end HE.out HNB.out
        · have kc : (c != 0) = true := by simpa using hc
          have HE : Hid (restD ⟨2, d, 0, 0, c, n⟩ 0 = false) := Lib.hid (by simp [restD, namedB, hc])
          go_enter Try.func66, Try.ntmps66
          go_wp2
          go_ret
          exact rest_end HE.out HNB.out
      · have kb : (b != 0) = true := by simpa using hb
        have HE : Hid (restD ⟨2, d, 0, b, c, n⟩ 0 = false) := Lib.hid (by simp [restD, namedB, hb])
        go_enter Try.func66, Try.ntmps66
        go_wp2
        go_ret
        exact rest_end HE.out HNB.out
    · have ka : (a != 0) = true := by simpa using ha
      have HE : Hid (restD ⟨2, d, a, b, c, n⟩ 0 = false) := Lib.hid (by simp [restD, namedB, ha])
      go_enter Try.func66, Try.ntmps66
      go_wp2
      go_ret
      exact rest_end HE.out HNB.out
  · have e : m = 0 := hm
    subst e
    by_cases ha : a = 0
    · subst ha
      by_cases hb : b = 0
      · subst hb
        by_cases hc : c = 0
        · subst hc
          have HE : Hid (restD ⟨3, d, 0, 0, 0, n⟩ 0 = true) := Lib.hid (by simp [restD, namedB])
          go_enter Try.func66, Try.ntmps66
          go_wp2
          go_ret
          exact rest_end HE.out HNB.out
        · have kc : (c != 0) = true := by simpa using hc
          have HE : Hid (restD ⟨3, d, 0, 0, c, n⟩ 0 = false) := Lib.hid (by simp [restD, namedB, hc])
          go_enter Try.func66, Try.ntmps66
          go_wp2
          go_ret
          exact rest_end HE.out HNB.out
      · have kb : (b != 0) = true := by simpa using hb
        have HE : Hid (restD ⟨3, d, 0, b, c, n⟩ 0 = false) := Lib.hid (by simp [restD, namedB, hb])
        go_enter Try.func66, Try.ntmps66
        go_wp2
        go_ret
        exact rest_end HE.out HNB.out
    · have ka : (a != 0) = true := by simpa using ha
      have HE : Hid (restD ⟨3, d, a, b, c, n⟩ 0 = false) := Lib.hid (by simp [restD, namedB, ha])
      go_enter Try.func66, Try.ntmps66
      go_wp2
      go_ret
      exact rest_end HE.out HNB.out
  · have e : m = 0 := hm
    subst e
    by_cases ha : a = 0
    · subst ha
      by_cases hb : b = 0
      · subst hb
        by_cases hc : c = 0
        · subst hc
          have HE : Hid (restD ⟨21, d, 0, 0, 0, n⟩ 0 = true) := Lib.hid (by simp [restD, namedB])
          go_enter Try.func66, Try.ntmps66
          go_wp2
          go_ret
          exact rest_end HE.out HNB.out
        · have kc : (c != 0) = true := by simpa using hc
          have HE : Hid (restD ⟨21, d, 0, 0, c, n⟩ 0 = false) := Lib.hid (by simp [restD, namedB, hc])
          go_enter Try.func66, Try.ntmps66
          go_wp2
          go_ret
          exact rest_end HE.out HNB.out
      · have kb : (b != 0) = true := by simpa using hb
        have HE : Hid (restD ⟨21, d, 0, b, c, n⟩ 0 = false) := Lib.hid (by simp [restD, namedB, hb])
        go_enter Try.func66, Try.ntmps66
        go_wp2
        go_ret
        exact rest_end HE.out HNB.out
    · have ka : (a != 0) = true := by simpa using ha
      have HE : Hid (restD ⟨21, d, a, b, c, n⟩ 0 = false) := Lib.hid (by simp [restD, namedB, ha])
      go_enter Try.func66, Try.ntmps66
      go_wp2
      go_ret
      exact rest_end HE.out HNB.out
  · have e : m = 1 := hm
    subst e
    by_cases hb : b = 0
    · subst hb
      by_cases hc : c = 0
      · subst hc
        by_cases hd : d = 0
        · subst hd
          have HE : Hid (restD ⟨30, 0, a, 0, 0, n⟩ 1 = true) := Lib.hid (by simp [restD, namedB])
          go_enter Try.func66, Try.ntmps66
          go_wp2
          go_ret
          exact rest_end HE.out HNB.out
        · have kd : (d == 0) = false := by simpa using hd
          have HE : Hid (restD ⟨30, d, a, 0, 0, n⟩ 1 = false) := Lib.hid (by simp [restD, namedB, hd])
          go_enter Try.func66, Try.ntmps66
          go_wp2
          go_ret
          exact rest_end HE.out HNB.out
      · have kc : (c != 0) = true := by simpa using hc
        have HE : Hid (restD ⟨30, d, a, 0, c, n⟩ 1 = false) := Lib.hid (by simp [restD, namedB, hc])
        go_enter Try.func66, Try.ntmps66
        go_wp2
        go_ret
        exact rest_end HE.out HNB.out
    · have kb : (b != 0) = true := by simpa using hb
      have HE : Hid (restD ⟨30, d, a, b, c, n⟩ 1 = false) := Lib.hid (by simp [restD, namedB, hb])
      go_enter Try.func66, Try.ntmps66
      go_wp2
      go_ret
      exact rest_end HE.out HNB.out
  · have e : m = 2 := hm
    subst e
    by_cases hc : c = 0
    · subst hc
      by_cases hn : n = 0
      · subst hn
        have HE : Hid (restD ⟨19, d, a, b, 0, 0⟩ 2 = true) := Lib.hid (by simp [restD, namedB])
        go_enter Try.func66, Try.ntmps66
        go_wp2
        go_ret
        exact rest_end HE.out HNB.out
      · have kn : (n == 0) = false := by simpa using hn
        have HE : Hid (restD ⟨19, d, a, b, 0, n⟩ 2 = false) := Lib.hid (by simp [restD, namedB, hn])
        go_enter Try.func66, Try.ntmps66
        go_wp2
        go_ret
        exact rest_end HE.out HNB.out
    · have kc : (c != 0) = true := by simpa using hc
      have HE : Hid (restD ⟨19, d, a, b, c, n⟩ 2 = false) := Lib.hid (by simp [restD, namedB, hc])
      go_enter Try.func66, Try.ntmps66
      go_wp2
      go_ret
      exact rest_end HE.out HNB.out
  · have b1 : (o == 1) = false := by simpa using h1
    have b2 : (o == 2) = false := by simpa using h2
    have b3 : (o == 3) = false := by simpa using h3
    have b4 : (o == 21) = false := by simpa using h4
    have b5 : (o == 30) = false := by simpa using h5
    have b7 : (o != 30) = true := by simpa using h5
    have hmc : m = 1 ∨ m = 2 ∨ m = 3 := by
      have := opnd_cases o
      omega
    clear hr hm
    rcases hmc with rfl | rfl | rfl
    · by_cases hb : b = 0
      · subst hb
        by_cases hc : c = 0
        · subst hc
          by_cases hn : n = 0
          · subst hn
            have HE : Hid (restD ⟨o, d, a, 0, 0, 0⟩ 1 = true) := Lib.hid (by simp [restD, namedB, b1, b2, b3, b4, b5, b7, h1, h2, h3, h4, h5])
            go_enter Try.func66, Try.ntmps66
            go_wp2
            go_ret
            exact rest_end HE.out HNB.out
          · have kn : (n == 0) = false := by simpa using hn
            have HE : Hid (restD ⟨o, d, a, 0, 0, n⟩ 1 = false) := Lib.hid (by simp [restD, namedB, b1, b2, b3, b4, b5, b7, h1, h2, h3, h4, h5, hn])
            go_enter Try.func66, Try.ntmps66
            go_wp2
            go_ret
            exact rest_end HE.out HNB.out
        · have kc : (c != 0) = true := by simpa using hc
          have HE : Hid (restD ⟨o, d, a, 0, c, n⟩ 1 = false) := Lib.hid (by simp [restD, namedB, b1, b2, b3, b4, b5, b7, h1, h2, h3, h4, h5, hc])
          go_enter Try.func66, Try.ntmps66
          go_wp2
          go_ret
          exact rest_end HE.out HNB.out
      · have kb : (b != 0) = true := by simpa using hb
        have HE : Hid (restD ⟨o, d, a, b, c, n⟩ 1 = false) := Lib.hid (by simp [restD, namedB, b1, b2, b3, b4, b5, b7, h1, h2, h3, h4, h5, hb])
        go_enter Try.func66, Try.ntmps66
        go_wp2
        go_ret
        exact rest_end HE.out HNB.out
    · by_cases hc : c = 0
      · subst hc
        by_cases hn : n = 0
        · subst hn
          have HE : Hid (restD ⟨o, d, a, b, 0, 0⟩ 2 = true) := Lib.hid (by simp [restD, namedB, b1, b2, b3, b4, b5, b7, h1, h2, h3, h4, h5])
          go_enter Try.func66, Try.ntmps66
          go_wp2
          go_ret
          exact rest_end HE.out HNB.out
        · have kn : (n == 0) = false := by simpa using hn
          have HE : Hid (restD ⟨o, d, a, b, 0, n⟩ 2 = false) := Lib.hid (by simp [restD, namedB, b1, b2, b3, b4, b5, b7, h1, h2, h3, h4, h5, hn])
          go_enter Try.func66, Try.ntmps66
          go_wp2
          go_ret
          exact rest_end HE.out HNB.out
      · have kc : (c != 0) = true := by simpa using hc
        have HE : Hid (restD ⟨o, d, a, b, c, n⟩ 2 = false) := Lib.hid (by simp [restD, namedB, b1, b2, b3, b4, b5, b7, h1, h2, h3, h4, h5, hc])
        go_enter Try.func66, Try.ntmps66
        go_wp2
        go_ret
        exact rest_end HE.out HNB.out
    · by_cases hn : n = 0
      · subst hn
        have HE : Hid (restD ⟨o, d, a, b, c, 0⟩ 3 = true) := Lib.hid (by simp [restD, namedB, b1, b2, b3, b4, b5, b7, h1, h2, h3, h4, h5])
        go_enter Try.func66, Try.ntmps66
        go_wp2
        go_ret
        exact rest_end HE.out HNB.out
      · have kn : (n == 0) = false := by simpa using hn
        have HE : Hid (restD ⟨o, d, a, b, c, n⟩ 3 = false) := Lib.hid (by simp [restD, namedB, b1, b2, b3, b4, b5, b7, h1, h2, h3, h4, h5, hn])
        go_enter Try.func66, Try.ntmps66
        go_wp2
        go_ret
        exact rest_end HE.out HNB.out
/-- May its number be? -/
def numD (nin : Nat) (slots : Int) (x : Ins6) : Bool :=
  if x.op = 3 then decide (0 ≤ x.n) && decide (x.n < (nin : Int)) else if x.op = 1 then fitsI x.n else if x.op = 2 then x.n == 0 || x.n == 1
  else if x.op = 21 ∨ x.op = 30 then decide (0 ≤ x.n) && decide (x.n < slots) else true
theorem num_rest (nin : Nat) (slots : Int) (x : Ins6) (h : 0 ≤ nrd x.op) : (restD x (nrd x.op) && numD nin slots x) = (restB x && numB nin slots x && (x.op != 30 || x.d == 0)) := by
  have hrest : restD x (nrd x.op) = (restB x && ((namedB x.op || x.n == 0) && (x.op != 30 || x.d == 0))) := by
    unfold restD restB
    rcases nrd_cases x.op with e | e | e | e | e <;> rw [e] at h ⊢
    · omega
    all_goals
      by_cases ha : x.a = 0 <;> by_cases hb : x.b = 0 <;> by_cases hc : x.c = 0 <;> simp [ha, hb, hc, bne, Bool.and_assoc]
  rw [hrest]
  unfold numD numB namedB
  by_cases h3 : x.op = 3
  · simp [h3]
  by_cases h1 : x.op = 1
  · simp [h1]
  by_cases h2 : x.op = 2
  · rw [if_neg h3, if_neg h1, if_pos h2, if_neg h3, if_neg h1, if_pos h2]
    have : (x.n == 0 || x.n == 1) = (decide (0 ≤ x.n) && decide (x.n < 2)) := by
      rw [Bool.eq_iff_iff]; simp; omega
    simp [h2, this]
  by_cases h4 : x.op = 21 ∨ x.op = 30
  · rw [if_neg h3, if_neg h1, if_neg h2, if_pos h4, if_neg h3, if_neg h1, if_neg h2, if_pos h4]
    have : (x.op == 3 || x.op == 1 || x.op == 2 || x.op == 21 || x.op == 30) = true := by rcases h4 with h4 | h4 <;> simp [h4]
    rw [this]
    cases restB x <;> cases (x.op != 30 || x.d == 0) <;> simp
  · rw [if_neg h3, if_neg h1, if_neg h2, if_neg h4, if_neg h3, if_neg h1, if_neg h2, if_neg h4]
    have : (x.op == 3 || x.op == 1 || x.op == 2 || x.op == 21 || x.op == 30) = false := by simp [h3, h1, h2]; omega
    rw [this]
    cases restB x <;> cases (x.op != 30 || x.d == 0) <;> cases (x.n == 0) <;> rfl
set_option maxRecDepth 100000 in
set_option maxHeartbeats 4000000 in
theorem knumber_any (w : World) (iv ov pv : Value) (r s : Int) (x : Ins6) (l : List Int) (hp : Ints w pv l) : Calls Try.prog 67 #[.agg #[iv, .int .i64 r, .int .i64 s, ov, pv], insV x] w (fun e w' => e = .returned (.bool (numD l.length s x)) ∧ Below w.heap.size w w') := by
  obtain ⟨P, pc, rfl, z1, z2⟩ := ints_form hp
  unfold maxLen at z2
  obtain ⟨o, d, a, b, c, n⟩ := x
  have HNB := Lib.hid (below2 w (.cells #[iv, .int .i64 r, .int .i64 s, ov, .slice P l.length pc] 54) (.cells #[.int .i64 o, .int .i64 d, .int .i64 a, .int .i64 b, .int .i64 c, .int .i64 n] 112))
  unfold insV
  dsimp only
  clear hp
  by_cases h3 : o = 3
  · subst h3
    by_cases h0 : 0 ≤ n
    · have d0 : decide ((0 : Int) ≤ n) = true := decide_eq_true h0
      have d1 : ∀ q, q = decide (n < (l.length : Int)) → numD l.length s ⟨3, d, a, b, c, n⟩ = q := fun q e => by rw [e]; unfold numD; rw [if_pos rfl, d0]; rfl
      have HE := Lib.hid (d1 _ rfl)
      clear d1
      go_enter Try.func67, Try.ntmps67
      go_wp2
      go_ret
      exact ⟨ret_bool HE.out.symm, HNB.out⟩
    · have d0 : decide ((0 : Int) ≤ n) = false := decide_eq_false h0
      have HE : Hid (numD l.length s ⟨3, d, a, b, c, n⟩ = false) := Lib.hid (by unfold numD; rw [if_pos rfl, d0]; rfl)
      go_enter Try.func67, Try.ntmps67
      go_wp2
      go_ret
      exact ⟨ret_bool HE.out.symm, HNB.out⟩
  by_cases h1 : o = 1
  · subst h1
    have HF := Lib.hid (fun W => dfits_any n W)
    have HE : Hid (numD l.length s ⟨1, d, a, b, c, n⟩ = fitsI n) := Lib.hid (by unfold numD; rfl)
    go_enter Try.func67, Try.ntmps67
    go_wp2_with (go_at_call 98; with_reducible refine (HF.out _).mono ?_; rintro e w' ⟨rfl, rfl⟩)
    go_ret
    exact ⟨ret_bool HE.out.symm, HNB.out⟩
  by_cases h2 : o = 2
  · subst h2
    by_cases hn : n = 0
    · subst hn
      have HE : Hid (numD l.length s ⟨2, d, a, b, c, 0⟩ = true) := Lib.hid rfl
      go_enter Try.func67, Try.ntmps67
      go_wp2
      go_ret
      exact ⟨ret_bool HE.out.symm, HNB.out⟩
    · have kn : (n == 0) = false := by simpa using hn
      have HE : Hid (numD l.length s ⟨2, d, a, b, c, n⟩ = (n == 1)) := Lib.hid (by unfold numD; show (n == 0 || n == 1) = _; rw [kn]; rfl)
      go_enter Try.func67, Try.ntmps67
      go_wp2
      go_ret
      exact ⟨ret_bool HE.out.symm, HNB.out⟩
  have b3 : (o == 3) = false := by simpa using h3
  have b1 : (o == 1) = false := by simpa using h1
  have b2 : (o == 2) = false := by simpa using h2
  by_cases h4 : o = 21 ∨ o = 30
  · by_cases h0 : 0 ≤ n
    · have d0 : decide ((0 : Int) ≤ n) = true := decide_eq_true h0
      have HE : Hid (numD l.length s ⟨o, d, a, b, c, n⟩ = decide (n < s)) := Lib.hid (by unfold numD; rw [if_neg h3, if_neg h1, if_neg h2, if_pos h4]; show (decide (0 ≤ n) && _) = _; rw [d0]; rfl)
      rcases h4 with rfl | rfl
      all_goals
        go_enter Try.func67, Try.ntmps67
        go_wp2
        go_ret
        exact ⟨ret_bool HE.out.symm, HNB.out⟩
    · have d0 : decide ((0 : Int) ≤ n) = false := decide_eq_false h0
      have HE : Hid (numD l.length s ⟨o, d, a, b, c, n⟩ = false) := Lib.hid (by unfold numD; rw [if_neg h3, if_neg h1, if_neg h2, if_pos h4]; show (decide (0 ≤ n) && _) = _; rw [d0]; rfl)
      rcases h4 with rfl | rfl
      all_goals
        go_enter Try.func67, Try.ntmps67
        go_wp2
        go_ret
        exact ⟨ret_bool HE.out.symm, HNB.out⟩
  · have b4 : (o == 21) = false := by simp; omega
    have b5 : (o == 30) = false := by simp; omega
    have HE : Hid (numD l.length s ⟨o, d, a, b, c, n⟩ = true) := Lib.hid (by unfold numD; rw [if_neg h3, if_neg h1, if_neg h2, if_neg h4])
    go_enter Try.func67, Try.ntmps67
    go_wp2
    go_ret
    exact ⟨ret_bool HE.out.symm, HNB.out⟩
/-- Which numbers are in a list. -/
def hasB (n : Nat) (l : List Int) : List Bool := (List.range n).map fun (k : Nat) => l.contains (k : Int)
theorem has_len (n : Nat) (l : List Int) : (boolsOf (hasB n l)).length = n := by unfold boolsOf hasB; simp
theorem has_at {n : Nat} {l : List Int} {i : Nat} (h : i < n) : (boolsOf (hasB n l))[i]? = some (.bool (l.contains (i : Int))) := by
  unfold boolsOf hasB
  rw [List.getElem?_map, List.getElem?_map, List.getElem?_range h]; rfl
theorem has_set {n : Nat} {l : List Int} {i : Nat} (h : i < n) : (boolsOf (hasB n l)).set i (.bool true) = boolsOf (hasB n (l ++ [(i : Int)])) := by
  refine List.ext_getElem? (fun j => ?_)
  rw [List.getElem?_set, has_len]
  by_cases hj : j < n
  · rw [has_at hj, has_at hj]
    by_cases e : i = j
    · subst e; simp [h]
    · rw [if_neg e]
      congr 2
      have : ¬ ((j : Int) = (i : Int)) := by omega
      simp [this]
  · rw [List.getElem?_eq_none (by rw [has_len]; omega), List.getElem?_eq_none (by rw [has_len]; omega)]
    by_cases e : i = j
    · omega
    · rw [if_neg e]
theorem has_nil (n : Nat) : boolsOf (hasB n []) = (madeCells #[Value.bool false] n).toList := by
  have : hasB n [] = takB n [] := by unfold hasB takB; simp
  rw [this]; exact tak_nil n
def inB (n : Nat) (l : List Int) (k : Int) : Bool := decide (0 ≤ k) && decide (k < (n : Int)) && l.contains k
set_option maxRecDepth 100000 in
set_option maxHeartbeats 4000000 in
theorem kwritten_any (w : World) (b n c : Nat) (A : Option Addr) (l : List Int) (k : Int) (h : w.ownsRow b 4 1 (.slice A n c) n (boolsOf (hasB n l))) (hn : n ≤ 1000000) : Calls Try.prog 68 #[.slice A n c, .int .i64 k] w (fun e w' => e = .returned (.bool (inB n l k)) ∧ Below w.heap.size w w') := by
  have HH := Lib.hid h
  by_cases h0 : 0 ≤ k
  · obtain ⟨i, rfl⟩ : ∃ i : Nat, k = (i : Int) := ⟨k.toNat, by omega⟩
    have d0 : decide ((0 : Int) ≤ (i : Int)) = true := decide_eq_true h0
    by_cases h1 : i < n
    · obtain ⟨-, h2 | ⟨g, cap, cur, e, -⟩⟩ := h
      · have := h2.2; omega
      · have e2 := e
        simp only [Value.slice.injEq] at e2
        obtain ⟨rfl, -, rfl⟩ := e2
        have ct := (HH.out.cellAt i (by omega)).trans (has_at h1)
        have HE : Hid (inB n l (i : Int) = l.contains (i : Int)) := Lib.hid (by unfold inB; rw [d0, decide_eq_true (show (i : Int) < (n : Int) by omega)]; rfl)
        generalize l.contains (i : Int) = q at ct HE
        clear HH e
        go_enter Try.func68, Try.ntmps68
        go_wp2
        go_ret
        exact ⟨ret_bool HE.out.symm, Below.refl _ _⟩
    · have d1 : decide ((i : Int) < (n : Int)) = false := decide_eq_false (by omega)
      have HE : Hid (inB n l (i : Int) = false) := Lib.hid (by unfold inB; rw [d0, d1]; rfl)
      have hni : ¬ (i : Int) < (n : Int) := by omega
      clear HH h
      go_enter Try.func68, Try.ntmps68
      go_wp2
      go_ret
      exact ⟨ret_bool HE.out.symm, Below.refl _ _⟩
  · have d0 : decide ((0 : Int) ≤ k) = false := decide_eq_false h0
    have HE : Hid (inB n l k = false) := Lib.hid (by unfold inB; rw [d0]; rfl)
    clear HH h
    go_enter Try.func68, Try.ntmps68
    go_wp2
    go_ret
    exact ⟨ret_bool HE.out.symm, Below.refl _ _⟩
end Go.Proofs.Ytcphjehjdhgheaa.Nt
