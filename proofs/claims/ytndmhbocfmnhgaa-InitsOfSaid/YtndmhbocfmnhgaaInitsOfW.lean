/- InitsOf: the walk. Conditions: none. -/
import Derived.Test.YtndmhbocfmnhgaaQb05
namespace Go.Proofs.Ytndmhbocfmnhgaa.initsOf
open Go.ChangeShapes Go.WideShapes Go.ChangeAt Go.RowKit Go.Proofs.Ytndmhbocfmnhgaa.Tr
open Go.Proofs.Ytndmhbocfmnhgaa.In (ofM inT live_any of_any rof_any NodePost of_lit)
set_option linter.unusedVariables false
set_option linter.unusedSimpArgs false

set_option maxRecDepth 100000 in
set_option maxHeartbeats 4000000 in
theorem walk (w : World) (v : Value) (e : List Nd) (hv : Nodes w v e) : Calls Try.prog 3 #[v] w fun r w' => r = .returned (.bool true) ∧ Below w.heap.size w w' := by
  have HV := Lib.hid hv
  obtain ⟨A, c, rfl, h1, h2, _⟩ := hv
  unfold maxLen at h2
  by_cases hf : (e.length : Int) ≤ 300
  rotate_left
  · have hd : decide ((300 : Int) < (e.length : Int)) = true := decide_eq_true (by omega)
    have hd' : decide (300 < e.length) = true := decide_eq_true (by omega)
    go_enter Try.func3, Try.ntmps3
    go_wp2_with fail
    refine (live_any _).mono ?_
    rintro r w9 ⟨rfl, hb9⟩
    go_wp2
    go_ret
    exact ⟨rfl, hb9⟩
  have hd : decide ((300 : Int) < (e.length : Int)) = false := decide_eq_false (by omega)
  have hd' : decide (300 < e.length) = false := decide_eq_false (by omega)
  obtain ⟨⟨p, q⟩, hpq⟩ : ∃ x, ofM e = x := ⟨_, rfl⟩
  have HPQ := Lib.hid hpq
  have hpp : (p == p) = true := by simp
  have hqq : (q == q) = true := by simp
  clear hpq hf
  go_enter Try.func3, Try.ntmps3
  go_wp2_with fail
  refine (of_lit HV.out HPQ.out).mono ?_
  rintro r w1 ⟨rfl, hb1⟩
  have HB1 := Lib.hid hb1
  have HC := Lib.hid (rof_any _ e w1 (HV.out.below hb1 (Nat.le_refl _)))
  rw [HPQ.out] at HC
  clear hb1
  go_wp2_with fail
  refine HC.out.mono ?_
  rintro r w2 ⟨rfl, hb2⟩
  have HB2 := Lib.hid (HB1.out.trans (hb2.mono HB1.out.size))
  clear hb2
  go_wp2_with fail
  refine (live_any _).mono ?_
  rintro r w9 ⟨rfl, hb9⟩
  go_wp2
  go_ret
  exact ⟨rfl, HB2.out.trans (hb9.mono HB2.out.size)⟩
end Go.Proofs.Ytndmhbocfmnhgaa.initsOf
