/- InitsOrder: the walk. Conditions: none. -/
import Derived.Test.YtndmhbocfmnhgaaQb05
namespace Go.Proofs.Ytndmhbocfmnhgaa.initsOrder
open Go.ChangeShapes Go.WideShapes Go.ChangeAt Go.RowKit Go.Proofs.Ytndmhbocfmnhgaa.Tr
open Go.Proofs.Ytndmhbocfmnhgaa.In (ofM inT live_any of_any rof_any NodePost of_lit)
set_option linter.unusedVariables false
set_option linter.unusedSimpArgs false

set_option maxRecDepth 100000 in
set_option maxHeartbeats 4000000 in
theorem walk (w : World) (v : Value) (e : List Nd) (hv : Nodes w v e) : Calls Try.prog 7 #[v] w fun r w' => r = .returned (.bool true) ∧ Below w.heap.size w w' := by
  have HV := Lib.hid hv
  obtain ⟨A, c, rfl, h1, h2, hA⟩ := hv
  unfold maxLen at h2
  have HA := Lib.hid hA
  clear hA
  by_cases hf : (e.length : Int) ≤ 200
  rotate_left
  · have hd : decide ((200 : Int) < (e.length : Int)) = true := decide_eq_true (by omega)
    have hd' : decide (200 < e.length) = true := decide_eq_true (by omega)
    go_enter Try.func7, Try.ntmps7
    go_wp2_with fail
    refine (live_any _).mono ?_
    rintro r w9 ⟨rfl, hb9⟩
    go_wp2
    go_ret
    exact ⟨rfl, hb9⟩
  have hd : decide ((200 : Int) < (e.length : Int)) = false := decide_eq_false (by omega)
  have hd' : decide (200 < e.length) = false := decide_eq_false (by omega)
  have hn : e.length ≤ 200 := by omega
  clear hf
  obtain ⟨B, hB⟩ : ∃ B, mayB e = B := ⟨_, rfl⟩
  have HM := Lib.hid hB
  clear hB
  cases B with
  | false =>
    go_enter Try.func7, Try.ntmps7
    go_wp2_with fail
    refine (rmay_lit _ e false _ HV.out HM.out).mono ?_
    rintro r w1 ⟨rfl, hb1⟩
    have HB1 := Lib.hid hb1
    clear hb1
    go_wp2_with fail
    refine (live_any _).mono ?_
    rintro r w9 ⟨rfl, hb9⟩
    go_wp2
    go_ret
    exact ⟨rfl, HB1.out.trans (hb9.mono HB1.out.size)⟩
  | true =>
    obtain ⟨⟨p, q⟩, hpq⟩ : ∃ x, ofM e = x := ⟨_, rfl⟩
    have HPQ := Lib.hid hpq
    have HPN := Lib.hid ((In.ofM_norm (may_of HM.out)).trans hpq)
    have hpp : (p != p) = false := by simp
    have hqq : (q != q) = false := by simp
    have HCASE : Hid (q = 11 ∨ (q = 0 ∧ ∃ u, inT (root e) = some u)) := Lib.hid (by
      have := In.ofM_may (may_of HM.out)
      rw [hpq] at this
      cases hr : inT (root e) with
      | none => rw [hr] at this; injection this with _ this; exact .inl this
      | some u => rw [hr] at this; injection this with _ this; exact .inr ⟨this, u, rfl⟩)
    clear hpq
    go_enter Try.func7, Try.ntmps7
    go_wp2_with fail
    refine (rmay_lit _ e true _ HV.out HM.out).mono ?_
    rintro r w1 ⟨rfl, hb1⟩
    have HB1 := Lib.hid hb1
    have HV1 := Lib.hid (HV.out.below hb1 (Nat.le_refl _))
    clear hb1
    go_wp2_with fail
    refine (of_lit HV1.out HPQ.out).mono ?_
    rintro r w2 ⟨rfl, hb2⟩
    have HB2 := Lib.hid (HB1.out.trans (hb2.mono HB1.out.size))
    have HV2 := Lib.hid (HV1.out.below hb2 (Nat.le_refl _))
    clear hb2
    go_wp2_with fail
    refine (rnorm_any _ e _ HV2.out).mono ?_
    rintro r w3 ⟨nv, rfl, hno, hb3⟩
    have HB3 := Lib.hid (HB2.out.trans (hb3.mono HB2.out.size))
    have HV3 := Lib.hid (HV2.out.below hb3 (Nat.le_refl _))
    have HN3 := Lib.hid (Nodes.of_own hno)
    obtain ⟨A3, c3, rfl, -, -, -⟩ := Nodes.of_own hno
    clear hb3 hno
    go_wp2_with fail
    refine (of_lit HN3.out HPN.out).mono ?_
    rintro r w4 ⟨rfl, hb4⟩
    have HB4 := Lib.hid (HB3.out.trans (hb4.mono HB3.out.size))
    have HV4 := Lib.hid (HV3.out.below hb4 (Nat.le_refl _))
    clear hb4
    rcases HCASE.out with rfl | ⟨rfl, u, hu⟩
    · go_wp2
      go_loop [7] (fun c => c = .int .i64 0) (fun c => 0)
      case atStart => rfl
      case round =>
        obtain rfl := hrel
        by_cases hp : 0 < e.length
        · have hdp : decide ((0 : Int) < (e.length : Int)) = true := decide_eq_true (by omega)
          go_wp2_with fail
          refine (live_any _).mono ?_
          rintro r w9 ⟨rfl, hb9⟩
          go_wp2
          go_ret
          exact ⟨rfl, HB4.out.trans (hb9.mono HB4.out.size)⟩
        · have hdp : decide ((0 : Int) < (e.length : Int)) = false := decide_eq_false (by omega)
          go_wp2_with fail
          refine (live_any _).mono ?_
          rintro r w9 ⟨rfl, hb9⟩
          go_wp2
          go_ret
          exact ⟨rfl, HB4.out.trans (hb9.mono HB4.out.size)⟩
    · have HU := Lib.hid hu
      clear hu
      go_wp2
      go_loopw [7] (fun c wr => ∃ j : Nat, j ≤ e.length ∧ c = .int .i64 j ∧ Below w4.heap.size w4 wr) (fun c _ => e.length - (intOf c).toNat)
      case atStart => exact ⟨0, Nat.zero_le _, rfl, Below.refl _ _⟩
      case round =>
        obtain ⟨j, hj, rfl, hb⟩ := hrel
        have HB := Lib.hid hb
        have HVR := Lib.hid (HV4.out.below hb (Nat.le_refl _))
        have hsr := hb.size
        clear hb
        by_cases hlt : j < e.length
        · obtain ⟨x, hx⟩ : ∃ x, e[j]? = some x := ⟨_, List.getElem?_eq_getElem hlt⟩
          obtain ⟨⟨p2, q2⟩, hpq2⟩ : ∃ y, ofM (subM e (j : Int)) = y := ⟨_, rfl⟩
          have HP2 := Lib.hid hpq2
          obtain ⟨op, hop⟩ : ∃ op, x.op = op := ⟨_, rfl⟩
          have HQ2 : Hid (op ≠ 28 → q2 = 0) := Lib.hid (fun h28 => by
            have := In.ofM_part (may_of HM.out) HU.out hlt (by rw [getD_of hx, hop]; exact h28)
            rw [hpq2] at this; exact this)
          have HX := Lib.hid hx
          clear hpq2 hx
          go_wp2_with fail
          refine (rsub_any _ e (j : Int) _ HVR.out).mono ?_
          rintro r w5 ⟨sv, rfl, hso, hb5⟩
          have HB5 := Lib.hid (HB.out.trans (hb5.mono hsr))
          have HV5 := Lib.hid (HVR.out.below hb5 (Nat.le_refl _))
          have HS5 := Lib.hid (Nodes.of_own hso)
          obtain ⟨A5, c5, rfl, -, -, -⟩ := Nodes.of_own hso
          clear hb5 hso
          go_wp2_with fail
          refine (of_lit HS5.out HP2.out).mono ?_
          rintro r w6 ⟨rfl, hb6⟩
          have HB6 := Lib.hid (HB5.out.trans (hb6.mono HB5.out.size))
          have hV6 := HV5.out.below hb6 (Nat.le_refl _)
          obtain ⟨A6, c6, hv6, -, -, hA6⟩ := hV6
          simp only [Value.slice.injEq, true_and] at hv6
          obtain ⟨rfl, rfl⟩ := hv6
          obtain ⟨g, o, rfl, hg, a0, -⟩ := hA6 j x HX.out
          rw [hop] at a0
          have HOP := Lib.hid hop
          clear hb6 hA6 hop
          by_cases h28 : op = 28
          · subst h28
            go_wp2
            refine ⟨⟨j + 1, by omega, by go_num, HB6.out⟩, by simp [intOf]; omega⟩
          · have b28 : (op != 28) = true := by simpa using h28
            obtain rfl := HQ2.out h28
            clear h28
            go_wp2
            refine ⟨⟨j + 1, by omega, by go_num, HB6.out⟩, by simp [intOf]; omega⟩
        · have hje : j = e.length := by omega
          subst hje
          go_wp2_with fail
          refine (live_any _).mono ?_
          rintro r w9 ⟨rfl, hb9⟩
          go_wp2
          go_ret
          exact ⟨rfl, HB4.out.trans ((HB.out.trans (hb9.mono hsr)).mono HB4.out.size)⟩
end Go.Proofs.Ytndmhbocfmnhgaa.initsOrder
