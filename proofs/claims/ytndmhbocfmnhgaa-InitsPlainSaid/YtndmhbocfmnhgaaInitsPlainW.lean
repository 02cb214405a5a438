/- InitsPlain: the walk. Conditions: none. -/
import Derived.Test.YtndmhbocfmnhgaaQb05
namespace Go.Proofs.Ytndmhbocfmnhgaa.initsPlain
open Go.ChangeShapes Go.WideShapes Go.ChangeAt Go.RowKit Go.Proofs.Ytndmhbocfmnhgaa.Tr
open Go.Proofs.Ytndmhbocfmnhgaa.In (ofM inT live_any of_any rof_any NodePost of_lit)
set_option linter.unusedVariables false
set_option linter.unusedSimpArgs false

set_option maxRecDepth 100000 in
set_option maxHeartbeats 4000000 in
theorem walk (w : World) (v : Value) (e : List Nd) (hv : Nodes w v e) : Calls Try.prog 6 #[v] w fun r w' => r = .returned (.bool true) ∧ Below w.heap.size w w' := by
  have HV := Lib.hid hv
  obtain ⟨A, c, rfl, h1, h2, hA⟩ := hv
  unfold maxLen at h2
  have HA := Lib.hid hA
  clear hA
  by_cases hf : (e.length : Int) ≤ 300
  rotate_left
  · have hd : decide ((300 : Int) < (e.length : Int)) = true := decide_eq_true (by omega)
    have hd' : decide (300 < e.length) = true := decide_eq_true (by omega)
    go_enter Try.func6, Try.ntmps6
    go_wp2_with fail
    refine (live_any _).mono ?_
    rintro r w9 ⟨rfl, hb9⟩
    go_wp2
    go_ret
    exact ⟨rfl, hb9⟩
  have hd : decide ((300 : Int) < (e.length : Int)) = false := decide_eq_false (by omega)
  have hd' : decide (300 < e.length) = false := decide_eq_false (by omega)
  have hn : e.length ≤ 300 := by omega
  clear hf
  obtain ⟨B, hB⟩ : ∃ B, mayB e = B := ⟨_, rfl⟩
  have HM := Lib.hid hB
  clear hB
  cases B with
  | false =>
    go_enter Try.func6, Try.ntmps6
    go_wp2_with fail
    refine (rmay_lit _ e false _ HV.out HM.out).mono ?_
    rintro r w1 ⟨rfl, hb1⟩
    have HB1 := Lib.hid hb1
    clear hb1
    go_wp2_with fail
    refine (live_any _).mono ?_
    rintro r w9 ⟨rfl, hb9⟩
    go_wp2
    go_ret
    exact ⟨rfl, HB1.out.trans (hb9.mono HB1.out.size)⟩
  | true =>
    go_enter Try.func6, Try.ntmps6
    go_wp2_with fail
    refine (rmay_lit _ e true _ HV.out HM.out).mono ?_
    rintro r w1 ⟨rfl, hb1⟩
    have HB1 := Lib.hid hb1
    have HV1 := Lib.hid (HV.out.below hb1 (Nat.le_refl _))
    have hs1 := hb1.size
    have HA1 : Hid (∀ (i : Nat) (x : Nd), e[i]? = some x → ∃ g o, A = some ⟨g, o, none⟩ ∧ g < w1.heap.size ∧ w1.cell? ⟨g, o + i * 6, none⟩ = some (.int .i64 x.op)) := Lib.hid (fun i x hx => by
      obtain ⟨A', c', hv', -, -, hA'⟩ := HV1.out
      simp only [Value.slice.injEq] at hv'
      obtain ⟨rfl, -, rfl⟩ := hv'
      obtain ⟨g, o, h3, h4, h5, _⟩ := hA' i x hx
      exact ⟨g, o, h3, h4, h5⟩)
    clear hb1
    go_wp2
    go_loop [3] (fun c => ∃ j : Nat, j ≤ e.length ∧ c = .int .i64 j ∧ ∀ i x, i < j → e[i]? = some x → x.op ≠ 21) (fun c => e.length - (intOf c).toNat)
    case atStart => exact ⟨0, Nat.zero_le _, rfl, fun i x hi _ => by omega⟩
    case round =>
      obtain ⟨j, hj, rfl, hno⟩ := hrel
      have HNO := Lib.hid hno
      clear hno
      by_cases hlt : j < e.length
      · obtain ⟨x, hx⟩ : ∃ x, e[j]? = some x := ⟨_, List.getElem?_eq_getElem hlt⟩
        obtain ⟨g, o, rfl, hg, a0⟩ := HA1.out j x hx
        have HX := Lib.hid hx
        clear hx
        obtain ⟨op, hop⟩ : ∃ op, x.op = op := ⟨_, rfl⟩
        rw [hop] at a0
        have HOP := Lib.hid hop
        clear hop
        by_cases h21 : op = 21
        · have b21 : (op == 21) = true := by simpa using h21
          clear h21
          go_wp2_with fail
          refine (live_any _).mono ?_
          rintro r w9 ⟨rfl, hb9⟩
          go_wp2
          go_ret
          exact ⟨rfl, HB1.out.trans (hb9.mono HB1.out.size)⟩
        · have b21 : (op == 21) = false := by simpa using h21
          have HN : Hid (∀ i x, i < j + 1 → e[i]? = some x → x.op ≠ 21) := Lib.hid (fun i y hi hy => by
            by_cases hij : i = j
            · subst hij
              have := HX.out.symm.trans hy
              injection this with this
              rw [← this, HOP.out]; exact h21
            · exact HNO.out i y (by omega) hy)
          clear h21
          go_wp2
          refine ⟨⟨j + 1, by omega, by go_num, HN.out⟩, by simp [intOf]; omega⟩
      · have hje : j = e.length := by omega
        subst hje
        have HOF : Hid (ofM e = (0, 0)) := Lib.hid (by
          have hmay := may_of HM.out
          have h := In.inT_plain (root e) (fun y hy => by
            unfold root at hy
            rw [tree_labs hmay.ahead _ (by have := hmay.pos; omega)] at hy
            obtain ⟨i, hi, rfl⟩ := List.mem_map.1 hy
            have hil : i < e.length := by have := desc_le hmay.ahead _ (by have := hmay.pos; omega) i hi; have := hmay.pos; omega
            exact HNO.out i _ hil (of_getD hil))
          exact In.ofM_some HM.out h)
        go_wp2_with fail
        refine (of_lit HV1.out HOF.out).mono ?_
        rintro r w2 ⟨rfl, hb2⟩
        have HB2 := Lib.hid (HB1.out.trans (hb2.mono HB1.out.size))
        clear hb2
        go_wp2_with fail
        refine (live_any _).mono ?_
        rintro r w9 ⟨rfl, hb9⟩
        go_wp2
        go_ret
        exact ⟨rfl, HB2.out.trans (hb9.mono HB2.out.size)⟩
end Go.Proofs.Ytndmhbocfmnhgaa.initsPlain
