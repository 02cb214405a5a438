/- The walk of BddStrange. Conditions: as it says. -/
import Derived.Test.YtfohjlepknnleaaBdLb
namespace Go.Proofs.Ytfohjlepknnleaa.bddStrange
open Go.ChangeShapes Go.WideShapes Go.ChangeAt Go.RowKit Go.Proofs.Ytfohjlepknnleaa.Bd
set_option linter.unusedVariables false
set_option linter.unusedSimpArgs false

theorem hasB_no {N : Nat} {n : Int} {l : List Int} (hm : n ∈ l) (h : ¬ (0 ≤ n ∧ n < (N : Int))) : hasB N l = false := by
  cases hb : hasB N l with
  | false => rfl
  | true =>
    exfalso
    unfold hasB at hb
    rw [Bool.and_eq_true, List.all_eq_true] at hb
    have := hb.1 n hm
    simp at this
    exact h this
theorem four_new (w : World) (x y z u : Value) (T : TypeId) (w1 : World) (h : w.alloc (.cells #[x, y, z, u] T) = w1) :
    w1.cell? ⟨w.heap.size, 0, none⟩ = some x ∧ w1.cell? ⟨w.heap.size, 1, none⟩ = some y ∧ w1.cell? ⟨w.heap.size, 2, none⟩ = some z ∧ w1.cell? ⟨w.heap.size, 3, none⟩ = some u := by
  subst h
  have h1 := heap_alloc_new w (.cells #[x, y, z, u] T)
  refine ⟨?_, ?_, ?_, ?_⟩ <;> (unfold World.cell?; rw [h1]; rfl)
set_option maxRecDepth 100000 in
set_option maxHeartbeats 8000000 in
theorem walk (w : World) (vars n i : Int) (av : Value) (bs : List Bool) (hat : BoolsAt w av bs) (hmx : bs.length ≤ maxLen) :
    Calls Try.prog 4 #[.agg #[.int .i64 vars, .int .i64 n, .int .i64 i, av]] w (fun e w' => e = .returned (.bool true) ∧ Below w.heap.size w w') := by
  obtain ⟨A, c, rfl⟩ := hat.form
  obtain ⟨m, hm⟩ : ∃ m, bs.length = m := ⟨_, rfl⟩
  have HAT := Lib.hid hat
  rw [hm] at hmx HAT ⊢
  unfold maxLen at hmx
  have HM := Lib.hid hm
  obtain ⟨w1, hw1⟩ : ∃ W, w.alloc (.cells #[.int .i64 vars, .int .i64 n, .int .i64 i, .slice A m c] 42) = W := ⟨_, rfl⟩
  obtain ⟨c0, c1, c2, c3⟩ := four_new _ _ _ _ _ _ _ hw1
  have hb1 : Below w.heap.size w w1 := by rw [← hw1]; exact below_new _ _
  have HB1 := Lib.hid hb1.drew
  have HAT1 := Lib.hid ((HAT.out.below hb1).below (below_drewN (Below.refl _ _) 1))
  have HW1 := Lib.hid hw1
  clear hat hm hw1 hb1
  by_cases hbig : 100 < m
  · have hbi : (100 : Int) < (m : Int) := by omega
    go_enter Try.func4, Try.ntmps4
    go_wp2_with fail
    rw [HW1.out]
    go_region
    go_wp2_with fail
    refine (live_any _).mono ?_
    rintro e w2 ⟨rfl, hb2⟩
    have HEND := Lib.hid (HB1.out.trans (hb2.mono HB1.out.size))
    clear hb2
    go_wp2_with fail
    refine bodyPost_ret (v := .bool true) (by simp [results, Try.results4, go_sem]) rfl ⟨rfl, HEND.out⟩
  · have hbi : ¬ (100 : Int) < (m : Int) := by omega
    by_cases hv : 0 ≤ vars ∧ vars ≤ 30
    · obtain ⟨v, hvv⟩ : ∃ v : Nat, vars = (v : Int) := ⟨vars.toNat, by omega⟩
      subst hvv
      obtain ⟨hv0, hv1⟩ := hv
      have HNEW := Lib.hid (new_ok w1.drew v 100 ⟨by omega, by omega, by omega⟩)
      go_enter Try.func4, Try.ntmps4
      go_wp2_with fail
      rw [HW1.out]
      go_region
      go_wp2_with fail
      refine HNEW.out.mono ?_
      rintro e w2 ⟨hb2, b, rfl, hsa⟩
      have hst := hsa.at (by omega) (by omega) (by simp)
      have HST := Lib.hid hst
      have HBASE := Lib.hid (HB1.out.trans (hb2.mono HB1.out.size))
      have HAT2 := Lib.hid (HAT1.out.below hb2)
      clear hb2 hsa hst HNEW
      by_cases hn : 0 ≤ n ∧ n < 2
      · obtain ⟨k, hk⟩ : ∃ k : Nat, n = (k : Int) := ⟨n.toNat, by omega⟩
        subst hk
        obtain ⟨hn0, hn1⟩ := hn
        have hk2 : k < 2 := by omega
        have HVAL : Hid (Calls Try.prog 14 #[.pointer (some ⟨b, 0, none⟩), .int .i64 (k : Int), .slice A m c] w2 (fun e w' => (∃ (x : Bool) (y : Int), e = .returned (.tuple #[.bool x, .int .i64 y]) ∧ (y == 0) = ((m : Int) == (v : Int))) ∧ Below w2.heap.size w2 w')) := Lib.hid (by
          by_cases hmv : m = v
          · subst hmv
            refine (value_any _ w2 b m 100 _ HST.out k (by simpa using hk2) _ bs HAT2.out HM.out).mono ?_
            rintro e w' ⟨rfl, hb⟩
            exact ⟨⟨_, _, rfl, by simp⟩, hb⟩
          · refine (value_other _ w2 b v 100 _ HST.out k (by simpa using hk2) A m c hmv (by omega)).mono ?_
            rintro e w' ⟨rfl, hb⟩
            exact ⟨⟨_, _, rfl, by simp; omega⟩, hb⟩)
        go_wp2_with fail
        refine HVAL.out.mono ?_
        rintro e w3 ⟨⟨x, y, rfl, hxy⟩, hb3⟩
        have HST3 := Lib.hid (HST.out.below hb3)
        have HB3 := Lib.hid (HBASE.out.trans (hb3.mono HBASE.out.size))
        have hle := st_le HST3.out
        have HVAR : Hid (Calls Try.prog 15 #[.pointer (some ⟨b, 0, none⟩), .int .i64 i] w3 (fun e w' => (∃ (x y : Int), e = .returned (.tuple #[.int .i64 x, .int .i64 y]) ∧ (y == 0) = (decide (0 ≤ i) && decide (i < (v : Int)))) ∧ Below w1.drew.heap.size w3 w')) := Lib.hid (by
          by_cases hi : 0 ≤ i ∧ i < (v : Int)
          · obtain ⟨j, hj⟩ : ∃ j : Nat, i = (j : Int) := ⟨i.toNat, by omega⟩
            subst hj
            refine (var_any _ w3 b v 100 _ HST3.out j (by omega)).mono ?_
            rintro e w' hp
            obtain ⟨m', y, rfl, -, -, -, hb, -⟩ := hp.ok (by simp)
            exact ⟨⟨_, _, rfl, by simp; omega⟩, hb⟩
          · refine (var_bad _ w3 b v 100 _ HST3.out i hi).mono ?_
            rintro e w' ⟨rfl, rfl⟩
            exact ⟨⟨_, _, rfl, by simp; omega⟩, Below.refl _ _⟩)
        clear hb3 hle HVAL
        go_wp2_with fail
        refine HVAR.out.mono ?_
        rintro e w4 ⟨⟨x2, y2, rfl, hxy2⟩, hb4⟩
        have HB4 := Lib.hid (HB3.out.trans (hb4.mono HB1.out.size))
        have HX := Lib.hid hxy
        have HX2 := Lib.hid hxy2
        clear hb4 HVAR hxy hxy2
        rcases Bool.eq_false_or_eq_true ((m : Int) == (v : Int)) with hq | hq <;> rcases Bool.eq_false_or_eq_true (decide (0 ≤ i)) with hi0 | hi0 <;> rcases Bool.eq_false_or_eq_true (decide (i < (v : Int))) with hi1 | hi1
        all_goals try (exfalso; simp only [decide_eq_true_eq, decide_eq_false_iff_not] at hi0 hi1; omega)
        all_goals
          have hx1 := HX.out
          have hx2 := HX2.out
          rw [hq] at hx1
          rw [hi0, hi1] at hx2
          simp only [decide_eq_true_eq, decide_eq_false_iff_not] at hi0 hi1
          simp only [Bool.and_self, Bool.and_true, Bool.true_and, Bool.and_false, Bool.false_and] at hx2
          go_wp2_with fail
          refine (live_any _).mono ?_
          rintro e w5 ⟨rfl, hb5⟩
          have HEND := Lib.hid (HB4.out.trans (hb5.mono HB4.out.size))
          clear hb5
          go_wp2_with fail
          refine bodyPost_ret (v := .bool true) (by first | (simp [results, Try.results4, go_sem]; done) | (simp [results, Try.results4, go_sem]; omega)) rfl ⟨rfl, HEND.out⟩
      · have HNO : Hid (¬ (0 ≤ n ∧ n < (((2 : Nat)) : Int))) := Lib.hid hn
        have HPT : Hid (PtAt w2 (.pointer (some ⟨b, 0, none⟩)) 2) := Lib.hid (st_pt HST.out)
        have hgo : ∀ (Q : Prop), (n < 0 → Q) → (0 ≤ n → ¬ n < 2 → Q) → Q := fun Q q1 q2 => by
          by_cases e : n < 0
          · exact q1 e
          · exact q2 (by omega) (by omega)
        clear hn
        refine hgo _ (fun hn0 => ?_) (fun hn0 hn1 => ?_)
        all_goals
          clear hgo
          have HN3 : Hid (hasB 2 [n, 0, 1] = false) := Lib.hid (hasB_no (by simp) HNO.out)
          have HN2 : Hid (hasB 2 [1, n] = false) := Lib.hid (hasB_no (by simp) HNO.out)
          have HN1 : Hid (hasB 2 [n] = false) := Lib.hid (hasB_no (by simp) HNO.out)
          have H1 := Lib.hid (ite_bad w2 _ _ HPT.out n 0 1 HN3.out)
          go_wp2_with fail
          refine H1.out.mono ?_
          rintro e a1 ⟨rfl, hb1⟩
          have HP1 := Lib.hid (HPT.out.below hb1)
          have HB1 := Lib.hid (HBASE.out.trans (hb1.mono HBASE.out.size))
          have H2 := Lib.hid (not_bad a1 _ _ HP1.out n HN3.out)
          clear hb1 H1
          go_wp2_with fail
          refine H2.out.mono ?_
          rintro e a2 ⟨rfl, hb2⟩
          have HP2 := Lib.hid (HP1.out.below hb2)
          have HB2 := Lib.hid (HB1.out.trans (hb2.mono HB1.out.size))
          obtain ⟨a3, ha3⟩ : ∃ W, a2.alloc (.cells #[.int .i64 1, .int .i64 n] 3) = W := ⟨_, rfl⟩
          have hb3 : Below a2.heap.size a2 a3 := by rw [← ha3]; exact below_new _ _
          have HP3 := Lib.hid (HP2.out.below hb3)
          have HB3 := Lib.hid (HB2.out.trans (hb3.mono HB2.out.size))
          have H3 := Lib.hid (and_bad a3 _ _ _ [1, n] HP3.out (ints_two a2 1 n a3 ha3) (by simp) HN2.out)
          have HA3 := Lib.hid ha3
          clear hb2 hb3 ha3 H2
          go_wp2_with fail
          rw [HA3.out]
          refine H3.out.mono ?_
          rintro e a3' ⟨rfl, hw3⟩
          subst hw3
          obtain ⟨a4, ha4⟩ : ∃ W, a3'.alloc (.cells #[.int .i64 n] 3) = W := ⟨_, rfl⟩
          have hb4 : Below a3'.heap.size a3' a4 := by rw [← ha4]; exact below_new _ _
          have HP4 := Lib.hid (HP3.out.below hb4)
          have HB4 := Lib.hid (HB3.out.trans (hb4.mono HB3.out.size))
          have H4 := Lib.hid (or_bad a4 _ _ _ [n] HP4.out (ints_one a3' n a4 ha4) (by simp) HN1.out)
          have HA4 := Lib.hid ha4
          clear hb4 ha4 H3
          go_wp2_with fail
          rw [HA4.out]
          refine H4.out.mono ?_
          rintro e a4' ⟨rfl, hw4⟩
          subst hw4
          have H5 := Lib.hid (restrict_bad a4' _ _ HP4.out n 0 true HN1.out)
          clear H4
          go_wp2_with fail
          refine H5.out.mono ?_
          rintro e a5 ⟨rfl, hb5⟩
          have HP5 := Lib.hid (HP4.out.below hb5)
          have HB5 := Lib.hid (HB4.out.trans (hb5.mono HB4.out.size))
          have H6 := Lib.hid (value_bad a5 _ _ HP5.out n (.slice A m c) HN1.out)
          clear hb5 H5
          go_wp2_with fail
          refine H6.out.mono ?_
          rintro e a6 ⟨rfl, hb6⟩
          have HP6 := Lib.hid (HP5.out.below hb6)
          have HB6 := Lib.hid (HB5.out.trans (hb6.mono HB5.out.size))
          have H7 := Lib.hid (witness_bad a6 _ _ HP6.out n HN1.out)
          clear hb6 H6
          go_wp2_with fail
          refine H7.out.mono ?_
          rintro e a7 ⟨rfl, hb7⟩
          have HP7 := Lib.hid (HP6.out.below hb7)
          have HB7 := Lib.hid (HB6.out.trans (hb7.mono HB6.out.size))
          have H8 := Lib.hid (count_bad a7 _ _ HP7.out n HN1.out)
          clear hb7 H7
          go_wp2_with fail
          refine H8.out.mono ?_
          rintro e a8 ⟨rfl, hb8⟩
          have HB8 := Lib.hid (HB7.out.trans (hb8.mono HB7.out.size))
          clear hb8 H8
          go_wp2_with fail
          refine (live_any a8).mono ?_
          rintro e a9 ⟨rfl, hb9⟩
          have HEND := Lib.hid (HB8.out.trans (hb9.mono HB8.out.size))
          clear hb9
          go_wp2_with fail
          refine bodyPost_ret (v := .bool true) (by simp [results, Try.results4, go_sem]) rfl ⟨rfl, HEND.out⟩
    · have HNO : Hid (¬ (0 ≤ n ∧ n < (((0 : Nat)) : Int))) := Lib.hid (by omega)
      have HPT : Hid (PtAt w1.drew (.pointer none) 0) := Lib.hid (.inl ⟨rfl, rfl⟩)
      have HNEW := Lib.hid (new_bad w1.drew vars 100 (by omega))
      have HBASE := HB1
      have hgo : ∀ (Q : Prop), (vars < 0 → Q) → (0 ≤ vars → ¬ vars ≤ 30 → Q) → Q := fun Q q1 q2 => by
        by_cases e : vars < 0
        · exact q1 e
        · exact q2 (by omega) (by omega)
      clear hv
      refine hgo _ (fun hv0 => ?_) (fun hv0 hv1 => ?_)
      all_goals
        clear hgo
        go_enter Try.func4, Try.ntmps4
        go_wp2_with fail
        rw [HW1.out]
        go_region
        go_wp2_with fail
        refine HNEW.out.mono ?_
        rintro e w2 ⟨rfl, hw2⟩
        subst hw2
        have HN3 : Hid (hasB 0 [n, 0, 1] = false) := Lib.hid (hasB_no (by simp) HNO.out)
        have HN2 : Hid (hasB 0 [1, n] = false) := Lib.hid (hasB_no (by simp) HNO.out)
        have HN1 : Hid (hasB 0 [n] = false) := Lib.hid (hasB_no (by simp) HNO.out)
        have H1 := Lib.hid (ite_bad w1.drew _ _ HPT.out n 0 1 HN3.out)
        go_wp2_with fail
        refine H1.out.mono ?_
        rintro e a1 ⟨rfl, hb1⟩
        have HP1 := Lib.hid (HPT.out.below hb1)
        have HB1 := Lib.hid (HBASE.out.trans (hb1.mono HBASE.out.size))
        have H2 := Lib.hid (not_bad a1 _ _ HP1.out n HN3.out)
        clear hb1 H1
        go_wp2_with fail
        refine H2.out.mono ?_
        rintro e a2 ⟨rfl, hb2⟩
        have HP2 := Lib.hid (HP1.out.below hb2)
        have HB2 := Lib.hid (HB1.out.trans (hb2.mono HB1.out.size))
        obtain ⟨a3, ha3⟩ : ∃ W, a2.alloc (.cells #[.int .i64 1, .int .i64 n] 3) = W := ⟨_, rfl⟩
        have hb3 : Below a2.heap.size a2 a3 := by rw [← ha3]; exact below_new _ _
        have HP3 := Lib.hid (HP2.out.below hb3)
        have HB3 := Lib.hid (HB2.out.trans (hb3.mono HB2.out.size))
        have H3 := Lib.hid (and_bad a3 _ _ _ [1, n] HP3.out (ints_two a2 1 n a3 ha3) (by simp) HN2.out)
        have HA3 := Lib.hid ha3
        clear hb2 hb3 ha3 H2
        go_wp2_with fail
        rw [HA3.out]
        refine H3.out.mono ?_
        rintro e a3' ⟨rfl, hw3⟩
        subst hw3
        obtain ⟨a4, ha4⟩ : ∃ W, a3'.alloc (.cells #[.int .i64 n] 3) = W := ⟨_, rfl⟩
        have hb4 : Below a3'.heap.size a3' a4 := by rw [← ha4]; exact below_new _ _
        have HP4 := Lib.hid (HP3.out.below hb4)
        have HB4 := Lib.hid (HB3.out.trans (hb4.mono HB3.out.size))
        have H4 := Lib.hid (or_bad a4 _ _ _ [n] HP4.out (ints_one a3' n a4 ha4) (by simp) HN1.out)
        have HA4 := Lib.hid ha4
        clear hb4 ha4 H3
        go_wp2_with fail
        rw [HA4.out]
        refine H4.out.mono ?_
        rintro e a4' ⟨rfl, hw4⟩
        subst hw4
        have H5 := Lib.hid (restrict_bad a4' _ _ HP4.out n 0 true HN1.out)
        clear H4
        go_wp2_with fail
        refine H5.out.mono ?_
        rintro e a5 ⟨rfl, hb5⟩
        have HP5 := Lib.hid (HP4.out.below hb5)
        have HB5 := Lib.hid (HB4.out.trans (hb5.mono HB4.out.size))
        have H6 := Lib.hid (value_bad a5 _ _ HP5.out n (.slice A m c) HN1.out)
        clear hb5 H5
        go_wp2_with fail
        refine H6.out.mono ?_
        rintro e a6 ⟨rfl, hb6⟩
        have HP6 := Lib.hid (HP5.out.below hb6)
        have HB6 := Lib.hid (HB5.out.trans (hb6.mono HB5.out.size))
        have H7 := Lib.hid (witness_bad a6 _ _ HP6.out n HN1.out)
        clear hb6 H6
        go_wp2_with fail
        refine H7.out.mono ?_
        rintro e a7 ⟨rfl, hb7⟩
        have HP7 := Lib.hid (HP6.out.below hb7)
        have HB7 := Lib.hid (HB6.out.trans (hb7.mono HB6.out.size))
        have H8 := Lib.hid (count_bad a7 _ _ HP7.out n HN1.out)
        clear hb7 H7
        go_wp2_with fail
        refine H8.out.mono ?_
        rintro e a8 ⟨rfl, hb8⟩
        have HB8 := Lib.hid (HB7.out.trans (hb8.mono HB7.out.size))
        clear hb8 H8
        go_wp2_with fail
        refine (live_any a8).mono ?_
        rintro e a9 ⟨rfl, hb9⟩
        have HEND := Lib.hid (HB8.out.trans (hb9.mono HB8.out.size))
        clear hb9
        go_wp2_with fail
        refine bodyPost_ret (v := .bool true) (by simp [results, Try.results4, go_sem]) rfl ⟨rfl, HEND.out⟩
end Go.Proofs.Ytfohjlepknnleaa.bddStrange
