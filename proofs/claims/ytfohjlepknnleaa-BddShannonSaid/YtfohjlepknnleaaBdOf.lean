/- The document's tables: with a variable set. Conditions: at most 20 variables. -/
import Derived.Test.YtfohjlepknnleaaBdOe
namespace Go.Proofs.Ytfohjlepknnleaa.Bd
open Go.ChangeShapes Go.WideShapes Go.ChangeAt Go.RowKit Go.IntWalk
set_option linter.unusedVariables false
set_option linter.unusedSimpArgs false

set_option maxRecDepth 100000 in
set_option maxHeartbeats 1600000 in
theorem rrestrict_any (w : World) (v : Value) (l : List Bool) (n vars j : Nat) (b : Bool) (hv : vars ≤ 20) (hj : j < vars) (hn : 2 ^ vars = n) (a : BoolsAt w v l) (e1 : l.length = n) :
    Calls Try.prog 28 #[v, .int .i64 (vars : Int), .int .i64 (j : Int), .bool b] w (MadeB w ((List.range n).map (fun k => l.getD (setRow vars k j b) false))) := by
  have hn20 : n ≤ 1048576 := by rw [← hn]; exact Nat.pow_le_pow_right (by omega) hv
  have HDG : Hid (∀ W k, k < n → Calls Try.prog 44 #[.int .i64 (k : Int), .int .i64 (j : Int), .int .i64 (vars : Int)] W (fun e w' => e = .returned (.bool (rowF vars k j)) ∧ w' = W)) := Lib.hid (fun W k hk => digit_any W vars k j (by omega) hj (by rw [hn]; exact hk))
  have hmk := run_make_row' (P := Try.prog) 29 4 (.bool false) 1 Try.underlying29 infoB rfl .i64 .i64 n (by omega) (by omega)
  obtain ⟨w1, hw1⟩ : ∃ W, w.alloc (.cells (madeCells #[.bool false] n) 4) = W := ⟨_, rfl⟩
  obtain ⟨gg, hgg⟩ : ∃ g : Nat → Bool, (fun k => l.getD (setRow vars k j b) false) = g := ⟨_, rfl⟩
  obtain ⟨hr1, hb1⟩ := RowB.made gg hw1
  have HA : Hid (∀ W, Below w.heap.size w W → BoolsAt W v l) := Lib.hid (fun W hb => a.below hb)
  obtain ⟨A, c, rfl⟩ := a.form
  have HL := Lib.hid e1
  rw [e1] at HA ⊢
  rw [hgg, ← fillR_all]
  have HG := Lib.hid hgg
  have HR1 := Lib.hid hr1
  have HB1 := Lib.hid hb1
  have HW1 := Lib.hid hw1
  obtain ⟨m, hm⟩ : ∃ m, 2 ^ (vars - 1 - j) = m := ⟨_, rfl⟩
  have hm20 : m ≤ 1048576 := by rw [← hm]; exact Nat.le_trans (Nat.pow_le_pow_right (by omega) (by omega)) (Nat.le_refl (2 ^ 20))
  have hw : wrap64 ((2 : Int) ^ (vars - 1 - j)) = (m : Int) := by
    have : ((2 : Int) ^ (vars - 1 - j)) = ((2 ^ (vars - 1 - j) : Nat) : Int) := by simp
    rw [this, hm]
    exact wrap64_in _ ⟨by omega, by omega⟩
  have HST : Hid (∀ k, k < n → setRow vars k j b < n ∧ setRow vars k j b = (if rowF vars k j = b then k else if b then k + m else k - m) ∧ (rowF vars k j = true → m ≤ k)) := Lib.hid (fun k hk => by
    refine ⟨by rw [← hn]; exact (set_row (by rw [hn]; exact hk) hj).1, by unfold setRow; rw [hm], fun h => ?_⟩
    rw [rowF_at hj] at h
    rw [← hm]
    exact Nat.ge_two_pow_of_testBit h)
  have hsub : ((vars : Int) - 1 - (j : Int)) = ((vars - 1 - j : Nat) : Int) := by omega
  clear a e1 hn hr1 hb1 hw1 hgg
  go_enter Try.func28, Try.ntmps28
  go_wp2_with fail
  rw [HW1.out, hw]
  clear hw hsub
  go_loopw [11] (fun vi wr => ∃ k : Nat, k ≤ n ∧ vi = .int .i64 (k : Int) ∧ RowB wr w.heap.size (fillR n gg k) ∧ Below w.heap.size w wr) (fun vi _ => n - intV vi)
  case atStart => exact ⟨0, Nat.zero_le _, rfl, HR1.out, HB1.out⟩
  case round =>
    obtain ⟨k, hk, rfl, hr, hb⟩ := hrel
    by_cases hkn : k < n
    · obtain ⟨x, qa, qf⟩ : ∃ x, wr.cell? ⟨w.heap.size, k, none⟩ = some (.bool x) ∧ wr.frozen? ⟨w.heap.size, k, none⟩ = false := ⟨_, hr.at (i := k) (by rw [fillR_len]; exact hkn)⟩
      obtain ⟨hs1, hs2, hs3⟩ := HST.out k hkn
      have hc := HDG.out wr k hkn
      obtain ⟨d, hd⟩ : ∃ d, rowF vars k j = d := ⟨_, rfl⟩
      rw [hd] at hs2 hs3 hc
      have HC := Lib.hid hc
      clear hc hd
      cases d <;> cases b
      · have ht2 : setRow vars k j false = k := by rw [hs2]; rfl
        obtain ⟨g, o, rfl, q1⟩ := (HA.out wr hb).cell HL.out (i := k) (by first | exact htl | exact hkn)
        obtain ⟨y, hy⟩ : ∃ y, l.getD k false = y := ⟨_, rfl⟩
        rw [hy] at q1
        have hgk : gg k = y := by rw [← HG.out]; show l.getD (setRow vars k j false) false = y; rw [ht2]; exact hy
        have HE : Hid (RowB (wr.setCell ⟨w.heap.size, k, none⟩ (.bool y)) w.heap.size (fillR n gg (k + 1)) ∧ Below w.heap.size w (wr.setCell ⟨w.heap.size, k, none⟩ (.bool y))) := Lib.hid ⟨by rw [← fillR_set hkn, hgk]; exact hr.set k _, hb.setCell (Nat.le_refl _) _⟩
        clear hr hb hs1 hs2 hs3 hgk hy ht2
        go_wp2_with fail
        refine HC.out.mono ?_
        rintro e w' ⟨rfl, hw'⟩
        subst hw'
        go_wp2_with fail
        go_roundw
        case rel => exact ⟨k + 1, by omega, by go_num, HE.out.1, HE.out.2⟩
        case measure => simp [intV]; omega
      · have ht2 : setRow vars k j true = (k + m) := by rw [hs2]; rfl
        have htl : k + m < n := by rw [hs2] at hs1; simpa using hs1
        have had : IntKind.i64.wrap ((k : Int) + (m : Int)) = ((k + m : Nat) : Int) := by rw [IntWalk.i64_in _ ⟨by omega, by omega⟩]; omega
        obtain ⟨g, o, rfl, q1⟩ := (HA.out wr hb).cell HL.out (i := (k + m)) (by first | exact htl | exact hkn)
        obtain ⟨y, hy⟩ : ∃ y, l.getD (k + m) false = y := ⟨_, rfl⟩
        rw [hy] at q1
        have hgk : gg k = y := by rw [← HG.out]; show l.getD (setRow vars k j true) false = y; rw [ht2]; exact hy
        have HE : Hid (RowB (wr.setCell ⟨w.heap.size, k, none⟩ (.bool y)) w.heap.size (fillR n gg (k + 1)) ∧ Below w.heap.size w (wr.setCell ⟨w.heap.size, k, none⟩ (.bool y))) := Lib.hid ⟨by rw [← fillR_set hkn, hgk]; exact hr.set k _, hb.setCell (Nat.le_refl _) _⟩
        clear hr hb hs1 hs2 hs3 hgk hy ht2
        go_wp2_with fail
        refine HC.out.mono ?_
        rintro e w' ⟨rfl, hw'⟩
        subst hw'
        go_wp2_with fail
        go_roundw
        case rel => exact ⟨k + 1, by omega, by go_num, HE.out.1, HE.out.2⟩
        case measure => simp [intV]; omega
      · have ht2 : setRow vars k j false = (k - m) := by rw [hs2]; rfl
        have hmk2 := hs3 rfl
        have had : ((k : Int) - (m : Int)) = ((k - m : Nat) : Int) := by omega
        have htl : k - m < n := by omega
        obtain ⟨g, o, rfl, q1⟩ := (HA.out wr hb).cell HL.out (i := (k - m)) (by first | exact htl | exact hkn)
        obtain ⟨y, hy⟩ : ∃ y, l.getD (k - m) false = y := ⟨_, rfl⟩
        rw [hy] at q1
        have hgk : gg k = y := by rw [← HG.out]; show l.getD (setRow vars k j false) false = y; rw [ht2]; exact hy
        have HE : Hid (RowB (wr.setCell ⟨w.heap.size, k, none⟩ (.bool y)) w.heap.size (fillR n gg (k + 1)) ∧ Below w.heap.size w (wr.setCell ⟨w.heap.size, k, none⟩ (.bool y))) := Lib.hid ⟨by rw [← fillR_set hkn, hgk]; exact hr.set k _, hb.setCell (Nat.le_refl _) _⟩
        clear hr hb hs1 hs2 hs3 hgk hy ht2
        go_wp2_with fail
        refine HC.out.mono ?_
        rintro e w' ⟨rfl, hw'⟩
        subst hw'
        go_wp2_with fail
        go_roundw
        case rel => exact ⟨k + 1, by omega, by go_num, HE.out.1, HE.out.2⟩
        case measure => simp [intV]; omega
      · have ht2 : setRow vars k j true = k := by rw [hs2]; rfl
        obtain ⟨g, o, rfl, q1⟩ := (HA.out wr hb).cell HL.out (i := k) (by first | exact htl | exact hkn)
        obtain ⟨y, hy⟩ : ∃ y, l.getD k false = y := ⟨_, rfl⟩
        rw [hy] at q1
        have hgk : gg k = y := by rw [← HG.out]; show l.getD (setRow vars k j true) false = y; rw [ht2]; exact hy
        have HE : Hid (RowB (wr.setCell ⟨w.heap.size, k, none⟩ (.bool y)) w.heap.size (fillR n gg (k + 1)) ∧ Below w.heap.size w (wr.setCell ⟨w.heap.size, k, none⟩ (.bool y))) := Lib.hid ⟨by rw [← fillR_set hkn, hgk]; exact hr.set k _, hb.setCell (Nat.le_refl _) _⟩
        clear hr hb hs1 hs2 hs3 hgk hy ht2
        go_wp2_with fail
        refine HC.out.mono ?_
        rintro e w' ⟨rfl, hw'⟩
        subst hw'
        go_wp2_with fail
        go_roundw
        case rel => exact ⟨k + 1, by omega, by go_num, HE.out.1, HE.out.2⟩
        case measure => simp [intV]; omega
    · obtain rfl : k = n := by omega
      have HE : Hid (RowB wr w.heap.size (fillR k gg k) ∧ Below w.heap.size w wr) := Lib.hid ⟨hr, hb⟩
      clear hr hb
      go_wp2_with fail
      refine bodyPost_ret (v := .slice (some ⟨w.heap.size, 0, none⟩) k k) (by simp [results, Try.results28, go_sem]) rfl ⟨by rw [fillR_len], HE.out.1, HE.out.2⟩
end Go.Proofs.Ytfohjlepknnleaa.Bd
