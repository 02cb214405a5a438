/- The walk of FrameBack. Conditions: as it says. -/
import Derived.Test.YtgngdkbcndldfaaDoorFaR
namespace Go.Proofs.YtgngdkbcndldfaaDoor.frameBack
open Go.ChangeShapes Go.WideShapes Go.ChangeAt Go.RowKit Go.Proofs.YtgngdkbcndldfaaDoor.Tr Go.Proofs.YtgngdkbcndldfaaDoor.Fr
set_option linter.unusedVariables false
set_option linter.unusedSimpArgs false
attribute [local go_sem ↓] eql_fault guard_fault
set_option maxRecDepth 100000 in
set_option maxHeartbeats 4000000 in
theorem walk (w : World) (hF : FrAt w) (tv : Value) (ts : List Int) (ht : Ints w tv ts) (rv : Value) (rows : List (List Int)) (hr : RowsR w rv rows) :
    Calls Tryd.prog 5 #[tv, rv] w (fun e w' => e = .returned (.bool true) ∧ Below w.heap.size w w') := by
  obtain ⟨A, c, rfl, z1, z2⟩ := ints_form ht
  obtain ⟨RA, rc, rfl, y1, y2⟩ := hr.form
  have HT := Lib.hid ht
  have HR := Lib.hid hr
  have HF := Lib.hid hF
  obtain ⟨n, hn⟩ : ∃ n, ts.length = n := ⟨_, rfl⟩
  obtain ⟨m, hm⟩ : ∃ n, rows.length = n := ⟨_, rfl⟩
  rw [hn] at HT z1 ⊢
  rw [hm] at HR y1 ⊢
  have HN := Lib.hid hn
  have HM := Lib.hid hm
  unfold maxLen at z2 y2
  clear ht hn hr hm hF
  have HLV : Hid (∀ W, Below w.heap.size w W → Calls Tryd.prog 9 #[] W (fun e w' => e = .returned (.bool true) ∧ Below W.heap.size W w')) := Lib.hid (fun W hW => live_any W (HF.out.below hW))
  by_cases hbig : n < 1 ∨ 60 < n ∨ 30 < m
  · have hgo : ∀ (Q : Prop), ((n : Int) < 1 → Q) → (¬ (n : Int) < 1 → (60 : Int) < (n : Int) → Q) → (¬ (n : Int) < 1 → ¬ (60 : Int) < (n : Int) → (30 : Int) < (m : Int) → Q) → Q := fun Q q1 q2 q3 => by
      by_cases e : n < 1
      · exact q1 (by omega)
      · by_cases e2 : 60 < n
        · exact q2 (by omega) (by omega)
        · exact q3 (by omega) (by omega) (by omega)
    clear hbig
    refine hgo _ (fun he => ?_) (fun he he2 => ?_) (fun he he2 he3 => ?_)
    all_goals
      clear hgo
      go_enter Tryd.func5, Tryd.ntmps5
      go_wp2_with fail
      refine (HLV.out _ (Below.refl _ _)).mono ?_
      rintro e w1 ⟨rfl, hb⟩
      have HB := Lib.hid hb
      clear hb
      go_wp2_with fail
      go_ret
      exact ⟨rfl, HB.out⟩
  · have hn0 : ¬ (n : Int) < 1 := by omega
    have hn1 : ¬ (60 : Int) < (n : Int) := by omega
    have hn2 : ¬ (30 : Int) < (m : Int) := by omega
    have HWR := Lib.hid (write_any w HF.out _ _ ts rows HT.out HR.out (by rw [HM.out]; omega))
    cases hw : writeM ts rows with
    | none =>
      have HW : Hid (Calls Tryd.prog 13 #[.slice A n c, .slice RA m rc] w (fun e w' => e = .returned (.tuple #[.string ⟨#[]⟩, .int .i64 1]) ∧ Below w.heap.size w w')) := Lib.hid (HWR.out.mono (by
        rintro e w' ⟨hb, ⟨_, rfl⟩ | ⟨t, h, _⟩⟩
        · exact ⟨rfl, hb⟩
        · rw [hw] at h; cases h))
      clear hw hbig
      go_enter Tryd.func5, Tryd.ntmps5
      go_wp2_with fail
      refine HW.out.mono ?_
      rintro e w1 ⟨rfl, hb1⟩
      have HB1 := Lib.hid hb1
      clear hb1
      go_wp2_with fail
      refine (HLV.out w1 HB1.out).mono ?_
      rintro e w2 ⟨rfl, hb2⟩
      have HEND : Hid (Below w.heap.size w w2) := Lib.hid (HB1.out.trans (hb2.mono HB1.out.size))
      clear hb2
      go_wp2_with fail
      go_ret
      exact ⟨rfl, HEND.out⟩
    | some t =>
      have HW : Hid (Calls Tryd.prog 13 #[.slice A n c, .slice RA m rc] w (fun e w' => e = .returned (.tuple #[.string (bs t), .int .i64 0]) ∧ Below w.heap.size w w')) := Lib.hid (HWR.out.mono (by
        rintro e w' ⟨hb, ⟨h, _⟩ | ⟨t', h, rfl⟩⟩
        · rw [hw] at h; cases h
        · rw [hw] at h; cases h; exact ⟨rfl, hb⟩))
      have htl : t.length ≤ 100000 := by
        have h := hw
        unfold writeM at h
        split at h
        · cases h
        · split at h
          · rename_i h2
            cases h
            have := written_len ts rows h2
            rw [HM.out, HN.out] at this
            have h3 : m * (n * 12 + 1) ≤ 30 * (60 * 12 + 1) := Nat.mul_le_mul (by omega) (by omega)
            omega
          · cases h
      have hrd := write_read ts rows t hw htl
      have HRD : Hid (∀ W, Below w.heap.size w W → Calls Tryd.prog 10 #[.slice A n c, .string (bs t)] W (ReadPost (rows, 0, 0) W)) := Lib.hid (fun W hW => by
        have := Read_any W (HF.out.below hW) _ ts t (HT.out.below hW (Nat.le_refl _)) (by omega)
        rw [hrd] at this; exact this)
      clear hw hbig htl hrd
      go_enter Tryd.func5, Tryd.ntmps5
      go_wp2_with fail
      refine HW.out.mono ?_
      rintro e w1 ⟨rfl, hb1⟩
      have HB1 := Lib.hid hb1
      clear hb1
      go_wp2_with fail
      refine (HRD.out w1 HB1.out).mono ?_
      rintro e w2 ⟨av, rfl, hra, hb2⟩
      have HRA := Lib.hid hra
      have HB2 : Hid (Below w.heap.size w w2) := Lib.hid (HB1.out.trans (hb2.mono HB1.out.size))
      clear hra hb2
      obtain ⟨w3, hw3⟩ : ∃ W, w2.alloc (.cells #[.int .i64 0, .int .i64 0] 27) = W := ⟨_, rfl⟩
      have HE3 : Hid (w3.heap[w2.heap.size]? = some (.cells #[.int .i64 0, .int .i64 0] 27 (0, 0))) := Lib.hid (by rw [← hw3]; exact heap_alloc_new _ _)
      have HA3 : Hid (Below w2.heap.size w2 w3) := Lib.hid (by rw [← hw3]; exact below_new _ _)
      have HB3 : Hid (Below w.heap.size w w3) := Lib.hid (HB2.out.trans (HA3.out.mono HB2.out.size))
      have HW3 := Lib.hid hw3
      have HQ := Lib.hid (rows_eq w3 av (.slice RA m rc) rows (HRA.out.below HA3.out (Nat.le_refl _)) (HR.out.below HB3.out (Nat.le_refl _)))
      clear hw3
      go_wp2_with fail
      rw [HW3.out]
      refine HQ.out.mono ?_
      rintro e w4 ⟨rfl, hb4⟩
      have HB4 : Hid (Below w.heap.size w w4) := Lib.hid (HB3.out.trans (hb4.mono HB3.out.size))
      have e3 : w4.heap[w2.heap.size]? = some (.cells #[.int .i64 0, .int .i64 0] 27 (0, 0)) := (hb4.block _ (lt_of_block HE3.out)).trans HE3.out
      have g0 : w4.cell? ⟨w2.heap.size, 0, none⟩ = some (.int .i64 0) := by unfold World.cell?; rw [e3]; rfl
      have g1 : w4.cell? ⟨w2.heap.size, 1, none⟩ = some (.int .i64 0) := by unfold World.cell?; rw [e3]; rfl
      have hFB : faultB 0 0 0 0 = true := rfl
      clear hb4 e3
      go_wp2_with fail
      refine (HLV.out w4 HB4.out).mono ?_
      rintro e w5 ⟨rfl, hb5⟩
      have HEND : Hid (Below w.heap.size w w5) := Lib.hid (HB4.out.trans (hb5.mono HB4.out.size))
      clear hb5
      go_wp2_with fail
      go_ret
      exact ⟨rfl, HEND.out⟩
end Go.Proofs.YtgngdkbcndldfaaDoor.frameBack
