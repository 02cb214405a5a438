/- The walk of FrameReads. Conditions: as it says. -/
import Derived.Test.YtgngdkbcndldfaaDoorFaR
import Derived.Test.YtgngdkbcndldfaaDoorFaJ
namespace Go.Proofs.YtgngdkbcndldfaaDoor.frameReads
open Go.ChangeShapes Go.WideShapes Go.ChangeAt Go.RowKit Go.Proofs.YtgngdkbcndldfaaDoor.Tr Go.Proofs.YtgngdkbcndldfaaDoor.Fr
set_option linter.unusedVariables false
set_option linter.unusedSimpArgs false
attribute [local go_sem ↓] eql_fault guard_fault
set_option maxRecDepth 100000 in
set_option maxHeartbeats 4000000 in
theorem walk (w : World) (hF : FrAt w) (tv : Value) (ts : List Int) (ht : Ints w tv ts) (S : Bs) :
    Calls Tryd.prog 3 #[tv, .string (bs S)] w (fun e w' => e = .returned (.bool true) ∧ Below w.heap.size w w') := by
  obtain ⟨A, c, rfl, z1, z2⟩ := ints_form ht
  have HT := Lib.hid ht
  have HF := Lib.hid hF
  obtain ⟨n, hn⟩ : ∃ n, ts.length = n := ⟨_, rfl⟩
  obtain ⟨s, hs⟩ : ∃ n, S.length = n := ⟨_, rfl⟩
  have hsz : (bs S).size = s := by rw [bs_size, hs]
  rw [hn] at HT z1 ⊢
  have HN := Lib.hid hn
  have HSL := Lib.hid hs
  unfold maxLen at z2
  clear ht hn hs hF
  have HLV : Hid (∀ W, Below w.heap.size w W → Calls Tryd.prog 9 #[] W (fun e w' => e = .returned (.bool true) ∧ Below W.heap.size W w')) := Lib.hid (fun W hW => live_any W (HF.out.below hW))
  by_cases hbig : 2000 < s ∨ 300 < n
  · have hgo : ∀ (Q : Prop), ((2000 : Int) < (s : Int) → Q) → (¬ (2000 : Int) < (s : Int) → (300 : Int) < (n : Int) → Q) → Q := fun Q q1 q2 => by
      by_cases e : 2000 < s
      · exact q1 (by omega)
      · exact q2 (by omega) (by omega)
    clear hbig
    refine hgo _ (fun he => ?_) (fun he he2 => ?_)
    all_goals
      clear hgo
      go_enter Tryd.func3, Tryd.ntmps3
      go_wp2_with fail
      refine (HLV.out _ (Below.refl _ _)).mono ?_
      rintro e w1 ⟨rfl, hb⟩
      have HB := Lib.hid hb
      clear hb
      go_wp2_with fail
      go_ret
      exact ⟨rfl, HB.out⟩
  · have hn1 : ¬ (2000 : Int) < (s : Int) := by omega
    have hn2 : ¬ (300 : Int) < (n : Int) := by omega
    have hs6 : s ≤ 1000000 := by omega
    have HRD := Lib.hid (Read_any w HF.out (.slice A n c) ts S HT.out (by rw [HSL.out]; exact hs6))
    have HDR : Hid (∀ W, Below w.heap.size w W → Calls Tryd.prog 11 #[.slice A n c, .string (bs S)] W (ReadPost (readM ts S) W)) := Lib.hid (fun W hW => dread_any W _ ts S (HT.out.below hW (Nat.le_refl _)) (by rw [HSL.out]; exact hs6))
    obtain ⟨R, K, P, hR⟩ : ∃ R K P, readM ts S = (R, K, P) := ⟨_, _, _, rfl⟩
    rw [hR] at HRD HDR
    clear hbig hR
    go_enter Tryd.func3, Tryd.ntmps3
    go_wp2_with fail
    refine HRD.out.mono ?_
    rintro e w1 ⟨av, rfl, hra, hb1⟩
    have HRA := Lib.hid hra
    have HB1 := Lib.hid hb1
    have hz1 := hb1.size
    clear hra hb1
    obtain ⟨w2, hw2⟩ : ∃ W, w1.alloc (.cells #[.int .i64 K, .int .i64 P] 27) = W := ⟨_, rfl⟩
    have HE2 : Hid (w2.heap[w1.heap.size]? = some (.cells #[.int .i64 K, .int .i64 P] 27 (0, 0))) := Lib.hid (by rw [← hw2]; exact heap_alloc_new _ _)
    have HA2 : Hid (Below w1.heap.size w1 w2) := Lib.hid (by rw [← hw2]; exact below_new _ _)
    have HB2 : Hid (Below w.heap.size w w2) := Lib.hid (HB1.out.trans (HA2.out.mono hz1))
    have HW2 := Lib.hid hw2
    clear hw2
    go_wp2_with fail
    rw [HW2.out]
    refine (HDR.out w2 HB2.out).mono ?_
    rintro e w3 ⟨bv, rfl, hrb, hb3⟩
    have HRB := Lib.hid hrb
    have HA3 := Lib.hid hb3
    have HB3 : Hid (Below w.heap.size w w3) := Lib.hid (HB2.out.trans (hb3.mono HB2.out.size))
    clear hrb hb3
    obtain ⟨w4, hw4⟩ : ∃ W, w3.alloc (.cells #[.int .i64 K, .int .i64 P] 27) = W := ⟨_, rfl⟩
    have HE4 : Hid (w4.heap[w3.heap.size]? = some (.cells #[.int .i64 K, .int .i64 P] 27 (0, 0))) := Lib.hid (by rw [← hw4]; exact heap_alloc_new _ _)
    have HA4 : Hid (Below w3.heap.size w3 w4) := Lib.hid (by rw [← hw4]; exact below_new _ _)
    have HB4 : Hid (Below w.heap.size w w4) := Lib.hid (HB3.out.trans (HA4.out.mono HB3.out.size))
    have HW4 := Lib.hid hw4
    have H14 : Hid (Below w1.heap.size w1 w4) := Lib.hid (HA2.out.trans ((HA3.out.trans (HA4.out.mono HA3.out.size)).mono HA2.out.size))
    have H24 : Hid (Below w2.heap.size w2 w4) := Lib.hid (HA3.out.trans (HA4.out.mono HA3.out.size))
    have HQ := Lib.hid (rows_eq w4 av bv R (HRA.out.below H14.out (Nat.le_refl _)) (HRB.out.below HA4.out (Nat.le_refl _)))
    clear hw4
    go_wp2_with fail
    rw [HW4.out]
    refine HQ.out.mono ?_
    rintro e w5 ⟨rfl, hb5⟩
    have HA5 := Lib.hid hb5
    have HB5 : Hid (Below w.heap.size w w5) := Lib.hid (HB4.out.trans (hb5.mono HB4.out.size))
    have e2 : w5.heap[w1.heap.size]? = some (.cells #[.int .i64 K, .int .i64 P] 27 (0, 0)) := ((H24.out.trans (hb5.mono H24.out.size)).block _ (lt_of_block HE2.out)).trans HE2.out
    have e4 : w5.heap[w3.heap.size]? = some (.cells #[.int .i64 K, .int .i64 P] 27 (0, 0)) := (hb5.block _ (lt_of_block HE4.out)).trans HE4.out
    have g20 : w5.cell? ⟨w1.heap.size, 0, none⟩ = some (.int .i64 K) := by unfold World.cell?; rw [e2]; rfl
    have g21 : w5.cell? ⟨w1.heap.size, 1, none⟩ = some (.int .i64 P) := by unfold World.cell?; rw [e2]; rfl
    have g40 : w5.cell? ⟨w3.heap.size, 0, none⟩ = some (.int .i64 K) := by unfold World.cell?; rw [e4]; rfl
    have g41 : w5.cell? ⟨w3.heap.size, 1, none⟩ = some (.int .i64 P) := by unfold World.cell?; rw [e4]; rfl
    have hFB : faultB K K P P = true := faultB_self K P
    clear hb5 e2 e4
    go_wp2_with fail
    refine (HLV.out w5 HB5.out).mono ?_
    rintro e w6 ⟨rfl, hb6⟩
    have HEND : Hid (Below w.heap.size w w6) := Lib.hid (HB5.out.trans (hb6.mono HB5.out.size))
    clear hb6
    go_wp2_with fail
    go_ret
    exact ⟨rfl, HEND.out⟩
end Go.Proofs.YtgngdkbcndldfaaDoor.frameReads
