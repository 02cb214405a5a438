/- The walk of FrameAgain. Conditions: as it says. -/
import Derived.Test.YtgngdkbcndldfaaDoorFaR
namespace Go.Proofs.YtgngdkbcndldfaaDoor.frameAgain
open Go.ChangeShapes Go.WideShapes Go.ChangeAt Go.RowKit Go.Proofs.YtgngdkbcndldfaaDoor.Tr Go.Proofs.YtgngdkbcndldfaaDoor.Fr
set_option linter.unusedVariables false
set_option linter.unusedSimpArgs false
theorem rows_few {ts : List Int} {S : Bs} {R : List (List Int)} {K P : Int} (h : readM ts S = (R, K, P)) : R.length ≤ S.length + 1 := by
  have e : R = (readM ts S).1 := by rw [h]
  rw [e]
  unfold readM
  split
  · simp
  · have := (goM_len ts (linesM S)).1
    have := (lines_small S).1
    split <;> (simp only; omega)
set_option maxRecDepth 100000 in
set_option maxHeartbeats 4000000 in
theorem walk (w : World) (hF : FrAt w) (tv : Value) (ts : List Int) (ht : Ints w tv ts) (S : Bs) :
    Calls Tryd.prog 8 #[tv, .string (bs S)] w (fun e w' => e = .returned (.bool true) ∧ Below w.heap.size w w') := by
  obtain ⟨A, c, rfl, z1, z2⟩ := ints_form ht
  have HT := Lib.hid ht
  have HF := Lib.hid hF
  obtain ⟨n, hn⟩ : ∃ n, ts.length = n := ⟨_, rfl⟩
  obtain ⟨s, hs⟩ : ∃ n, S.length = n := ⟨_, rfl⟩
  have hsz : (bs S).size = s := by rw [bs_size, hs]
  rw [hn] at HT z1 ⊢
  have HN := Lib.hid hn
  have HSL := Lib.hid hs
  unfold maxLen at z2
  clear ht hn hs hF
  have HLV : Hid (∀ W, Below w.heap.size w W → Calls Tryd.prog 9 #[] W (fun e w' => e = .returned (.bool true) ∧ Below W.heap.size W w')) := Lib.hid (fun W hW => live_any W (HF.out.below hW))
  by_cases hbig : 2000 < s ∨ n < 1 ∨ 60 < n
  · have hgo : ∀ (Q : Prop), ((2000 : Int) < (s : Int) → Q) → (¬ (2000 : Int) < (s : Int) → (n : Int) < 1 → Q) → (¬ (2000 : Int) < (s : Int) → ¬ (n : Int) < 1 → (60 : Int) < (n : Int) → Q) → Q := fun Q q1 q2 q3 => by
      by_cases e : 2000 < s
      · exact q1 (by omega)
      · by_cases e2 : n < 1
        · exact q2 (by omega) (by omega)
        · exact q3 (by omega) (by omega) (by omega)
    clear hbig
    refine hgo _ (fun he => ?_) (fun he he2 => ?_) (fun he he2 he3 => ?_)
    all_goals
      clear hgo
      go_enter Tryd.func8, Tryd.ntmps8
      go_wp2_with fail
      refine (HLV.out _ (Below.refl _ _)).mono ?_
      rintro e w1 ⟨rfl, hb⟩
      have HB := Lib.hid hb
      clear hb
      go_wp2_with fail
      go_ret
      exact ⟨rfl, HB.out⟩
  · have hn1 : ¬ (2000 : Int) < (s : Int) := by omega
    have hn2 : ¬ (n : Int) < 1 := by omega
    have hn3 : ¬ (60 : Int) < (n : Int) := by omega
    have HRD := Lib.hid (Read_any w HF.out (.slice A n c) ts S HT.out (by rw [HSL.out]; omega))
    obtain ⟨R, K, P, hR⟩ : ∃ R K P, readM ts S = (R, K, P) := ⟨_, _, _, rfl⟩
    have hfew := rows_few hR
    rw [HSL.out] at hfew
    have HRW : Hid (R ≠ [] → ∃ t, writeM ts R = some t ∧ t.length ≤ 2001) := Lib.hid (fun h => by
      have := read_write ts S (by rw [HSL.out]; omega) (by rw [HN.out]; omega) (by rw [hR]; exact h)
      rw [hR] at this; exact this)
    rw [hR] at HRD
    obtain ⟨q, hq⟩ : ∃ q, R.length = q := ⟨_, rfl⟩
    have HQL := Lib.hid hq
    rw [hq] at hfew
    clear hbig hR hq
    go_enter Tryd.func8, Tryd.ntmps8
    go_wp2_with fail
    refine HRD.out.mono ?_
    rintro e w1 ⟨av, rfl, hra, hb1⟩
    obtain ⟨VA, vc, rfl, u1, u2⟩ := hra.form
    have HRA := Lib.hid hra
    have HB1 := Lib.hid hb1
    rw [HQL.out] at HRA ⊢
    clear hra hb1 u1 u2
    obtain ⟨w2, hw2⟩ : ∃ W, w1.alloc (.cells #[.int .i64 K, .int .i64 P] 27) = W := ⟨_, rfl⟩
    have HA2 : Hid (Below w1.heap.size w1 w2) := Lib.hid (by rw [← hw2]; exact below_new _ _)
    have HB2 : Hid (Below w.heap.size w w2) := Lib.hid (HB1.out.trans (HA2.out.mono HB1.out.size))
    have HRA2 := Lib.hid (HRA.out.below HA2.out (Nat.le_refl _))
    have HW2 := Lib.hid hw2
    clear hw2
    by_cases hq0 : q = 0
    · subst hq0
      go_wp2_with fail
      rw [HW2.out]
      refine (HLV.out w2 HB2.out).mono ?_
      rintro e w3 ⟨rfl, hb3⟩
      have HEND : Hid (Below w.heap.size w w3) := Lib.hid (HB2.out.trans (hb3.mono HB2.out.size))
      clear hb3
      go_wp2_with fail
      go_ret
      exact ⟨rfl, HEND.out⟩
    · have hqb : ((q : Int) == 0) = false := beq_eq_false_iff_ne.2 (by omega)
      obtain ⟨t, hwt, htl⟩ := HRW.out (fun h => hq0 (by rw [← HQL.out, h]; rfl))
      have HWR : Hid (Calls Tryd.prog 13 #[.slice A n c, .slice VA q vc] w2 (fun e w' => e = .returned (.tuple #[.string (bs t), .int .i64 0]) ∧ Below w2.heap.size w2 w')) := Lib.hid ((write_any w2 (HF.out.below HB2.out) _ _ ts R (HT.out.below HB2.out (Nat.le_refl _)) HRA2.out (by rw [HQL.out]; omega)).mono (by
        rintro e w' ⟨hb, ⟨h, _⟩ | ⟨t', h, rfl⟩⟩
        · rw [hwt] at h; cases h
        · rw [hwt] at h; cases h; exact ⟨rfl, hb⟩))
      have hrd := write_read ts R t hwt (by omega)
      have HRD2 : Hid (∀ W, Below w.heap.size w W → Calls Tryd.prog 10 #[.slice A n c, .string (bs t)] W (ReadPost (R, 0, 0) W)) := Lib.hid (fun W hW => by
        have := Read_any W (HF.out.below hW) _ ts t (HT.out.below hW (Nat.le_refl _)) (by omega)
        rw [hrd] at this; exact this)
      clear hwt htl hrd
      go_wp2_with fail
      rw [HW2.out]
      refine HWR.out.mono ?_
      rintro e w3 ⟨rfl, hb3⟩
      have HA3 := Lib.hid hb3
      have HB3 : Hid (Below w.heap.size w w3) := Lib.hid (HB2.out.trans (hb3.mono HB2.out.size))
      clear hb3
      go_wp2_with fail
      refine (HRD2.out w3 HB3.out).mono ?_
      rintro e w4 ⟨bv, rfl, hrb, hb4⟩
      have HRB := Lib.hid hrb
      have HA4 := Lib.hid hb4
      have HB4 : Hid (Below w.heap.size w w4) := Lib.hid (HB3.out.trans (hb4.mono HB3.out.size))
      clear hrb hb4
      obtain ⟨w5, hw5⟩ : ∃ W, w4.alloc (.cells #[.int .i64 0, .int .i64 0] 27) = W := ⟨_, rfl⟩
      have HE5 : Hid (w5.heap[w4.heap.size]? = some (.cells #[.int .i64 0, .int .i64 0] 27 (0, 0))) := Lib.hid (by rw [← hw5]; exact heap_alloc_new _ _)
      have HA5 : Hid (Below w4.heap.size w4 w5) := Lib.hid (by rw [← hw5]; exact below_new _ _)
      have HB5 : Hid (Below w.heap.size w w5) := Lib.hid (HB4.out.trans (HA5.out.mono HB4.out.size))
      have H25 : Hid (Below w2.heap.size w2 w5) := Lib.hid (HA3.out.trans ((HA4.out.trans (HA5.out.mono HA4.out.size)).mono HA3.out.size))
      have HW5 := Lib.hid hw5
      have HQ := Lib.hid (rows_eq w5 bv (.slice VA q vc) R (HRB.out.below HA5.out (Nat.le_refl _)) (HRA2.out.below H25.out (Nat.le_refl _)))
      clear hw5
      go_wp2_with fail
      rw [HW5.out]
      refine HQ.out.mono ?_
      rintro e w6 ⟨rfl, hb6⟩
      have HB6 : Hid (Below w.heap.size w w6) := Lib.hid (HB5.out.trans (hb6.mono HB5.out.size))
      clear hb6
      go_wp2_with fail
      refine (HLV.out w6 HB6.out).mono ?_
      rintro e w7 ⟨rfl, hb7⟩
      have HEND : Hid (Below w.heap.size w w7) := Lib.hid (HB6.out.trans (hb7.mono HB6.out.size))
      clear hb7
      go_wp2_with fail
      go_ret
      exact ⟨rfl, HEND.out⟩
end Go.Proofs.YtgngdkbcndldfaaDoor.frameAgain
