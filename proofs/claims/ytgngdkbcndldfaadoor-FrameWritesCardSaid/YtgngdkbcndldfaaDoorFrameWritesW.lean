/- The walk of FrameWrites. Conditions: as it says. -/
import Derived.Test.YtgngdkbcndldfaaDoorFaR
import Derived.Test.YtgngdkbcndldfaaDoorFaN
namespace Go.Proofs.YtgngdkbcndldfaaDoor.frameWrites
open Go.ChangeShapes Go.WideShapes Go.ChangeAt Go.RowKit Go.Proofs.YtgngdkbcndldfaaDoor.Tr Go.Proofs.YtgngdkbcndldfaaDoor.Fr
set_option linter.unusedVariables false
set_option linter.unusedSimpArgs false
set_option maxRecDepth 100000 in
set_option maxHeartbeats 4000000 in
theorem walk (w : World) (hF : FrAt w) (tv : Value) (ts : List Int) (ht : Ints w tv ts) (rv : Value) (rows : List (List Int)) (hr : RowsR w rv rows) :
    Calls Tryd.prog 4 #[tv, rv] w (fun e w' => e = .returned (.bool true) ∧ Below w.heap.size w w') := by
  obtain ⟨A, c, rfl, z1, z2⟩ := ints_form ht
  obtain ⟨RA, rc, rfl, y1, y2⟩ := hr.form
  have HT := Lib.hid ht
  have HR := Lib.hid hr
  have HF := Lib.hid hF
  obtain ⟨n, hn⟩ : ∃ n, ts.length = n := ⟨_, rfl⟩
  obtain ⟨m, hm⟩ : ∃ n, rows.length = n := ⟨_, rfl⟩
  rw [hn] at HT z1 ⊢
  rw [hm] at HR y1 ⊢
  have HN := Lib.hid hn
  have HM := Lib.hid hm
  unfold maxLen at z2 y2
  clear ht hn hr hm hF
  have HLV : Hid (∀ W, Below w.heap.size w W → Calls Tryd.prog 9 #[] W (fun e w' => e = .returned (.bool true) ∧ Below W.heap.size W w')) := Lib.hid (fun W hW => live_any W (HF.out.below hW))
  by_cases hbig : 60 < n ∨ 30 < m
  · have hgo : ∀ (Q : Prop), ((60 : Int) < (n : Int) → Q) → (¬ (60 : Int) < (n : Int) → (30 : Int) < (m : Int) → Q) → Q := fun Q q1 q2 => by
      by_cases e : 60 < n
      · exact q1 (by omega)
      · exact q2 (by omega) (by omega)
    clear hbig
    refine hgo _ (fun he => ?_) (fun he he2 => ?_)
    all_goals
      clear hgo
      go_enter Tryd.func4, Tryd.ntmps4
      go_wp2_with fail
      refine (HLV.out _ (Below.refl _ _)).mono ?_
      rintro e w1 ⟨rfl, hb⟩
      have HB := Lib.hid hb
      clear hb
      go_wp2_with fail
      go_ret
      exact ⟨rfl, HB.out⟩
  · have hn1 : ¬ (60 : Int) < (n : Int) := by omega
    have hn2 : ¬ (30 : Int) < (m : Int) := by omega
    have hone : ∀ {o : Option Bs} {W : World} {e : Ending} {W' : World}, WPost o W e W' → ∃ T f, e = .returned (.tuple #[.string (bs T), .int .i64 f]) ∧ Below W.heap.size W W' ∧ T = o.getD [] ∧ f = (if o.isSome then 0 else 1) := by
      rintro o W e W' ⟨hb, ⟨rfl, rfl⟩ | ⟨t, rfl, rfl⟩⟩
      · exact ⟨[], 1, rfl, hb, rfl, rfl⟩
      · exact ⟨t, 0, rfl, hb, rfl, rfl⟩
    obtain ⟨T, hT⟩ : ∃ T, (writeM ts rows).getD [] = T := ⟨_, rfl⟩
    obtain ⟨f, hf⟩ : ∃ f : Int, (if (writeM ts rows).isSome then (0 : Int) else 1) = f := ⟨_, rfl⟩
    have HWR : Hid (Calls Tryd.prog 13 #[.slice A n c, .slice RA m rc] w (fun e w' => e = .returned (.tuple #[.string (bs T), .int .i64 f]) ∧ Below w.heap.size w w')) := Lib.hid ((write_any w HF.out _ _ ts rows HT.out HR.out (by rw [HM.out]; omega)).mono (by
      intro e w' h
      obtain ⟨T', f', rfl, hb, h1, h2⟩ := hone h
      rw [hT] at h1; rw [hf] at h2; subst h1 h2
      exact ⟨rfl, hb⟩))
    have HDW : Hid (∀ W, Below w.heap.size w W → Calls Tryd.prog 14 #[.slice A n c, .slice RA m rc] W (fun e w' => e = .returned (.tuple #[.string (bs T), .int .i64 f]) ∧ Below W.heap.size W w')) := Lib.hid (fun W hW => (dwrite_any W _ _ ts rows (HT.out.below hW (Nat.le_refl _)) (HR.out.below hW (Nat.le_refl _)) (by rw [HM.out]; omega)).mono (by
      intro e w' h
      obtain ⟨T', f', rfl, hb, h1, h2⟩ := hone h
      rw [hT] at h1; rw [hf] at h2; subst h1 h2
      exact ⟨rfl, hb⟩))
    clear hone hT hf hbig
    go_enter Tryd.func4, Tryd.ntmps4
    go_wp2_with fail
    refine HWR.out.mono ?_
    rintro e w1 ⟨rfl, hb1⟩
    have HB1 := Lib.hid hb1
    clear hb1
    go_wp2_with fail
    refine (HDW.out w1 HB1.out).mono ?_
    rintro e w2 ⟨rfl, hb2⟩
    have HB2 : Hid (Below w.heap.size w w2) := Lib.hid (HB1.out.trans (hb2.mono HB1.out.size))
    clear hb2
    go_wp2_with fail
    refine (HLV.out w2 HB2.out).mono ?_
    rintro e w3 ⟨rfl, hb3⟩
    have HEND : Hid (Below w.heap.size w w3) := Lib.hid (HB2.out.trans (hb3.mono HB2.out.size))
    clear hb3
    go_wp2_with fail
    go_ret
    exact ⟨rfl, HEND.out⟩
end Go.Proofs.YtgngdkbcndldfaaDoor.frameWrites
