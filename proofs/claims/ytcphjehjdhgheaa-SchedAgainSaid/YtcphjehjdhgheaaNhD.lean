/- The heap's down, Push and Pop. Conditions: what may be taken lies in the queue. -/
import Derived.Test.YtcphjehjdhgheaaNhC
namespace Go.Proofs.Ytcphjehjdhgheaa.Nt
open Go.ChangeShapes Go.WideShapes Go.ChangeAt Go.RowKit Go.Proofs.Ytcphjehjdhgheaa.Tr
set_option linter.unusedVariables false
set_option linter.unusedSimpArgs false

theorem less_z {w : World} {base B g n c : Nat} (i j : Nat) {I J : Int} {c0 c1 : Value} {l : List Int} (hr : RdAt w base B c0 c1 (.slice (some ⟨g, 0, none⟩) n c) l) (hl : l.length = n) (hi : i < n) (hj : j < n) (hI : I = (i : Int)) (hJ : J = (j : Int)) :
    Calls Try.prog 157 #[.slice (some ⟨g, 0, none⟩) n c, .int .i64 I, .int .i64 J] w (LessPost w l i j) := by
  subst hI hJ; exact less_n hr hl hi hj
theorem swap_z {w : World} {base B g n c : Nat} (i j : Nat) {I J : Int} {c0 c1 : Value} {l : List Int} (hr : RdAt w base B c0 c1 (.slice (some ⟨g, 0, none⟩) n c) l) (hl : l.length = n) (hi : i < n) (hj : j < n) (hI : I = (i : Int)) (hJ : J = (j : Int)) :
    Calls Try.prog 159 #[.slice (some ⟨g, 0, none⟩) n c, .int .i64 I, .int .i64 J] w (SwPost w base B g n c c0 c1 l i j) := by
  subst hI hJ; exact swap_n hr hl hi hj
def DnPost (w : World) (base B : Nat) (c0 c1 : Value) (g N n c : Nat) (l : List Int) (e : Ending) (w' : World) : Prop :=
  ∃ b l', e = .returned (.bool b) ∧ l'.Perm l ∧ Hp l' n ∧ (∀ k, n ≤ k → gd l' k = gd l k) ∧ RdAt w' base B c0 c1 (.slice (some ⟨g, 0, none⟩) N c) l' ∧ Kp (fun i => i = g) w w'
set_option maxRecDepth 100000 in
set_option maxHeartbeats 16000000 in
theorem down_any (w : World) (base B g N n c : Nat) (c0 c1 : Value) (l : List Int) (h : RdAt w base B c0 c1 (.slice (some ⟨g, 0, none⟩) N c) l) (hl : l.length = N) (hnN : n ≤ N) (hn : n ≤ 1000000) (hu : HpDn l n 0) :
    Calls Try.prog 128 #[ifc B, .int .i64 0, .int .i64 (n : Int)] w (DnPost w base B c0 c1 g N n c l) := by
  have H := Lib.hid h
  have HL := Lib.hid hl
  have HU := Lib.hid hu
  have e1 := eLess
  have e2 := eSwap
  clear h hl hu
  go_enter Try.func128, Try.ntmps128
  go_wp2_with fail
  go_loopw [7] (fun vj wr => ∃ (k : Nat) (l' : List Int), vj = .int .i64 (k : Int) ∧ (k = 0 ∨ k < n) ∧ l'.Perm l ∧ HpDn l' n k ∧ (∀ m, n ≤ m → gd l' m = gd l m) ∧ RdAt wr base B c0 c1 (.slice (some ⟨g, 0, none⟩) N c) l' ∧ Kp (fun i => i = g) w wr) (fun vj _ => n - (intOf vj).toNat)
  case atStart => exact ⟨0, l, rfl, .inl rfl, List.Perm.refl _, HU.out, fun _ _ => rfl, H.out, Kp.refl _ _⟩
  case round =>
    obtain ⟨k, l', rfl, hk, hp, hu, hg, hr, hkp⟩ := hrel
    have hk2 : k ≤ 1000000 := by omega
    have hm1 := mLess hr.at3.1
    have hm1q := fun q => mLess (hr.drewN q).at3.1
    have hm2q := fun q => mSwap (hr.drewN q).at3.1
    have hl' : l'.length = N := hp.length_eq.trans HL.out
    have HL' := Lib.hid hl'
    have HP := Lib.hid hp
    have HK := Lib.hid hkp
    have HR := Lib.hid hr
    have HUU := Lib.hid hu
    have HG := Lib.hid hg
    have hlz : ¬ (2 * (k : Int) + 1 < 0) := by omega
    clear hl' hp hkp hr hu hg
    by_cases hA : n ≤ 2 * k + 1
    · have hd : (n : Int) ≤ 2 * (k : Int) + 1 := by omega
      go_wp2
      go_ret
      exact ⟨_, l', rfl, HP.out, dn_done HUU.out (fun m hm hc => by omega), HG.out, HR.out, HK.out⟩
    have hd : ¬ ((n : Int) ≤ 2 * (k : Int) + 1) := by omega
    by_cases hB : 2 * k + 2 < n
    · have hd2 : 2 * (k : Int) + 1 + 1 < (n : Int) := by omega
      obtain ⟨q1, hq1⟩ : ∃ q, decide (gd l' (2 * k + 2) < gd l' (2 * k + 1)) = q := ⟨_, rfl⟩
      have HQ1 := Lib.hid hq1
      have HLS1 := Lib.hid (less_z (2 * k + 2) (2 * k + 1) (I := 2 * (k : Int) + 1 + 1) (J := 2 * (k : Int) + 1) HR.out HL'.out (by omega) (by omega) (by omega) (by omega))
      clear hq1
      cases q1 with
      | true =>
        have HMIN : Hid (∀ m, m < n → (m = 2 * k + 1 ∨ m = 2 * k + 2) → gd l' (2 * k + 2) ≤ gd l' m) := Lib.hid (fun m hm hc => by
          have := of_decide_eq_true HQ1.out
          rcases hc with rfl | rfl <;> omega)
        obtain ⟨q2, hq2⟩ : ∃ q, decide (gd l' (2 * k + 2) < gd l' k) = q := ⟨_, rfl⟩
        have HQ2 := Lib.hid hq2
        have HLS2 := Lib.hid (fun W (hW : RdAt W base B c0 c1 (.slice (some ⟨g, 0, none⟩) N c) l') => less_z (2 * k + 2) k (I := 2 * (k : Int) + 1 + 1) (J := (k : Int)) hW HL'.out (by omega) (by omega) (by omega) rfl)
        have HSW := Lib.hid (fun W (hW : RdAt W base B c0 c1 (.slice (some ⟨g, 0, none⟩) N c) l') => swap_z k (2 * k + 2) (I := (k : Int)) (J := 2 * (k : Int) + 1 + 1) hW HL'.out (by omega) (by omega) rfl (by omega))
        clear hq2
        cases q2 with
        | false =>
          go_wp2_with fail
          refine HLS1.out.mono ?_
          rintro e w1 ⟨rfl, r0, rfl⟩
          rw [HQ1.out]
          go_wp2_with fail
          refine (HLS2.out _ (HR.out.drewN _)).mono ?_
          rintro e w2 ⟨rfl, r, rfl⟩
          rw [HQ2.out]
          go_wp2
          go_ret
          refine ⟨_, l', rfl, HP.out, dn_done HUU.out (fun m hm hc => ?_), HG.out, (HR.out.drewN _), (HK.out.drewN _)⟩
          have h1 := of_decide_eq_false HQ2.out
          have h2 := HMIN.out m hm hc
          omega
        | true =>
          go_wp2_with fail
          refine HLS1.out.mono ?_
          rintro e w1 ⟨rfl, r0, rfl⟩
          rw [HQ1.out]
          go_wp2_with fail
          refine (HLS2.out _ (HR.out.drewN _)).mono ?_
          rintro e w2 ⟨rfl, r, rfl⟩
          rw [HQ2.out]
          go_wp2_with fail
          refine (HSW.out _ (HR.out.drewN _)).mono ?_
          rintro e w3 ⟨rfl, hr3, hk3⟩
          have HR3 := Lib.hid hr3
          have HK3 := Lib.hid hk3
          clear hr3 hk3
          go_wp2
          refine ⟨⟨2 * k + 2, sw l' k (2 * k + 2), by first | rfl | (congr 1; omega), .inr (by omega), ?_, ?_, ?_, HR3.out, ((HK.out.drewN _)).trans HK3.out⟩, by simp [intOf]; omega⟩
          · exact (sw_perm (by rw [HL'.out]; omega) (by rw [HL'.out]; omega)).trans HP.out
          · exact dn_step HUU.out (by rw [HL'.out]; omega) (by omega) (by omega) HMIN.out (of_decide_eq_true HQ2.out)
          · intro m hm
            rw [gd_sw (by rw [HL'.out]; omega) (by rw [HL'.out]; omega), if_neg (by omega), if_neg (by omega)]
            exact HG.out m hm
      | false =>
        have HMIN : Hid (∀ m, m < n → (m = 2 * k + 1 ∨ m = 2 * k + 2) → gd l' (2 * k + 1) ≤ gd l' m) := Lib.hid (fun m hm hc => by
          have := of_decide_eq_false HQ1.out
          rcases hc with rfl | rfl <;> omega)
        obtain ⟨q2, hq2⟩ : ∃ q, decide (gd l' (2 * k + 1) < gd l' k) = q := ⟨_, rfl⟩
        have HQ2 := Lib.hid hq2
        have HLS2 := Lib.hid (fun W (hW : RdAt W base B c0 c1 (.slice (some ⟨g, 0, none⟩) N c) l') => less_z (2 * k + 1) k (I := 2 * (k : Int) + 1) (J := (k : Int)) hW HL'.out (by omega) (by omega) (by omega) rfl)
        have HSW := Lib.hid (fun W (hW : RdAt W base B c0 c1 (.slice (some ⟨g, 0, none⟩) N c) l') => swap_z k (2 * k + 1) (I := (k : Int)) (J := 2 * (k : Int) + 1) hW HL'.out (by omega) (by omega) rfl (by omega))
        clear hq2
        cases q2 with
        | false =>
          go_wp2_with fail
          refine HLS1.out.mono ?_
          rintro e w1 ⟨rfl, r0, rfl⟩
          rw [HQ1.out]
          go_wp2_with fail
          refine (HLS2.out _ (HR.out.drewN _)).mono ?_
          rintro e w2 ⟨rfl, r, rfl⟩
          rw [HQ2.out]
          go_wp2
          go_ret
          refine ⟨_, l', rfl, HP.out, dn_done HUU.out (fun m hm hc => ?_), HG.out, (HR.out.drewN _), (HK.out.drewN _)⟩
          have h1 := of_decide_eq_false HQ2.out
          have h2 := HMIN.out m hm hc
          omega
        | true =>
          go_wp2_with fail
          refine HLS1.out.mono ?_
          rintro e w1 ⟨rfl, r0, rfl⟩
          rw [HQ1.out]
          go_wp2_with fail
          refine (HLS2.out _ (HR.out.drewN _)).mono ?_
          rintro e w2 ⟨rfl, r, rfl⟩
          rw [HQ2.out]
          go_wp2_with fail
          refine (HSW.out _ (HR.out.drewN _)).mono ?_
          rintro e w3 ⟨rfl, hr3, hk3⟩
          have HR3 := Lib.hid hr3
          have HK3 := Lib.hid hk3
          clear hr3 hk3
          go_wp2
          refine ⟨⟨2 * k + 1, sw l' k (2 * k + 1), by first | rfl | (congr 1; omega), .inr (by omega), ?_, ?_, ?_, HR3.out, ((HK.out.drewN _)).trans HK3.out⟩, by simp [intOf]; omega⟩
          · exact (sw_perm (by rw [HL'.out]; omega) (by rw [HL'.out]; omega)).trans HP.out
          · exact dn_step HUU.out (by rw [HL'.out]; omega) (by omega) (by omega) HMIN.out (of_decide_eq_true HQ2.out)
          · intro m hm
            rw [gd_sw (by rw [HL'.out]; omega) (by rw [HL'.out]; omega), if_neg (by omega), if_neg (by omega)]
            exact HG.out m hm
    · have hd2 : ¬ (2 * (k : Int) + 1 + 1 < (n : Int)) := by omega
      have HMIN : Hid (∀ m, m < n → (m = 2 * k + 1 ∨ m = 2 * k + 2) → gd l' (2 * k + 1) ≤ gd l' m) := Lib.hid (fun m hm hc => by
        rcases hc with rfl | rfl <;> omega)
      obtain ⟨q2, hq2⟩ : ∃ q, decide (gd l' (2 * k + 1) < gd l' k) = q := ⟨_, rfl⟩
      have HQ2 := Lib.hid hq2
      have HLS2 := Lib.hid (fun W (hW : RdAt W base B c0 c1 (.slice (some ⟨g, 0, none⟩) N c) l') => less_z (2 * k + 1) k (I := 2 * (k : Int) + 1) (J := (k : Int)) hW HL'.out (by omega) (by omega) (by omega) rfl)
      have HSW := Lib.hid (fun W (hW : RdAt W base B c0 c1 (.slice (some ⟨g, 0, none⟩) N c) l') => swap_z k (2 * k + 1) (I := (k : Int)) (J := 2 * (k : Int) + 1) hW HL'.out (by omega) (by omega) rfl (by omega))
      clear hq2
      cases q2 with
      | false =>
        go_wp2_with fail
        refine (HLS2.out _ HR.out).mono ?_
        rintro e w2 ⟨rfl, r, rfl⟩
        rw [HQ2.out]
        go_wp2
        go_ret
        refine ⟨_, l', rfl, HP.out, dn_done HUU.out (fun m hm hc => ?_), HG.out, (HR.out.drewN _), (HK.out.drewN _)⟩
        have h1 := of_decide_eq_false HQ2.out
        have h2 := HMIN.out m hm hc
        omega
      | true =>
        go_wp2_with fail
        refine (HLS2.out _ HR.out).mono ?_
        rintro e w2 ⟨rfl, r, rfl⟩
        rw [HQ2.out]
        go_wp2_with fail
        refine (HSW.out _ (HR.out.drewN _)).mono ?_
        rintro e w3 ⟨rfl, hr3, hk3⟩
        have HR3 := Lib.hid hr3
        have HK3 := Lib.hid hk3
        clear hr3 hk3
        go_wp2
        refine ⟨⟨2 * k + 1, sw l' k (2 * k + 1), by first | rfl | (congr 1; omega), .inr (by omega), ?_, ?_, ?_, HR3.out, ((HK.out.drewN _)).trans HK3.out⟩, by simp [intOf]; omega⟩
        · exact (sw_perm (by rw [HL'.out]; omega) (by rw [HL'.out]; omega)).trans HP.out
        · exact dn_step HUU.out (by rw [HL'.out]; omega) (by omega) (by omega) HMIN.out (of_decide_eq_true HQ2.out)
        · intro m hm
          rw [gd_sw (by rw [HL'.out]; omega) (by rw [HL'.out]; omega), if_neg (by omega), if_neg (by omega)]
          exact HG.out m hm
end Go.Proofs.Ytcphjehjdhgheaa.Nt
