/- The walk of FrameRight. Conditions: as it says. -/
import Derived.Test.YtgngdkbcndldfaaDoorFaR
namespace Go.Proofs.YtgngdkbcndldfaaDoor.frameRight
open Go.ChangeShapes Go.WideShapes Go.ChangeAt Go.RowKit Go.Proofs.YtgngdkbcndldfaaDoor.Tr Go.Proofs.YtgngdkbcndldfaaDoor.Fr
set_option linter.unusedVariables false
set_option linter.unusedSimpArgs false
theorem read_right {ts : List Int} {S : Bs} {R : List (List Int)} {K P : Int} (h : readM ts S = (R, K, P)) (hS : S.length ≤ 100000) (hT : ts.length ≤ 200) : (∀ (i : Nat) (r : List Int), R[i]? = some r → okRowM ts r = true) ∧ (K = 0 ∨ (K = 17 ∧ P = (R.length : Int))) := by
  unfold readM at h
  rw [if_neg (by omega)] at h
  have e : R = (goM ts (linesM S)).1 := by
    split at h <;> (injection h with h1 h2; exact h1.symm)
  refine ⟨fun i r hi => ?_, ?_⟩
  · have := go_ok ts (linesM S)
    rw [← e, List.all_eq_true] at this
    exact this r (List.mem_of_getElem? hi)
  · split at h
    · injection h with h1 h2; injection h2 with h2 h3; exact .inl h2.symm
    · injection h with h1 h2; injection h2 with h2 h3; exact .inr ⟨h2.symm, by rw [← h3, h1]⟩
theorem may_cases {t n : Int} (h : mayM t n = true) : (t = 2 ∧ -2147483648 ≤ n ∧ n ≤ 2147483647) ∨ (t = 1 ∧ n = 0) ∨ (t = 1 ∧ n = 1) := by
  unfold mayM at h
  simp only [Bool.or_eq_true, Bool.and_eq_true, decide_eq_true_eq] at h
  rcases h with ⟨h1, h2⟩ | ⟨h1, h2 | h2⟩
  · exact .inl ⟨h1, (fitsM_iff n).1 h2⟩
  · exact .inr (.inl ⟨h1, h2⟩)
  · exact .inr (.inr ⟨h1, h2⟩)
set_option maxRecDepth 100000 in
set_option maxHeartbeats 4000000 in
theorem walk (w : World) (hF : FrAt w) (tv : Value) (ts : List Int) (ht : Ints w tv ts) (S : Bs) :
    Calls Tryd.prog 7 #[tv, .string (bs S)] w (fun e w' => e = .returned (.bool true) ∧ Below w.heap.size w w') := by
  obtain ⟨A, c, rfl, z1, z2⟩ := ints_form ht
  have HT := Lib.hid ht
  have HF := Lib.hid hF
  obtain ⟨n, hn⟩ : ∃ n, ts.length = n := ⟨_, rfl⟩
  obtain ⟨s, hs⟩ : ∃ n, S.length = n := ⟨_, rfl⟩
  have hsz : (bs S).size = s := by rw [bs_size, hs]
  rw [hn] at HT z1 ⊢
  have HN := Lib.hid hn
  have HSL := Lib.hid hs
  unfold maxLen at z2
  clear ht hn hs hF
  have HLV : Hid (∀ W, Below w.heap.size w W → Calls Tryd.prog 9 #[] W (fun e w' => e = .returned (.bool true) ∧ Below W.heap.size W w')) := Lib.hid (fun W hW => live_any W (HF.out.below hW))
  by_cases hbig : 2000 < s ∨ 60 < n
  · have hgo : ∀ (Q : Prop), ((2000 : Int) < (s : Int) → Q) → (¬ (2000 : Int) < (s : Int) → (60 : Int) < (n : Int) → Q) → Q := fun Q q1 q2 => by
      by_cases e : 2000 < s
      · exact q1 (by omega)
      · exact q2 (by omega) (by omega)
    clear hbig
    refine hgo _ (fun he => ?_) (fun he he2 => ?_)
    all_goals
      clear hgo
      go_enter Tryd.func7, Tryd.ntmps7
      go_wp2_with fail
      refine (HLV.out _ (Below.refl _ _)).mono ?_
      rintro e w1 ⟨rfl, hb⟩
      have HB := Lib.hid hb
      clear hb
      go_wp2_with fail
      go_ret
      exact ⟨rfl, HB.out⟩
  · have hn1 : ¬ (2000 : Int) < (s : Int) := by omega
    have hn3 : ¬ (60 : Int) < (n : Int) := by omega
    have HRD := Lib.hid (Read_any w HF.out (.slice A n c) ts S HT.out (by rw [HSL.out]; omega))
    obtain ⟨R, K, P, hR⟩ : ∃ R K P, readM ts S = (R, K, P) := ⟨_, _, _, rfl⟩
    obtain ⟨hok, hkp⟩ := read_right hR (by rw [HSL.out]; omega) (by rw [HN.out]; omega)
    have HOK := Lib.hid hok
    have HKP := Lib.hid hkp
    rw [hR] at HRD
    obtain ⟨q, hq⟩ : ∃ q, R.length = q := ⟨_, rfl⟩
    have HQL := Lib.hid hq
    clear hbig hR hq hok hkp
    go_enter Tryd.func7, Tryd.ntmps7
    go_wp2_with fail
    refine HRD.out.mono ?_
    rintro e w1 ⟨av, rfl, hra, hb1⟩
    obtain ⟨VA, vc, rfl, u1, u2⟩ := hra.form
    have HRA := Lib.hid hra
    have HB1 := Lib.hid hb1
    rw [HQL.out] at HRA u1 ⊢
    unfold maxLen at u2
    clear hra hb1
    obtain ⟨w2, hw2⟩ : ∃ W, w1.alloc (.cells #[.int .i64 K, .int .i64 P] 27) = W := ⟨_, rfl⟩
    have HE2 : Hid (w2.heap[w1.heap.size]? = some (.cells #[.int .i64 K, .int .i64 P] 27 (0, 0))) := Lib.hid (by rw [← hw2]; exact heap_alloc_new _ _)
    have HA2 : Hid (Below w1.heap.size w1 w2) := Lib.hid (by rw [← hw2]; exact below_new _ _)
    have HB2 : Hid (Below w.heap.size w w2) := Lib.hid (HB1.out.trans (HA2.out.mono HB1.out.size))
    have HRA2 := Lib.hid (HRA.out.below HA2.out (Nat.le_refl _))
    have HT2 := Lib.hid (HT.out.below HB2.out (Nat.le_refl _))
    have HW2 := Lib.hid hw2
    clear hw2
    go_wp2_with fail
    rw [HW2.out]
    go_loopw [7] (fun vi wr => ∃ i : Nat, i ≤ q ∧ vi = .int .i64 (i : Int) ∧ wr = w2) (fun vi _ => q - (intOf vi).toNat)
    case atStart => exact ⟨0, Nat.zero_le _, rfl, rfl⟩
    case round =>
      obtain ⟨i, hi, rfl, hwr⟩ := hrel
      subst hwr
      obtain ⟨w2, hw2⟩ : ∃ W, W = wr := ⟨_, rfl⟩
      subst hw2
      by_cases hiq : i < q
      · obtain ⟨r, hri⟩ : ∃ r, R[i]? = some r := ⟨_, List.getElem?_eq_getElem (by rw [HQL.out]; exact hiq)⟩
        obtain ⟨g2, o2, RB, rd, rfl, hg2, e0, x1, x2, hI⟩ := HRA2.out.at hri
        have hrow := (okRow_iff ts r).1 (HOK.out i r hri)
        have hrl : r.length = n := by rw [hrow.1]; exact HN.out
        have HROW := Lib.hid hrow.2
        have HI := Lib.hid hI
        have HRL := Lib.hid hrl
        rw [hrl] at e0 x1 HI
        unfold maxLen at x2
        have hle : ((n : Int) != (n : Int)) = false := by simp
        clear hri hI hrow hrl
        go_wp2
        go_loopw [8] (fun vj wx => ∃ j : Nat, j ≤ n ∧ vj = .int .i64 (j : Int) ∧ wx = w2) (fun vj _ => n - (intOf vj).toNat)
        case atStart => exact ⟨0, Nat.zero_le _, rfl, rfl⟩
        case round =>
          obtain ⟨j, hj, rfl, hwx⟩ := hrel
          subst hwx
          by_cases hjn : j < n
          · obtain ⟨t, htj⟩ : ∃ t, ts[j]? = some t := ⟨_, List.getElem?_eq_getElem (by rw [HN.out]; exact hjn)⟩
            obtain ⟨y, hyj⟩ : ∃ y, r[j]? = some y := ⟨_, List.getElem?_eq_getElem (by rw [HRL.out]; exact hjn)⟩
            obtain ⟨g, o, rfl, hg, a0⟩ := Fr.ints_at HT2.out htj
            obtain ⟨g3, o3, rfl, hg3, b0⟩ := Fr.ints_at HI.out hyj
            have hm := HROW.out j t y htj hyj
            clear htj hyj
            rcases may_cases hm with ⟨rfl, hy1, hy2⟩ | ⟨rfl, rfl⟩ | ⟨rfl, rfl⟩
            all_goals
              clear hm
              go_wp2
              refine ⟨⟨j + 1, by omega, by go_num, by first | rfl | trivial⟩, by first | (simp [intOf]; done) | (simp [intOf]; omega)⟩
          · obtain rfl : j = n := by omega
            go_wp2
            refine ⟨⟨i + 1, by omega, by go_num, by first | rfl | trivial⟩, by first | (simp [intOf]; done) | (simp [intOf]; omega)⟩
      · obtain rfl : i = q := by omega
        have g0 : w2.cell? ⟨w1.heap.size, 0, none⟩ = some (.int .i64 K) := by unfold World.cell?; rw [HE2.out]; rfl
        have g1 : w2.cell? ⟨w1.heap.size, 1, none⟩ = some (.int .i64 P) := by unfold World.cell?; rw [HE2.out]; rfl
        rcases HKP.out with hk0 | ⟨hk1, hp1⟩
        · subst hk0
          go_wp2_with fail
          refine (HLV.out w2 HB2.out).mono ?_
          rintro e w3 ⟨rfl, hb3⟩
          have HEND : Hid (Below w.heap.size w w3) := Lib.hid (HB2.out.trans (hb3.mono HB2.out.size))
          clear hb3
          go_wp2_with fail
          go_ret
          exact ⟨rfl, HEND.out⟩
        · subst hk1
          rw [HQL.out] at hp1
          subst hp1
          go_wp2_with fail
          refine (HLV.out w2 HB2.out).mono ?_
          rintro e w3 ⟨rfl, hb3⟩
          have HEND : Hid (Below w.heap.size w w3) := Lib.hid (HB2.out.trans (hb3.mono HB2.out.size))
          clear hb3
          go_wp2_with fail
          go_ret
          exact ⟨rfl, HEND.out⟩
end Go.Proofs.YtgngdkbcndldfaaDoor.frameRight
