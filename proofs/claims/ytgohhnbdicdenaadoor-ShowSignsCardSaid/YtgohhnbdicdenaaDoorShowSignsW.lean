/- What is written has as many round signs that open as close: the walk. Conditions: none. -/
import Derived.Test.YtgohhnbdicdenaaDoorPq24
namespace Go.Proofs.YtgohhnbdicdenaaDoor.showSigns
open Go.ChangeShapes Go.WideShapes Go.ChangeAt Go.RowKit
open Go.Proofs.YtgohhnbdicdenaaDoor.Sh
open Go.Proofs.YtgohhnbdicdenaaDoor.Tr (str ret_bool ret_int Bytes Nd T Nodes May tree mayB Short root normM normB NodesPost)
set_option linter.unusedVariables false
set_option linter.unusedSimpArgs false

set_option maxRecDepth 100000 in
set_option maxHeartbeats 4000000 in
theorem walk (w : World) (hw : ShAt w) (v : Value) (a : List Nd) (hv : Nodes w v a) (hs : Short a) : Calls Tryd.prog 10 #[v] w fun r w' => r = .returned (.bool true) ∧ Below w.heap.size w w' := by
  have HV := Lib.hid hv
  have HS := Lib.hid hs
  have HW := Lib.hid hw
  obtain ⟨A, c, rfl, h1, h2, hA⟩ := hv
  unfold maxLen at h2
  clear hA hs hw
  by_cases hl : (a.length : Int) ≤ 200
  rotate_left
  · have hd : decide ((200 : Int) < (a.length : Int)) = true := by simpa using hl
    have hd2 : 200 < a.length := by omega
    clear hl
    go_enter Tryd.func10, Tryd.ntmps10
    go_wp2_with fail
    refine (live_any _ HW.out).mono ?_
    rintro r w1 ⟨rfl, hb1⟩
    have HB1 := Lib.hid hb1
    clear hb1
    go_wp2
    go_ret
    exact ⟨rfl, HB1.out⟩
  have hd : decide ((200 : Int) < (a.length : Int)) = false := by simpa using hl
  have hd2 : ¬ 200 < a.length := by omega
  clear hl
  cases hm : smayB a with
  | false =>
    have HM := Lib.hid hm
    clear hm
    go_enter Tryd.func10, Tryd.ntmps10
    go_wp2_with fail
    refine (smay_lit HV.out HS.out HM.out).mono ?_
    rintro r w1 ⟨rfl, hb1⟩
    have HB1 := Lib.hid hb1
    clear hb1
    go_wp2_with fail
    refine (live_any _ (HW.out.below HB1.out)).mono ?_
    rintro r w2 ⟨rfl, hb2⟩
    have HB2 := Lib.hid (HB1.out.trans (hb2.mono HB1.out.size))
    clear hb2
    go_wp2
    go_ret
    exact ⟨rfl, HB2.out⟩
  | true =>
    have HM := Lib.hid hm
    have hMay := (smay_may hm).1
    have HSM := Lib.hid (small_may hMay)
    have HSN := Lib.hid (small_not (small_may hMay) (by omega))
    have HP := Lib.hid hMay.pos
    have HS1 := Lib.hid (short_not HS.out)
    have HS2 := Lib.hid (short_not (short_not HS.out))
    have hbal := show_bal a
    have hsz := show_size (e := a) (m := 200) (by omega)
    have hszn := show_size (e := notM a) (m := 201) (by rw [not_len]; omega)
    have hlaw := fun h2 => not_law hm h2 (by omega)
    obtain ⟨T, hT⟩ : ∃ T, showM a = T := ⟨_, rfl⟩
    obtain ⟨X, hX⟩ : ∃ X, showM (notM a) = X := ⟨_, rfl⟩
    obtain ⟨Y, hY⟩ : ∃ Y, showM (notM (notM a)) = Y := ⟨_, rfl⟩
    have HT := Lib.hid hT
    have HX := Lib.hid hX
    have HY := Lib.hid hY
    rw [hT] at hbal hsz
    rw [hX] at hszn
    rw [hX, hY] at hlaw
    have HBAL := Lib.hid hbal
    have HLAW := Lib.hid hlaw
    obtain ⟨S, hS⟩ : ∃ S, str T = S := ⟨_, rfl⟩
    have HST := Lib.hid (show S.toList = T by rw [← hS]; exact Tr.str_toList T)
    have hSl : S.size = T.length := by rw [← hS]; exact Tr.str_size T
    rw [hS] at hsz
    have HSH : Hid (∀ w1, Below w.heap.size w w1 → Calls Tryd.prog 20 #[.slice A a.length c] w1 fun r w' => r = .returned (.string S) ∧ Below w1.heap.size w1 w') := Lib.hid (fun w1 hb => by
      rw [← hS]; exact show_lit (HV.out.below hb (Nat.le_refl _)) HS.out (HW.out.below hb) hT)
    have hTl : T.length ≤ 10000 := by omega
    have HE := Lib.hid (show bal (T.take S.size) = 0 by rw [hSl, List.take_of_length_le (Nat.le_refl _)]; exact hbal.2)
    have HSZ := Lib.hid (show 4 + (str X).size ≤ 9223372036854775807 ∧ (str X).size ≤ 1000000 from ⟨by omega, by omega⟩)
    have HADD : Hid (∀ w, (binOp .add 9 (.string ⟨#[110, 111, 116, 32]⟩) (.string (str X))).run Tryd.prog w = .ok (.string (str ([110, 111, 116, 32] ++ X))) w) := Lib.hid (fun w => add_not X w (by omega))
    clear hm hMay hbal hlaw hT hX hY hS hszn
    go_enter Tryd.func10, Tryd.ntmps10
    go_wp2_with fail
    refine (smay_lit HV.out HS.out HM.out).mono ?_
    rintro r w1 ⟨rfl, hb1⟩
    have HB1 := Lib.hid hb1
    clear hb1
    go_wp2_with fail
    refine (HSH.out _ HB1.out).mono ?_
    rintro r w2 ⟨rfl, hb2⟩
    have HB2 := Lib.hid (HB1.out.trans (hb2.mono HB1.out.size))
    clear hb2
    go_wp2
    go_loopw [4, 5] (fun o i wr => ∃ k : Nat, k ≤ S.size ∧ i = .int .i64 k ∧ o = .int .i64 (bal (T.take k)) ∧ Below w.heap.size w wr) (fun _ i _ => S.size - (intOf i).toNat)
    case atStart => exact ⟨0, Nat.zero_le _, rfl, rfl, HB2.out⟩
    case round =>
      obtain ⟨k, hk, rfl, rfl, hb⟩ := hrel
      have HB := Lib.hid hb
      clear hb
      have hpos := HBAL.out.1 k
      have hle := bal_le T k
      by_cases hlt : k < S.size
      · have hc := bal_next (T := T) (k := k) (c := S[k]) (by rw [← HST.out]; exact Lx.toList_get S k hlt)
        have hpos2 := HBAL.out.1 (k + 1)
        generalize bal (T.take k) = B at hpos hle hc ⊢
        have e40 : (S[k] = 40) ↔ ((S[k].toNat : Int) == 40) = true := by rw [beq_iff_eq]; exact Lx.eq_cast _ _
        have e41 : (S[k] = 41) ↔ ((S[k].toNat : Int) == 41) = true := by rw [beq_iff_eq]; exact Lx.eq_cast _ _
        rcases Bool.eq_false_or_eq_true ((S[k].toNat : Int) == 40) with z | z
        · have hq : S[k] = 40 := e40.2 z
          have z2 : ((S[k].toNat : Int) == 41) = false := by rw [hq]; rfl
          rw [if_pos hq] at hc
          have HC := Lib.hid hc
          have hp2 : 0 ≤ B + 1 := by omega
          clear e40 e41 hq hc hpos2
          go_wp2
          exact ⟨⟨k + 1, hlt, by go_num, by rw [HC.out], HB.out⟩, by simp [intOf]; omega⟩
        · have hq : S[k] ≠ 40 := fun h => by rw [e40.1 h] at z; cases z
          rw [if_neg hq] at hc
          rcases Bool.eq_false_or_eq_true ((S[k].toNat : Int) == 41) with y | y
          · rw [if_pos (e41.2 y)] at hc
            have HC := Lib.hid hc
            have hp2 : 0 ≤ B - 1 := by omega
            clear e40 e41 hq hc hpos2
            go_wp2
            exact ⟨⟨k + 1, hlt, by go_num, by rw [HC.out]; rfl, HB.out⟩, by simp [intOf]; omega⟩
          · rw [if_neg (fun h => by rw [e41.1 h] at y; cases y)] at hc
            have HC := Lib.hid hc
            clear e40 e41 hq hc hpos2
            go_wp2
            exact ⟨⟨k + 1, hlt, by go_num, by rw [HC.out]; simp, HB.out⟩, by simp [intOf]; omega⟩
      · have hkl : k = S.size := by omega
        subst hkl
        rw [HE.out]
        clear hpos hle
        go_wp2_with fail
        refine (not_lit rfl (HV.out.below HB.out (Nat.le_refl _)) HSM.out HP.out (by omega)).mono ?_
        rintro r w3 ⟨u3, rfl, hn3, hb3⟩
        obtain ⟨A3, c3, rfl, y31, y32, _⟩ := id hn3
        have HB3 := Lib.hid (HB.out.trans (hb3.mono HB.out.size))
        have HN3 := Lib.hid hn3
        clear hb3 hn3
        go_wp2_with fail
        refine (not_lit rfl HN3.out HSN.out (by rw [not_len]; omega) (by rw [not_len]; omega)).mono ?_
        rintro r w4 ⟨u4, rfl, hn4, hb4⟩
        obtain ⟨A4, c4, rfl, y41, y42, _⟩ := id hn4
        have HB4 := Lib.hid (HB3.out.trans (hb4.mono HB3.out.size))
        have HN4 := Lib.hid hn4
        have HN34 := Lib.hid (HN3.out.below hb4 (Nat.le_refl _))
        clear hb4 hn4
        cases hm2 : smayB (notM (notM a)) with
        | false =>
          have HM2 := Lib.hid hm2
          clear hm2
          go_wp2_with fail
          refine (smay_lit HN4.out HS2.out HM2.out).mono ?_
          rintro r w5 ⟨rfl, hb5⟩
          have HB5 := Lib.hid (HB4.out.trans (hb5.mono HB4.out.size))
          clear hb5
          go_wp2_with fail
          refine (live_any _ (HW.out.below HB5.out)).mono ?_
          rintro r w6 ⟨rfl, hb6⟩
          have HB6 := Lib.hid (HB5.out.trans (hb6.mono HB5.out.size))
          clear hb6
          go_wp2
          go_ret
          exact ⟨rfl, HB6.out⟩
        | true =>
          have HM2 := Lib.hid hm2
          obtain ⟨_, hXY⟩ := HLAW.out hm2
          have hq : ((str Y).toList == (str ([110, 111, 116, 32] ++ X)).toList) = true := by rw [hXY]; simp
          have hq2 : ((str Y).toList == ((ByteArray.mk #[110, 111, 116, 32]) ++ str X).toList) = true := by
            rw [Lx.app_toList, show (ByteArray.mk #[110, 111, 116, 32]) = str [110, 111, 116, 32] from rfl, Tr.str_toList, Tr.str_toList, Tr.str_toList, hXY]; simp
          obtain ⟨hszX, hszX2⟩ := HSZ.out
          clear hm2 hXY
          go_wp2_with fail
          refine (smay_lit HN4.out HS2.out HM2.out).mono ?_
          rintro r w5 ⟨rfl, hb5⟩
          have HB5 := Lib.hid (HB4.out.trans (hb5.mono HB4.out.size))
          have HN5 := Lib.hid (HN4.out.below hb5 (Nat.le_refl _))
          have HN35 := Lib.hid (HN34.out.below hb5 (Nat.le_refl _))
          clear hb5
          go_wp2_with fail
          refine (show_lit HN5.out HS2.out (HW.out.below HB5.out) HY.out).mono ?_
          rintro r w6 ⟨rfl, hb6⟩
          have HB6 := Lib.hid (HB5.out.trans (hb6.mono HB5.out.size))
          have HN36 := Lib.hid (HN35.out.below hb6 (Nat.le_refl _))
          clear hb6
          go_wp2_with fail
          refine (show_lit HN36.out HS1.out (HW.out.below HB6.out) HX.out).mono ?_
          rintro r w7 ⟨rfl, hb7⟩
          have HB7 := Lib.hid (HB6.out.trans (hb7.mono HB6.out.size))
          clear hb7
          go_wp2_with fail
          refine (live_any _ (HW.out.below HB7.out)).mono ?_
          rintro r w8 ⟨rfl, hb8⟩
          have HB8 := Lib.hid (HB7.out.trans (hb8.mono HB7.out.size))
          clear hb8
          go_wp2
          go_ret
          exact ⟨rfl, HB8.out⟩
end Go.Proofs.YtgohhnbdicdenaaDoor.showSigns
