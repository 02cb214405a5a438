/- Expressions that are not the same, in order, are not written alike: the walk. Conditions: none. -/
import Derived.Test.YtgohhnbdicdenaaDoorPq24
namespace Go.Proofs.YtgohhnbdicdenaaDoor.showApart
open Go.ChangeShapes Go.WideShapes Go.ChangeAt Go.RowKit
open Go.Proofs.YtgohhnbdicdenaaDoor.Sh
open Go.Proofs.YtgohhnbdicdenaaDoor.Tr (str ret_bool ret_int Bytes Nd T Nodes May tree mayB Short root normM normB NodesPost)
set_option linter.unusedVariables false
set_option linter.unusedSimpArgs false

set_option maxRecDepth 100000 in
set_option maxHeartbeats 4000000 in
theorem walk (w : World) (hw : ShAt w) (v : Value) (a : List Nd) (hv : Nodes w v a) (hs : Short a) (u : Value) (b : List Nd) (hu : Nodes w u b) (hsb : Short b) : Calls Tryd.prog 11 #[v, u] w fun r w' => r = .returned (.bool true) ∧ Below w.heap.size w w' := by
  have HV := Lib.hid hv
  have HS := Lib.hid hs
  have HU := Lib.hid hu
  have HSB := Lib.hid hsb
  have HW := Lib.hid hw
  obtain ⟨A, c, rfl, h1, h2, hA⟩ := hv
  obtain ⟨B, d, rfl, h3, h4, hB⟩ := hu
  unfold maxLen at h2 h4
  clear hA hB hs hsb hw
  by_cases hl : (a.length : Int) ≤ 200
  rotate_left
  · have hd : decide ((200 : Int) < (a.length : Int)) = true := by simpa using hl
    have hd2 : 200 < a.length := by omega
    clear hl
    go_enter Tryd.func11, Tryd.ntmps11
    go_wp2_with fail
    refine (live_any _ HW.out).mono ?_
    rintro r w1 ⟨rfl, hb1⟩
    have HB1 := Lib.hid hb1
    clear hb1
    go_wp2
    go_ret
    exact ⟨rfl, HB1.out⟩
  have hd : decide ((200 : Int) < (a.length : Int)) = false := by simpa using hl
  have hd2 : ¬ 200 < a.length := by omega
  clear hl
  by_cases hl : (b.length : Int) ≤ 200
  rotate_left
  · have hd : decide ((200 : Int) < (b.length : Int)) = true := by simpa using hl
    have hd2 : 200 < b.length := by omega
    clear hl
    go_enter Tryd.func11, Tryd.ntmps11
    go_wp2_with fail
    refine (live_any _ HW.out).mono ?_
    rintro r w1 ⟨rfl, hb1⟩
    have HB1 := Lib.hid hb1
    clear hb1
    go_wp2
    go_ret
    exact ⟨rfl, HB1.out⟩
  have he : decide ((200 : Int) < (b.length : Int)) = false := by simpa using hl
  have he2 : ¬ 200 < b.length := by omega
  clear hl
  cases hma : smayB a with
  | false =>
    have HMA := Lib.hid hma
    clear hma
    go_enter Tryd.func11, Tryd.ntmps11
    go_wp2_with fail
    refine (smay_lit HV.out HS.out HMA.out).mono ?_
    rintro r w1 ⟨rfl, hb1⟩
    have HB1 := Lib.hid hb1
    clear hb1
    go_wp2_with fail
    refine (live_any _ (HW.out.below HB1.out)).mono ?_
    rintro r w2 ⟨rfl, hb2⟩
    have HB2 := Lib.hid (HB1.out.trans (hb2.mono HB1.out.size))
    clear hb2
    go_wp2
    go_ret
    exact ⟨rfl, HB2.out⟩
  | true =>
    have HMA := Lib.hid hma
    cases hmb : smayB b with
    | false =>
      have HMB := Lib.hid hmb
      clear hma hmb
      go_enter Tryd.func11, Tryd.ntmps11
      go_wp2_with fail
      refine (smay_lit HV.out HS.out HMA.out).mono ?_
      rintro r w1 ⟨rfl, hb1⟩
      have HB1 := Lib.hid hb1
      clear hb1
      go_wp2_with fail
      refine (smay_lit (HU.out.below HB1.out (Nat.le_refl _)) HSB.out HMB.out).mono ?_
      rintro r w2 ⟨rfl, hb2⟩
      have HB2 := Lib.hid (HB1.out.trans (hb2.mono HB1.out.size))
      clear hb2
      go_wp2_with fail
      refine (live_any _ (HW.out.below HB2.out)).mono ?_
      rintro r w3 ⟨rfl, hb3⟩
      have HB3 := Lib.hid (HB2.out.trans (hb3.mono HB2.out.size))
      clear hb3
      go_wp2
      go_ret
      exact ⟨rfl, HB3.out⟩
    | true =>
      have HMB := Lib.hid hmb
      have HA := Lib.hid (smay_may hma).1
      have HB := Lib.hid (smay_may hmb).1
      have hap := show_apart hma hmb (by omega) (by omega)
      obtain ⟨T, hT⟩ : ∃ T, showM a = T := ⟨_, rfl⟩
      obtain ⟨U, hU⟩ : ∃ U, showM b = U := ⟨_, rfl⟩
      rw [hT, hU] at hap
      have HT := Lib.hid hT
      have HUU := Lib.hid hU
      obtain ⟨M, hM⟩ : ∃ M, normM a = M := ⟨_, rfl⟩
      obtain ⟨N, hN⟩ : ∃ N, normM b = N := ⟨_, rfl⟩
      rw [hM, hN] at hap
      have HM := Lib.hid ((norm_eqN HA.out).trans hM)
      have HN := Lib.hid ((norm_eqN HB.out).trans hN)
      have hE : ∃ E : Bool, decide (M = N) = E ∧ ((str T).toList == (str U).toList) = E := by
        refine ⟨_, rfl, ?_⟩
        rw [Tr.str_beq, Bool.eq_iff_iff]
        simpa using hap
      obtain ⟨E, hE1, hE2⟩ := hE
      have HE := Lib.hid hE1
      clear hma hmb hap hT hU hM hN hE1
      cases E
      all_goals
        go_enter Tryd.func11, Tryd.ntmps11
        go_wp2_with fail
        refine (smay_lit HV.out HS.out HMA.out).mono ?_
        rintro r w1 ⟨rfl, hb1⟩
        have HB1 := Lib.hid hb1
        clear hb1
        go_wp2_with fail
        refine (smay_lit (HU.out.below HB1.out (Nat.le_refl _)) HSB.out HMB.out).mono ?_
        rintro r w2 ⟨rfl, hb2⟩
        have HB2 := Lib.hid (HB1.out.trans (hb2.mono HB1.out.size))
        clear hb2
        go_wp2_with fail
        refine (show_lit (HV.out.below HB2.out (Nat.le_refl _)) HS.out (HW.out.below HB2.out) HT.out).mono ?_
        rintro r w3 ⟨rfl, hb3⟩
        have HB3 := Lib.hid (HB2.out.trans (hb3.mono HB2.out.size))
        clear hb3
        go_wp2_with fail
        refine (show_lit (HU.out.below HB3.out (Nat.le_refl _)) HSB.out (HW.out.below HB3.out) HUU.out).mono ?_
        rintro r w4 ⟨rfl, hb4⟩
        have HB4 := Lib.hid (HB3.out.trans (hb4.mono HB3.out.size))
        clear hb4
        go_wp2_with fail
        refine (norm_lit (HV.out.below HB4.out (Nat.le_refl _)) HM.out).mono ?_
        rintro r w5 ⟨x5, rfl, hn5, hb5⟩
        have HB5 := Lib.hid (HB4.out.trans (hb5.mono HB4.out.size))
        have HN5 := Lib.hid hn5
        clear hb5 hn5
        go_wp2_with fail
        refine (norm_lit (HU.out.below HB5.out (Nat.le_refl _)) HN.out).mono ?_
        rintro r w6 ⟨x6, rfl, hn6, hb6⟩
        have HB6 := Lib.hid (HB5.out.trans (hb6.mono HB5.out.size))
        have HN6 := Lib.hid hn6
        have HN56 := Lib.hid (HN5.out.below hb6 (Nat.le_refl _))
        clear hb6 hn6
        go_wp2_with fail
        refine (same_lit HN56.out HN6.out HE.out).mono ?_
        rintro r w7 ⟨rfl, hb7⟩
        have HB7 := Lib.hid (HB6.out.trans (hb7.mono HB6.out.size))
        clear hb7
        go_wp2_with fail
        refine (live_any _ (HW.out.below HB7.out)).mono ?_
        rintro r w8 ⟨rfl, hb8⟩
        have HB8 := Lib.hid (HB7.out.trans (hb8.mono HB7.out.size))
        clear hb8
        go_wp2
        go_ret
        exact ⟨rfl, HB8.out⟩
end Go.Proofs.YtgohhnbdicdenaaDoor.showApart
