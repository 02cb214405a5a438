/- The statement NumParts holds for every input: what is divided is put together again. Conditions: none. -/
import Derived.Test.YtgligmdkikbdoaaRows
import Derived.WalkKit
import Derived.ProofKit
import Derived.OpenShut
import Derived.Test.YtgligmdkikbdoaaNumF
import Derived.ShutString
namespace Go.Proofs.Ytgligmdkikbdoaa.numParts
open Go.ChangeShapes Go.WideShapes Go.ChangeAt Go.RowKit
open Go.ChangeMaps (open_string shut_string)
set_option linter.unusedVariables false      -- a walk need not use every 'w<i>' (that an integer argument fits its kind)

theorem own : ownKnob Try.prog.godebug = none := by kernel_rfl

theorem walk (a0 : Int) (a1 : Int) (w0 : (Lit.int .i64 a0).wf = true) (w1 : (Lit.int .i64 a1).wf = true) (w : World) :
    Calls Try.prog 5 #[.int .i64 a0, .int .i64 a1] w fun e w' => e = .returned (.bool true) ∧ Grown w w' := by
  rcases Bool.eq_false_or_eq_true (Num.fitB a0) with fa | fa
  · rcases Bool.eq_false_or_eq_true (Num.fitB a1) with fb | fb
    · by_cases hb : a1 = 0
      · subst hb
        have d1 : Num.doN 17 a0 0 0 = (0, 3) := by rw [Num.do_reck rfl (by simp) fa fb]; simp [Num.reck]
        have d2 : Num.doN 18 a0 0 0 = (0, 3) := by rw [Num.do_reck rfl (by simp) fa fb]; simp [Num.reck]
        go_enter Try.func5, Try.ntmps5
        go_wp2_with (first | (go_at_call 15; refine (Num.do_any _ _ _ _ _).mono ?_; rintro e w' ⟨rfl, rfl⟩) | (go_at_call 17; refine (Num.Fits_any _ _).mono ?_; rintro e w' ⟨rfl, rfl⟩) | (go_at_call 21; refine (Num.live_any _).mono ?_; rintro e w' ⟨rfl, rfl⟩))
        go_ret
        exact ⟨rfl, Grown.refl _⟩
      · rcases Num.parts_of fa fb hb with ⟨rfl, rfl⟩ | ⟨q, r, d1, d2, d3, ⟨q1, q2⟩, q3, q4, q5⟩
        · have d1 : Num.doN 17 (-2147483648) (-1) 0 = (0, 2) := by decide
          have d2 : Num.doN 18 (-2147483648) (-1) 0 = (0, 0) := by decide
          go_enter Try.func5, Try.ntmps5
          go_wp2_with (first | (go_at_call 15; refine (Num.do_any _ _ _ _ _).mono ?_; rintro e w' ⟨rfl, rfl⟩) | (go_at_call 17; refine (Num.Fits_any _ _).mono ?_; rintro e w' ⟨rfl, rfl⟩) | (go_at_call 21; refine (Num.live_any _).mono ?_; rintro e w' ⟨rfl, rfl⟩))
          go_ret
          exact ⟨rfl, Grown.refl _⟩
        · obtain ⟨ha1, ha2⟩ := Num.fit_iff.1 fa
          obtain ⟨hb1, hb2⟩ := Num.fit_iff.1 fb
          obtain ⟨mb1, mb2⟩ := Num.mul_bd ⟨q1, q2⟩ ⟨hb1, hb2⟩
          have hr1 : -2147483648 ≤ r := by omega
          have hr2 : r ≤ 2147483648 := by omega
          have hr : r < 0 ∨ r = 0 ∨ 0 < r := by omega
          rcases hr with hr | rfl | hr <;> by_cases hc : a1 < 0
          · have h3 := q4 hr
            have h4 : -r < -a1 := by omega
            clear q3 q4 q5
            go_enter Try.func5, Try.ntmps5
            go_wp2_with (first | (go_at_call 15; refine (Num.do_any _ _ _ _ _).mono ?_; rintro e w' ⟨rfl, rfl⟩) | (go_at_call 17; refine (Num.Fits_any _ _).mono ?_; rintro e w' ⟨rfl, rfl⟩) | (go_at_call 21; refine (Num.live_any _).mono ?_; rintro e w' ⟨rfl, rfl⟩))
            go_ret
            exact ⟨rfl, Grown.refl _⟩
          · have h3 := q4 hr
            have h4 : -r < a1 := by omega
            clear q3 q4 q5
            go_enter Try.func5, Try.ntmps5
            go_wp2_with (first | (go_at_call 15; refine (Num.do_any _ _ _ _ _).mono ?_; rintro e w' ⟨rfl, rfl⟩) | (go_at_call 17; refine (Num.Fits_any _ _).mono ?_; rintro e w' ⟨rfl, rfl⟩) | (go_at_call 21; refine (Num.live_any _).mono ?_; rintro e w' ⟨rfl, rfl⟩))
            go_ret
            exact ⟨rfl, Grown.refl _⟩
          · have h4 : 0 < -a1 := by omega
            rw [Int.add_zero] at d3
            clear q3 q4 q5
            go_enter Try.func5, Try.ntmps5
            go_wp2_with (first | (go_at_call 15; refine (Num.do_any _ _ _ _ _).mono ?_; rintro e w' ⟨rfl, rfl⟩) | (go_at_call 17; refine (Num.Fits_any _ _).mono ?_; rintro e w' ⟨rfl, rfl⟩) | (go_at_call 21; refine (Num.live_any _).mono ?_; rintro e w' ⟨rfl, rfl⟩))
            go_ret
            exact ⟨rfl, Grown.refl _⟩
          · have h4 : 0 < a1 := by omega
            rw [Int.add_zero] at d3
            clear q3 q4 q5
            go_enter Try.func5, Try.ntmps5
            go_wp2_with (first | (go_at_call 15; refine (Num.do_any _ _ _ _ _).mono ?_; rintro e w' ⟨rfl, rfl⟩) | (go_at_call 17; refine (Num.Fits_any _ _).mono ?_; rintro e w' ⟨rfl, rfl⟩) | (go_at_call 21; refine (Num.live_any _).mono ?_; rintro e w' ⟨rfl, rfl⟩))
            go_ret
            exact ⟨rfl, Grown.refl _⟩
          · have h3 := q5 hr
            have h4 : r < -a1 := by omega
            have h5 : ¬ a0 < 0 := by omega
            clear q3 q4 q5
            go_enter Try.func5, Try.ntmps5
            go_wp2_with (first | (go_at_call 15; refine (Num.do_any _ _ _ _ _).mono ?_; rintro e w' ⟨rfl, rfl⟩) | (go_at_call 17; refine (Num.Fits_any _ _).mono ?_; rintro e w' ⟨rfl, rfl⟩) | (go_at_call 21; refine (Num.live_any _).mono ?_; rintro e w' ⟨rfl, rfl⟩))
            go_ret
            exact ⟨rfl, Grown.refl _⟩
          · have h3 := q5 hr
            have h4 : r < a1 := by omega
            have h5 : ¬ a0 < 0 := by omega
            clear q3 q4 q5
            go_enter Try.func5, Try.ntmps5
            go_wp2_with (first | (go_at_call 15; refine (Num.do_any _ _ _ _ _).mono ?_; rintro e w' ⟨rfl, rfl⟩) | (go_at_call 17; refine (Num.Fits_any _ _).mono ?_; rintro e w' ⟨rfl, rfl⟩) | (go_at_call 21; refine (Num.live_any _).mono ?_; rintro e w' ⟨rfl, rfl⟩))
            go_ret
            exact ⟨rfl, Grown.refl _⟩
    · have d1 : Num.doN 17 a0 a1 0 = (0, 1) := Num.tk2_no rfl (.inr fb)
      have d2 : Num.doN 18 a0 a1 0 = (0, 1) := Num.tk2_no rfl (.inr fb)
      go_enter Try.func5, Try.ntmps5
      go_wp2_with (first | (go_at_call 15; refine (Num.do_any _ _ _ _ _).mono ?_; rintro e w' ⟨rfl, rfl⟩) | (go_at_call 17; refine (Num.Fits_any _ _).mono ?_; rintro e w' ⟨rfl, rfl⟩) | (go_at_call 21; refine (Num.live_any _).mono ?_; rintro e w' ⟨rfl, rfl⟩))
      go_ret
      exact ⟨rfl, Grown.refl _⟩
  · have d1 : Num.doN 17 a0 a1 0 = (0, 1) := Num.tk2_no rfl (.inl fa)
    have d2 : Num.doN 18 a0 a1 0 = (0, 1) := Num.tk2_no rfl (.inl fa)
    go_enter Try.func5, Try.ntmps5
    go_wp2_with (first | (go_at_call 15; refine (Num.do_any _ _ _ _ _).mono ?_; rintro e w' ⟨rfl, rfl⟩) | (go_at_call 17; refine (Num.Fits_any _ _).mono ?_; rintro e w' ⟨rfl, rfl⟩) | (go_at_call 21; refine (Num.live_any _).mono ?_; rintro e w' ⟨rfl, rfl⟩))
    go_ret
    exact ⟨rfl, Grown.refl _⟩

set_option maxRecDepth 100000 in
theorem lifted (os : Os) (started : os.Started) (H : Type) (enc : TypeId × Value → H) :
    ReturnsInHanded {} Try.checked os 5 .any (Rows.numPartsSpec.pre6 enc Try.prog Try.f5 Rows.numPartsRow.domain false) (Rows.numPartsSpec.post enc Try.prog Try.f5 false true false false) := by
  refine returnsInHanded_of_change (C := Try.checked) own started (by kernel_rfl) Try.func5
    (ChangeSpec.witness6 (enc := enc) (C := Try.checked) false ⟨#[], #[.int .i64 0, .int .i64 0], []⟩ 8 (by kernel_rfl) (by kernel_rfl) (by kernel_rfl) (by kernel_rfl)) ?_
  intro W base args ds gs before hval0 hW hcnd _
  have hval : ∀ (j : Nat) t v, Try.f5.params[j]? = some t → args[j]? = some v → Value.okWide Try.prog W .any base t v := hval0
  have hW' := hW
  obtain ⟨p, q, hA0, hV, rfl, hfz, hnd⟩ := hW
  have hA : DataW.TrodAll enc Try.prog W 0 (fun _ => true) true Try.f5.params.toList args.toList ds p := hA0
  rw [Try.params5] at hA hval
  obtain ⟨v0, vs0, d0, ds0, p0, q0, hargs, rfl, rfl, h0, r0⟩ := trodAll_cons hA
  obtain ⟨v1, vs1, d1, ds1, p1, q1, rfl, rfl, rfl, h1, r1⟩ := trodAll_cons r0
  obtain ⟨rfl, rfl, rfl⟩ := trodAll_nil r1
  obtain rfl : args = #[v0, v1] := by cases args; simp_all
  obtain ⟨rfl, rfl⟩ := trodVars_none hV
  obtain ⟨a0, rfl, rfl, rfl, w0⟩ := open_int Try.underlying3 (hval 0 3 v0 rfl rfl) h0
  obtain ⟨a1, rfl, rfl, rfl, w1⟩ := open_int Try.underlying3 (hval 1 3 v1 rfl rfl) h1
  clear hA0 hval0
  simp only [List.append_nil] at hW'
  refine (walk a0 a1 w0 w1 W).mono fun e W' ⟨he, hg⟩ => ?_
  subst he
  exact ⟨_, rfl, post_of_same (pa := []) (pv := []) hW' (fun _ _ _ => (trodAll_cons_mk (shut_bool Try.underlying4 _) trodAll_mk0)) (fun sp _ => (trodAll_cons_mk (shut_int Try.underlying3 w0) (trodAll_cons_mk (shut_int Try.underlying3 w1) trodAll_mk0))) (fun _ _ => rfl) rfl
    (hg.frame _) hg.2.1 (ok_one (by kernel_rfl) rfl (okWide_bool_mk Try.underlying4 _))⟩

theorem over : Rows.numPartsRow.holds Try.pinned (OpenSpec.ofChange Rows.numPartsSpec) :=
  OpenClaim.holds_of_wide 5 Try.f5 rfl rfl rfl rfl rfl rfl rfl ⟨rfl, rfl, rfl, rfl, rfl⟩ rfl rfl rfl rfl rfl (by kernel_rfl) Try.func5 (by kernel_rfl)
    (of_decide_eq_true (by kernel_rfl)) (by unfold Func.isWrapper; first | (rw [if_pos (by decide +kernel)]; kernel_rfl) | (rw [if_neg (by decide +kernel)]; exact ⟨rfl, rfl⟩))
    (fun os started H enc _ => lifted os started H enc)

theorem proved : Rows.NumPartsSaid :=
  over
#print axioms proved
end Go.Proofs.Ytgligmdkikbdoaa.numParts
