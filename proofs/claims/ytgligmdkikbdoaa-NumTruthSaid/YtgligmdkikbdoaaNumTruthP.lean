/- The statement NumTruth holds for every input: And, Or, Xor, Not and If go by truth alone. Conditions: none. -/
import Derived.Test.YtgligmdkikbdoaaRows
import Derived.WalkKit
import Derived.ProofKit
import Derived.OpenShut
import Derived.Test.YtgligmdkikbdoaaNumF
import Derived.ShutString
namespace Go.Proofs.Ytgligmdkikbdoaa.numTruth
open Go.ChangeShapes Go.WideShapes Go.ChangeAt Go.RowKit
open Go.ChangeMaps (open_string shut_string)
set_option linter.unusedVariables false      -- a walk need not use every 'w<i>' (that an integer argument fits its kind)

theorem own : ownKnob Try.prog.godebug = none := by kernel_rfl

theorem walk (a0 : Int) (a1 : Int) (w0 : (Lit.int .i64 a0).wf = true) (w1 : (Lit.int .i64 a1).wf = true) (w : World) :
    Calls Try.prog 7 #[.int .i64 a0, .int .i64 a1] w fun e w' => e = .returned (.bool true) ∧ Grown w w' := by
  rcases Bool.eq_false_or_eq_true (Num.fitB a0) with fa | fa
  · rcases Bool.eq_false_or_eq_true (Num.fitB a1) with fb | fb
    · by_cases ha : a0 = 0 <;> by_cases hb : a1 = 0
      · subst ha; subst hb
        have d1 : Num.doN 6 0 0 0 = (0, 0) := Num.join_val (x := false) (y := false) rfl (by simp) fa fb (by decide) (by decide)
        have d2 : Num.doN 7 0 0 0 = (0, 0) := Num.join_val (x := false) (y := false) rfl (by simp) fa fb (by decide) (by decide)
        have d3 : Num.doN 8 0 0 0 = (0, 0) := Num.join_val (x := false) (y := false) rfl (by simp) fa fb (by decide) (by decide)
        have d4 : Num.doN 4 0 0 0 = (1, 0) := by rw [Num.do_not fa]; rfl
        have d5 : Num.doN 26 0 7 8 = (8, 0) := by rw [Num.do_if fa (by decide) (by decide)]; rfl
        have d6 : Num.bitN 0 = 0 := rfl
        clear w0 w1
        go_enter Try.func7, Try.ntmps7
        go_wp2_with (first | (go_at_call 15; refine (Num.do_any _ _ _ _ _).mono ?_; rintro e w' ⟨rfl, rfl⟩) | (go_at_call 17; refine (Num.Fits_any _ _).mono ?_; rintro e w' ⟨rfl, rfl⟩) | (go_at_call 21; refine (Num.live_any _).mono ?_; rintro e w' ⟨rfl, rfl⟩) | (go_at_call 22; refine (Num.bit_any _ _).mono ?_; rintro e w' ⟨rfl, rfl⟩))
        go_ret
        exact ⟨rfl, Grown.refl _⟩
      · subst ha
        have d1 : Num.doN 6 0 a1 0 = (0, 0) := Num.join_val (x := false) (y := true) rfl (by simp) fa fb (by decide) (bne_iff_ne.2 hb)
        have d2 : Num.doN 7 0 a1 0 = (1, 0) := Num.join_val (x := false) (y := true) rfl (by simp) fa fb (by decide) (bne_iff_ne.2 hb)
        have d3 : Num.doN 8 0 a1 0 = (1, 0) := Num.join_val (x := false) (y := true) rfl (by simp) fa fb (by decide) (bne_iff_ne.2 hb)
        have d4 : Num.doN 4 0 0 0 = (1, 0) := by rw [Num.do_not fa]; rfl
        have d5 : Num.doN 26 0 7 8 = (8, 0) := by rw [Num.do_if fa (by decide) (by decide)]; rfl
        have d6 : Num.bitN 0 = 0 := rfl
        have d7 : Num.bitN a1 = 1 := by simp [Num.bitN, hb]
        clear hb w0 w1
        go_enter Try.func7, Try.ntmps7
        go_wp2_with (first | (go_at_call 15; refine (Num.do_any _ _ _ _ _).mono ?_; rintro e w' ⟨rfl, rfl⟩) | (go_at_call 17; refine (Num.Fits_any _ _).mono ?_; rintro e w' ⟨rfl, rfl⟩) | (go_at_call 21; refine (Num.live_any _).mono ?_; rintro e w' ⟨rfl, rfl⟩) | (go_at_call 22; refine (Num.bit_any _ _).mono ?_; rintro e w' ⟨rfl, rfl⟩))
        go_ret
        exact ⟨rfl, Grown.refl _⟩
      · subst hb
        have d1 : Num.doN 6 a0 0 0 = (0, 0) := Num.join_val (x := true) (y := false) rfl (by simp) fa fb (bne_iff_ne.2 ha) (by decide)
        have d2 : Num.doN 7 a0 0 0 = (1, 0) := Num.join_val (x := true) (y := false) rfl (by simp) fa fb (bne_iff_ne.2 ha) (by decide)
        have d3 : Num.doN 8 a0 0 0 = (1, 0) := Num.join_val (x := true) (y := false) rfl (by simp) fa fb (bne_iff_ne.2 ha) (by decide)
        have d4 : Num.doN 4 a0 0 0 = (0, 0) := by rw [Num.do_not fa]; simp [ha, Num.bn]
        have d5 : Num.doN 26 a0 7 8 = (7, 0) := by rw [Num.do_if fa (by decide) (by decide)]; simp [ha]
        have d6 : Num.bitN a0 = 1 := by simp [Num.bitN, ha]
        have d7 : Num.bitN 0 = 0 := rfl
        clear ha w0 w1
        go_enter Try.func7, Try.ntmps7
        go_wp2_with (first | (go_at_call 15; refine (Num.do_any _ _ _ _ _).mono ?_; rintro e w' ⟨rfl, rfl⟩) | (go_at_call 17; refine (Num.Fits_any _ _).mono ?_; rintro e w' ⟨rfl, rfl⟩) | (go_at_call 21; refine (Num.live_any _).mono ?_; rintro e w' ⟨rfl, rfl⟩) | (go_at_call 22; refine (Num.bit_any _ _).mono ?_; rintro e w' ⟨rfl, rfl⟩))
        go_ret
        exact ⟨rfl, Grown.refl _⟩
      · skip
        have d1 : Num.doN 6 a0 a1 0 = (1, 0) := Num.join_val (x := true) (y := true) rfl (by simp) fa fb (bne_iff_ne.2 ha) (bne_iff_ne.2 hb)
        have d2 : Num.doN 7 a0 a1 0 = (1, 0) := Num.join_val (x := true) (y := true) rfl (by simp) fa fb (bne_iff_ne.2 ha) (bne_iff_ne.2 hb)
        have d3 : Num.doN 8 a0 a1 0 = (0, 0) := Num.join_val (x := true) (y := true) rfl (by simp) fa fb (bne_iff_ne.2 ha) (bne_iff_ne.2 hb)
        have d4 : Num.doN 4 a0 0 0 = (0, 0) := by rw [Num.do_not fa]; simp [ha, Num.bn]
        have d5 : Num.doN 26 a0 7 8 = (7, 0) := by rw [Num.do_if fa (by decide) (by decide)]; simp [ha]
        have d6 : Num.bitN a0 = 1 := by simp [Num.bitN, ha]
        have d7 : Num.bitN a1 = 1 := by simp [Num.bitN, hb]
        clear ha hb w0 w1
        go_enter Try.func7, Try.ntmps7
        go_wp2_with (first | (go_at_call 15; refine (Num.do_any _ _ _ _ _).mono ?_; rintro e w' ⟨rfl, rfl⟩) | (go_at_call 17; refine (Num.Fits_any _ _).mono ?_; rintro e w' ⟨rfl, rfl⟩) | (go_at_call 21; refine (Num.live_any _).mono ?_; rintro e w' ⟨rfl, rfl⟩) | (go_at_call 22; refine (Num.bit_any _ _).mono ?_; rintro e w' ⟨rfl, rfl⟩))
        go_ret
        exact ⟨rfl, Grown.refl _⟩
    · skip
      go_enter Try.func7, Try.ntmps7
      go_wp2_with (first | (go_at_call 15; refine (Num.do_any _ _ _ _ _).mono ?_; rintro e w' ⟨rfl, rfl⟩) | (go_at_call 17; refine (Num.Fits_any _ _).mono ?_; rintro e w' ⟨rfl, rfl⟩) | (go_at_call 21; refine (Num.live_any _).mono ?_; rintro e w' ⟨rfl, rfl⟩))
      go_ret
      exact ⟨rfl, Grown.refl _⟩
  · skip
    go_enter Try.func7, Try.ntmps7
    go_wp2_with (first | (go_at_call 15; refine (Num.do_any _ _ _ _ _).mono ?_; rintro e w' ⟨rfl, rfl⟩) | (go_at_call 17; refine (Num.Fits_any _ _).mono ?_; rintro e w' ⟨rfl, rfl⟩) | (go_at_call 21; refine (Num.live_any _).mono ?_; rintro e w' ⟨rfl, rfl⟩))
    go_ret
    exact ⟨rfl, Grown.refl _⟩

set_option maxRecDepth 100000 in
theorem lifted (os : Os) (started : os.Started) (H : Type) (enc : TypeId × Value → H) :
    ReturnsInHanded {} Try.checked os 7 .any (Rows.numTruthSpec.pre6 enc Try.prog Try.f7 Rows.numTruthRow.domain false) (Rows.numTruthSpec.post enc Try.prog Try.f7 false true false false) := by
  refine returnsInHanded_of_change (C := Try.checked) own started (by kernel_rfl) Try.func7
    (ChangeSpec.witness6 (enc := enc) (C := Try.checked) false ⟨#[], #[.int .i64 0, .int .i64 0], []⟩ 8 (by kernel_rfl) (by kernel_rfl) (by kernel_rfl) (by kernel_rfl)) ?_
  intro W base args ds gs before hval0 hW hcnd _
  have hval : ∀ (j : Nat) t v, Try.f7.params[j]? = some t → args[j]? = some v → Value.okWide Try.prog W .any base t v := hval0
  have hW' := hW
  obtain ⟨p, q, hA0, hV, rfl, hfz, hnd⟩ := hW
  have hA : DataW.TrodAll enc Try.prog W 0 (fun _ => true) true Try.f7.params.toList args.toList ds p := hA0
  rw [Try.params7] at hA hval
  obtain ⟨v0, vs0, d0, ds0, p0, q0, hargs, rfl, rfl, h0, r0⟩ := trodAll_cons hA
  obtain ⟨v1, vs1, d1, ds1, p1, q1, rfl, rfl, rfl, h1, r1⟩ := trodAll_cons r0
  obtain ⟨rfl, rfl, rfl⟩ := trodAll_nil r1
  obtain rfl : args = #[v0, v1] := by cases args; simp_all
  obtain ⟨rfl, rfl⟩ := trodVars_none hV
  obtain ⟨a0, rfl, rfl, rfl, w0⟩ := open_int Try.underlying3 (hval 0 3 v0 rfl rfl) h0
  obtain ⟨a1, rfl, rfl, rfl, w1⟩ := open_int Try.underlying3 (hval 1 3 v1 rfl rfl) h1
  clear hA0 hval0
  simp only [List.append_nil] at hW'
  refine (walk a0 a1 w0 w1 W).mono fun e W' ⟨he, hg⟩ => ?_
  subst he
  exact ⟨_, rfl, post_of_same (pa := []) (pv := []) hW' (fun _ _ _ => (trodAll_cons_mk (shut_bool Try.underlying4 _) trodAll_mk0)) (fun sp _ => (trodAll_cons_mk (shut_int Try.underlying3 w0) (trodAll_cons_mk (shut_int Try.underlying3 w1) trodAll_mk0))) (fun _ _ => rfl) rfl
    (hg.frame _) hg.2.1 (ok_one (by kernel_rfl) rfl (okWide_bool_mk Try.underlying4 _))⟩

theorem over : Rows.numTruthRow.holds Try.pinned (OpenSpec.ofChange Rows.numTruthSpec) :=
  OpenClaim.holds_of_wide 7 Try.f7 rfl rfl rfl rfl rfl rfl rfl ⟨rfl, rfl, rfl, rfl, rfl⟩ rfl rfl rfl rfl rfl (by kernel_rfl) Try.func7 (by kernel_rfl)
    (of_decide_eq_true (by kernel_rfl)) (by unfold Func.isWrapper; first | (rw [if_pos (by decide +kernel)]; kernel_rfl) | (rw [if_neg (by decide +kernel)]; exact ⟨rfl, rfl⟩))
    (fun os started H enc _ => lifted os started H enc)

theorem proved : Rows.NumTruthSaid :=
  over
#print axioms proved
end Go.Proofs.Ytgligmdkikbdoaa.numTruth
