/- The statement NumFits holds for every input: what is told fits; of what is told by truth it is 0 or 1. Conditions: none. -/
import Derived.Test.YtgligmdkikbdoaaRows
import Derived.WalkKit
import Derived.ProofKit
import Derived.OpenShut
import Derived.Lib.SmallJoins
import Derived.Test.YtgligmdkikbdoaaNumF
namespace Go.Proofs.Ytgligmdkikbdoaa.numFits
open Go.ChangeShapes Go.WideShapes Go.ChangeAt Go.RowKit Go.Joins
set_option linter.unusedVariables false

theorem own : ownKnob Try.prog.godebug = none := by kernel_rfl
theorem cells23 : Try.prog.cellsOf 23 = 4 := by kernel_rfl

theorem doN_kinds (op a b c : Int) : ∃ n e : Int, Num.doN op a b c = (n, e) ∧ ((e ≠ 0 ∧ n = 0) ∨ (e = 0 ∧ Num.fitB n = true ∧ ((op = 4 ∨ (6 ≤ op ∧ op ≤ 13)) → n = 0 ∨ n = 1))) := by
  have hbn : ∀ x : Bool, (Num.bn x = 0 ∨ Num.bn x = 1) ∧ Num.fitB (Num.bn x) = true := fun x => by cases x <;> decide
  have hov : ∀ n : Int, ∃ m e : Int, Num.over n = (m, e) ∧ ((e ≠ 0 ∧ m = 0) ∨ (e = 0 ∧ Num.fitB m = true)) := fun n => by
    rcases Bool.eq_false_or_eq_true (Num.fitB n) with h | h
    · exact ⟨n, 0, by simp [Num.over, h], .inr ⟨rfl, h⟩⟩
    · exact ⟨0, 2, by simp [Num.over, h], .inl ⟨by decide, rfl⟩⟩
  by_cases ht : Num.takenB (Num.opN op) a b c = false
  · exact ⟨0, 1, by simp [Num.doN, ht], .inl ⟨by decide, rfl⟩⟩
  · have ht' : Num.takenB (Num.opN op) a b c = true := by simpa using ht
    by_cases h26 : op = 26
    · subst h26
      have h3 : Num.takenB 3 a b c = true := ht'
      simp [Num.takenB] at h3
      refine ⟨if a ≠ 0 then b else c, 0, by simp [Num.doN, ht'], .inr ⟨rfl, ?_, fun h => by omega⟩⟩
      split
      · exact h3.1.2
      · exact h3.1.1
    · by_cases hr : op = 5 ∨ op = 14 ∨ op = 15 ∨ op = 16 ∨ op = 17 ∨ op = 18
      · have e : Num.doN op a b c = Num.reck op a b := by unfold Num.doN; rw [if_neg ht, if_neg h26, if_pos hr]
        rw [e]; unfold Num.reck
        split
        · exact ⟨0, 3, rfl, .inl ⟨by decide, rfl⟩⟩
        · obtain ⟨m, e, h1, h2⟩ := hov (if op = 5 then -a else if op = 15 then a - b else if op = 14 then a + b else if op = 16 then a * b else if op = 17 then a.tdiv b else if op = 18 then a.tmod b else a)
          refine ⟨m, e, h1, ?_⟩
          rcases h2 with h2 | ⟨h2, h3⟩
          · exact .inl h2
          · exact .inr ⟨h2, h3, fun h => by omega⟩
      · by_cases hc : op = 10 ∨ op = 11 ∨ op = 12 ∨ op = 13
        · exact ⟨_, 0, by unfold Num.doN; rw [if_neg ht, if_neg h26, if_neg hr, if_pos hc], .inr ⟨rfl, (hbn _).2, fun _ => (hbn _).1⟩⟩
        · exact ⟨_, 0, by unfold Num.doN; rw [if_neg ht, if_neg h26, if_neg hr, if_neg hc], .inr ⟨rfl, (hbn _).2, fun _ => (hbn _).1⟩⟩

theorem walk (op a b c : Int) (wo : (Lit.int .i64 op).wf = true) (wa : (Lit.int .i64 a).wf = true) (wb : (Lit.int .i64 b).wf = true) (wc : (Lit.int .i64 c).wf = true) (w : World) :
    Calls Try.prog 4 #[.agg #[.int .i64 op, .int .i64 a, .int .i64 b, .int .i64 c]] w fun e w' => e = .returned (.bool true) ∧ Grown w w' := by
  obtain ⟨n, e, hd, h⟩ := doN_kinds op a b c
  rcases h with ⟨he, rfl⟩ | ⟨rfl, hf, hk⟩
  · have he' : (e != 0) = true := bne_iff_ne.2 he
    clear he
    go_enter Try.func4, Try.ntmps4
    go_wp2_with (first | (go_at_call 15; refine (Num.do_any _ _ _ _ _).mono ?_; rintro e w' ⟨rfl, rfl⟩) | (go_at_call 17; refine (Num.Fits_any _ _).mono ?_; rintro e w' ⟨rfl, rfl⟩) | (go_at_call 21; refine (Num.live_any _).mono ?_; rintro e w' ⟨rfl, rfl⟩))
    go_ret
    exact ⟨rfl, (Grown.refl _).alloc _ _⟩
  · by_cases h4 : op = 4
    · subst h4
      rcases hk (.inl rfl) with rfl | rfl
      all_goals
        clear hk
        go_enter Try.func4, Try.ntmps4
        go_wp2_with (first | (go_at_call 15; refine (Num.do_any _ _ _ _ _).mono ?_; rintro e w' ⟨rfl, rfl⟩) | (go_at_call 17; refine (Num.Fits_any _ _).mono ?_; rintro e w' ⟨rfl, rfl⟩) | (go_at_call 21; refine (Num.live_any _).mono ?_; rintro e w' ⟨rfl, rfl⟩))
        go_ret
        exact ⟨rfl, (Grown.refl _).alloc _ _⟩
    · have k4 : (op == 4) = false := beq_eq_false_iff_ne.2 h4
      by_cases h6 : 6 ≤ op
      · by_cases h13 : op ≤ 13
        · have k13 : decide (op ≤ 13) = true := by simpa using h13
          rcases hk (.inr ⟨h6, h13⟩) with rfl | rfl
          all_goals
            clear hk
            go_enter Try.func4, Try.ntmps4
            go_wp2_with (first | (go_at_call 15; refine (Num.do_any _ _ _ _ _).mono ?_; rintro e w' ⟨rfl, rfl⟩) | (go_at_call 17; refine (Num.Fits_any _ _).mono ?_; rintro e w' ⟨rfl, rfl⟩) | (go_at_call 21; refine (Num.live_any _).mono ?_; rintro e w' ⟨rfl, rfl⟩))
            go_ret
            exact ⟨rfl, (Grown.refl _).alloc _ _⟩
        · have k13 : decide (op ≤ 13) = false := by simpa using h13
          clear hk
          go_enter Try.func4, Try.ntmps4
          go_wp2_with (first | (go_at_call 15; refine (Num.do_any _ _ _ _ _).mono ?_; rintro e w' ⟨rfl, rfl⟩) | (go_at_call 17; refine (Num.Fits_any _ _).mono ?_; rintro e w' ⟨rfl, rfl⟩) | (go_at_call 21; refine (Num.live_any _).mono ?_; rintro e w' ⟨rfl, rfl⟩))
          go_ret
          exact ⟨rfl, (Grown.refl _).alloc _ _⟩
      · clear hk
        go_enter Try.func4, Try.ntmps4
        go_wp2_with (first | (go_at_call 15; refine (Num.do_any _ _ _ _ _).mono ?_; rintro e w' ⟨rfl, rfl⟩) | (go_at_call 17; refine (Num.Fits_any _ _).mono ?_; rintro e w' ⟨rfl, rfl⟩) | (go_at_call 21; refine (Num.live_any _).mono ?_; rintro e w' ⟨rfl, rfl⟩))
        go_ret
        exact ⟨rfl, (Grown.refl _).alloc _ _⟩

set_option maxRecDepth 100000 in
theorem lifted (os : Os) (started : os.Started) (H : Type) (enc : TypeId × Value → H) :
    ReturnsInHanded {} Try.checked os 4 .any (Rows.numFitsSpec.pre6 enc Try.prog Try.f4 Rows.numFitsRow.domain false) (Rows.numFitsSpec.post enc Try.prog Try.f4 false true false false) := by
  refine returnsInHanded_of_change (C := Try.checked) own started (by kernel_rfl) Try.func4
    (ChangeSpec.witness6 (enc := enc) (C := Try.checked) false ⟨#[], #[.agg #[.int .i64 0, .int .i64 0, .int .i64 0, .int .i64 0]], []⟩ 8 (by kernel_rfl) (by kernel_rfl) (by kernel_rfl) (by kernel_rfl)) ?_
  intro W base args ds gs before hval0 hW hcnd _
  have hval : ∀ (j : Nat) t v, Try.f4.params[j]? = some t → args[j]? = some v → Value.okWide Try.prog W .any base t v := hval0
  have hW' := hW
  obtain ⟨p, q, hA0, hV, rfl, hfz, hnd⟩ := hW
  have hA : DataW.TrodAll enc Try.prog W 0 (fun _ => true) true Try.f4.params.toList args.toList ds p := hA0
  rw [Try.params4] at hA hval
  obtain ⟨v0, d0, rfl, rfl, h0⟩ := trodAll_one hA
  obtain ⟨rfl, rfl⟩ := trodVars_none hV
  obtain ⟨c0, c1, c2, c3, y0, y1, y2, y3, m, rfl, rfl, rfl, hy0, hy1, hy2, hy3⟩ := open_agg4 Try.underlying23 (by kernel_rfl) cells23 (hval 0 23 v0 rfl rfl) h0
  obtain ⟨op, e0, rfl, wo⟩ := DataW.trod_int Try.underlying3 hy0
  obtain ⟨a, e1, rfl, wa⟩ := DataW.trod_int Try.underlying3 hy1
  obtain ⟨b, e2, rfl, wb⟩ := DataW.trod_int Try.underlying3 hy2
  obtain ⟨c, e3, rfl, wc⟩ := DataW.trod_int Try.underlying3 hy3
  simp at e0 e1 e2 e3
  subst e0 e1 e2 e3
  clear hA0 hval0
  simp only [List.append_nil] at hW'
  have structReads : ∀ (W' : World) (sp : Nat → Bool), DataW.Trod enc Try.prog W' 0 sp true 23 (.agg #[.int .i64 op, .int .i64 a, .int .i64 b, .int .i64 c]) (.agg [.lit (.int .i64 op), .lit (.int .i64 a), .lit (.int .i64 b), .lit (.int .i64 c)]) [] := fun W' sp =>
    shut_agg4 (y0 := (.lit (.int .i64 op), [])) (y1 := (.lit (.int .i64 a), [])) (y2 := (.lit (.int .i64 b), [])) (y3 := (.lit (.int .i64 c), [])) Try.underlying23 (by kernel_rfl) cells23 ⟨1, by simp [DataW.trod, Try.underlying3, wo]⟩ ⟨1, by simp [DataW.trod, Try.underlying3, wa]⟩ ⟨1, by simp [DataW.trod, Try.underlying3, wb]⟩ ⟨1, by simp [DataW.trod, Try.underlying3, wc]⟩
  refine (walk op a b c wo wa wb wc W).mono fun e W' ⟨he, hg⟩ => ?_
  subst he
  exact ⟨_, rfl, post_of_same (pa := []) (pv := []) hW' (fun _ _ _ => trodAll_mk1 (shut_bool Try.underlying4 _)) (fun sp _ => trodAll_mk1 (structReads _ sp)) (fun _ _ => rfl) rfl (hg.frame _) hg.2.1 (ok_one (by kernel_rfl) rfl (okWide_bool_mk Try.underlying4 _))⟩

theorem over : Rows.numFitsRow.holds Try.pinned (OpenSpec.ofChange Rows.numFitsSpec) :=
  OpenClaim.holds_of_wide 4 Try.f4 rfl rfl rfl rfl rfl rfl rfl ⟨rfl, rfl, rfl, rfl, rfl⟩ rfl rfl rfl rfl rfl (by kernel_rfl) Try.func4 (by kernel_rfl)
    (of_decide_eq_true (by kernel_rfl)) (by unfold Func.isWrapper; first | (rw [if_pos (by decide +kernel)]; kernel_rfl) | (rw [if_neg (by decide +kernel)]; exact ⟨rfl, rfl⟩))
    (fun os started H enc _ => lifted os started H enc)

theorem proved : Rows.NumFitsSaid :=
  over
#print axioms proved
end Go.Proofs.Ytgligmdkikbdoaa.numFits
