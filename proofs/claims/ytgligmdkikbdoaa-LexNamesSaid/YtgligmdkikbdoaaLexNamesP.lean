/- The statement LexNames holds for every input: a name is one token, of its whole text; so is a word; nothing is both. Conditions: none. -/
import Derived.Test.YtgligmdkikbdoaaRows
import Derived.WalkKit
import Derived.ProofKit
import Derived.OpenShut
import Derived.Below
import Derived.ChangeSame
import Derived.Test.YtgligmdkikbdoaaLexI
import Derived.Test.YtgligmdkikbdoaaLexJ
namespace Go.Proofs.Ytgligmdkikbdoaa.lexNames
open Go.ChangeShapes Go.WideShapes Go.ChangeAt Go.RowKit
set_option linter.unusedVariables false

theorem own : ownKnob Try.prog.godebug = none := by kernel_rfl

open Lx

theorem names_end {w w1 w5 : World} {o : Obj} (hb : Below w.heap.size w w1) (hb5 : Below (w1.alloc o).heap.size (w1.alloc o) w5) : Below w.heap.size w w5 :=
  (hb.alloc hb.size o).trans (hb5.mono (by have := hb.size; simp; omega))

set_option maxRecDepth 100000 in
set_option maxHeartbeats 4000000 in
theorem walk (s : ByteArray) (h : s.size ≤ maxLen) (w : World) : Calls Try.prog 14 #[.string s] w fun e w' => e = .returned (.bool true) ∧ Below w.heap.size w w' := by
  by_cases hbig : s.size ≤ 100
  · have hlx := lex_gives s w h
    unfold maxLen at h
    rcases Bool.eq_false_or_eq_true (nameB s.toList) with hn | hn
    · have hw := name_no_word _ hn
      rw [name_lex _ hn] at hlx
      have HL := Lib.hid (show Calls Try.prog 24 #[.string s] w (LexGives w [⟨1, s.toList, 0⟩] 0 0) from hlx)
      clear hlx
      go_enter Try.func14, Try.ntmps14
      go_wp2_with fail
      refine HL.out.mono ?_
      rintro e w1 ⟨v, rfl, ht, hb⟩
      obtain ⟨A, c, rfl, h1, h2, h3⟩ := ht
      obtain ⟨g, rfl, hg, c0, c1, c2⟩ := h3 0 _ rfl
      simp only [str_of, List.length_singleton, Nat.zero_mul, Nat.zero_add] at c0 c1 c2 h1
      have HB := Lib.hid hb
      clear h3 hb HL
      go_wp2_with (first | (go_at_call 27; refine (IsName_any _ _ (by unfold maxLen; omega)).mono ?_; rintro e w' ⟨rfl, rfl⟩) | (go_at_call 29; refine (isWord_any _ _).mono ?_; rintro e w' ⟨rfl, rfl⟩) | (go_at_call 23; refine (live_any _).mono ?_; rintro e w5 ⟨rfl, hb5⟩))
      go_ret
      exact ⟨rfl, names_end HB.out hb5⟩
    rcases Bool.eq_false_or_eq_true (wordB s.toList) with hw | hw
    · rw [word_lex _ hw] at hlx
      have HL := Lib.hid (show Calls Try.prog 24 #[.string s] w (LexGives w [⟨3, s.toList, 0⟩] 0 0) from hlx)
      clear hlx
      go_enter Try.func14, Try.ntmps14
      go_wp2_with fail
      refine HL.out.mono ?_
      rintro e w1 ⟨v, rfl, ht, hb⟩
      obtain ⟨A, c, rfl, h1, h2, h3⟩ := ht
      obtain ⟨g, rfl, hg, c0, c1, c2⟩ := h3 0 _ rfl
      simp only [str_of, List.length_singleton, Nat.zero_mul, Nat.zero_add] at c0 c1 c2 h1
      have HB := Lib.hid hb
      clear h3 hb HL
      go_wp2_with (first | (go_at_call 27; refine (IsName_any _ _ (by unfold maxLen; omega)).mono ?_; rintro e w' ⟨rfl, rfl⟩) | (go_at_call 29; refine (isWord_any _ _).mono ?_; rintro e w' ⟨rfl, rfl⟩) | (go_at_call 23; refine (live_any _).mono ?_; rintro e w5 ⟨rfl, hb5⟩))
      go_ret
      exact ⟨rfl, names_end HB.out hb5⟩
    have hone := one_tok s.toList (by rw [toList_len]; omega)
    revert hlx hone
    generalize (lexM s.toList).toks = L
    generalize (lexM s.toList).code = C
    generalize (lexM s.toList).at_ = P
    intro hlx hone
    have HL := Lib.hid hlx
    clear hlx
    go_enter Try.func14, Try.ntmps14
    go_wp2_with fail
    refine HL.out.mono ?_
    rintro e w1 ⟨v, rfl, ht, hb⟩
    obtain ⟨A, c, rfl, h1, h2, h3⟩ := ht
    have HB := Lib.hid hb
    clear hb HL
    by_cases hL : L.length = 1
    · obtain ⟨t, rfl⟩ := List.length_eq_one_iff.1 hL
      have ho := hone t rfl
      obtain ⟨g, rfl, hg, c0, c1, c2⟩ := h3 0 _ rfl
      simp only [List.length_singleton, Nat.zero_mul, Nat.zero_add] at c0 c1 c2 h1
      clear h3 hone hL
      by_cases hT : t.text = s.toList
      · have ho' := ho hT
        rw [hw, hn] at ho'
        rw [hT, str_of] at c1
        obtain ⟨K, T, Q⟩ := t
        simp only at ho' c0 c1 c2
        clear ho hT
        rcases ho' with rfl | rfl | ho' | ho'
        · go_wp2_with (first | (go_at_call 27; refine (IsName_any _ _ (by unfold maxLen; omega)).mono ?_; rintro e w' ⟨rfl, rfl⟩) | (go_at_call 29; refine (isWord_any _ _).mono ?_; rintro e w' ⟨rfl, rfl⟩) | (go_at_call 23; refine (live_any _).mono ?_; rintro e w5 ⟨rfl, hb5⟩))
          go_ret
          exact ⟨rfl, names_end HB.out hb5⟩
        · go_wp2_with (first | (go_at_call 27; refine (IsName_any _ _ (by unfold maxLen; omega)).mono ?_; rintro e w' ⟨rfl, rfl⟩) | (go_at_call 29; refine (isWord_any _ _).mono ?_; rintro e w' ⟨rfl, rfl⟩) | (go_at_call 23; refine (live_any _).mono ?_; rintro e w5 ⟨rfl, hb5⟩))
          go_ret
          exact ⟨rfl, names_end HB.out hb5⟩
        · simp at ho'
        · simp at ho'
      · have hb1 : ((str t.text).toList == s.toList) = false := by rw [str_toList]; simpa using hT
        have hb2 : ((str t.text).toList != s.toList) = true := by rw [str_toList]; simpa using hT
        clear ho hT
        go_wp2_with (first | (go_at_call 27; refine (IsName_any _ _ (by unfold maxLen; omega)).mono ?_; rintro e w' ⟨rfl, rfl⟩) | (go_at_call 29; refine (isWord_any _ _).mono ?_; rintro e w' ⟨rfl, rfl⟩) | (go_at_call 23; refine (live_any _).mono ?_; rintro e w5 ⟨rfl, hb5⟩))
        go_ret
        exact ⟨rfl, names_end HB.out hb5⟩
    · have hl1 : ((L.length : Int) != 1) = true := by rw [bne_iff_ne]; omega
      clear hone h3 hL
      go_wp2_with (first | (go_at_call 27; refine (IsName_any _ _ (by unfold maxLen; omega)).mono ?_; rintro e w' ⟨rfl, rfl⟩) | (go_at_call 29; refine (isWord_any _ _).mono ?_; rintro e w' ⟨rfl, rfl⟩) | (go_at_call 23; refine (live_any _).mono ?_; rintro e w5 ⟨rfl, hb5⟩))
      go_ret
      exact ⟨rfl, names_end HB.out hb5⟩
  · go_enter Try.func14, Try.ntmps14
    go_wp2_with (go_at_call 23; refine (live_any _).mono ?_; rintro e w1 ⟨rfl, hb⟩)
    go_ret
    exact ⟨rfl, hb⟩


set_option maxRecDepth 100000 in
theorem lifted (os : Os) (started : os.Started) (H : Type) (enc : TypeId × Value → H) :
    ReturnsInHanded {} Try.checked os 14 .any (Rows.lexNamesSpec.pre6 enc Try.prog Try.f14 Rows.lexNamesRow.domain false) (Rows.lexNamesSpec.post enc Try.prog Try.f14 false true false false) := by
  refine returnsInHanded_of_change (C := Try.checked) own started (by kernel_rfl) Try.func14
    (ChangeSpec.witness6 (enc := enc) (C := Try.checked) false ⟨#[], #[.string ⟨#[]⟩], []⟩ 8 (by kernel_rfl) (by kernel_rfl) (by kernel_rfl) (by kernel_rfl)) ?_
  intro W base args ds gs before hval0 hW hcnd _
  have hval : ∀ (j : Nat) t v, Try.f14.params[j]? = some t → args[j]? = some v → Value.okWide Try.prog W .any base t v := hval0
  have hW' := hW
  obtain ⟨p, q, hA0, hV, rfl, hfz, hnd⟩ := hW
  have hA : DataW.TrodAll enc Try.prog W 0 (fun _ => true) true Try.f14.params.toList args.toList ds p := hA0
  rw [Try.params14] at hA hval
  obtain ⟨v0, vs0, d0, ds0, p0, q0, hargs, rfl, rfl, h0, r0⟩ := trodAll_cons hA
  obtain ⟨rfl, rfl, rfl⟩ := trodAll_nil r0
  obtain rfl : args = #[v0] := by cases args; simp_all
  obtain ⟨rfl, rfl⟩ := trodVars_none hV
  obtain ⟨a0, rfl, rfl, rfl, w0⟩ := Go.ChangeMaps.open_string Try.underlying9 (hval 0 9 v0 rfl rfl) h0
  clear hA0 hval0
  simp only [List.append_nil] at hW'
  refine (walk a0 w0 W).mono fun e W' ⟨he, hg⟩ => ?_
  subst he
  exact ⟨_, rfl, Lx.post_kept (pa := []) (pv := []) hW' (fun _ => (trodAll_cons_mk (shut_bool Try.underlying4 _) trodAll_mk0)) (trodAll_cons_mk (Go.ChangeMaps.shut_string Try.underlying9 w0) trodAll_mk0) rfl hg⟩

theorem over : Rows.lexNamesRow.holds Try.pinned (OpenSpec.ofChange Rows.lexNamesSpec) :=
  OpenClaim.holds_of_wide 14 Try.f14 rfl rfl rfl rfl rfl rfl rfl ⟨rfl, rfl, rfl, rfl, rfl⟩ rfl rfl rfl rfl rfl (by kernel_rfl) Try.func14 (by kernel_rfl)
    (of_decide_eq_true (by kernel_rfl)) (by unfold Func.isWrapper; first | (rw [if_pos (by decide +kernel)]; kernel_rfl) | (rw [if_neg (by decide +kernel)]; exact ⟨rfl, rfl⟩))
    (fun os started H enc _ => lifted os started H enc)

theorem proved : Rows.LexNamesSaid :=
  over
#print axioms proved
end Go.Proofs.Ytgligmdkikbdoaa.lexNames
