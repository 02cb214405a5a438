/- The function passed of layer lex returns what the plain function skip of LexM says, and leaves memory alone. Conditions: lengths within a machine's; the place lies within the text. -/
import Derived.Test.YtgligmdkikbdoaaLexC
namespace Go.Proofs.Ytgligmdkikbdoaa.Lx
open Go.ChangeShapes Go.WideShapes Go.ChangeAt Go.RowKit
set_option linter.unusedVariables false

theorem skip_le (b : Bool) (l : Bytes) : skip b l ≤ l.length := by
  induction l generalizing b with
  | nil => cases b <;> simp [skip]
  | cons c r ih =>
    cases b
    · simp only [skip, List.length_cons]
      split
      · have := ih false; omega
      · split
        · have := ih true; omega
        · omega
    · simp only [skip, List.length_cons]
      split
      · have := ih false; omega
      · have := ih true; omega

theorem skip_blank (c : UInt8) (r : Bytes) (h : blankB c = true) : skip false (c :: r) = 1 + skip false r := by
  simp [skip, h]
theorem skip_stop (c : UInt8) (r : Bytes) (h : blankB c = false) (h2 : Lib.hasPrefix (c :: r) [45, 45] = false) : skip false (c :: r) = 0 := by
  have h3 : ¬ (c = 45 ∧ r.head? = some 45) := by
    rintro ⟨rfl, h3⟩
    cases r with
    | nil => simp at h3
    | cons d r => simp at h3; subst h3; simp [Lib.hasPrefix, List.isPrefixOf] at h2
  simp [skip, h, h3]
theorem skip_remark (l : Bytes) (h2 : Lib.hasPrefix l [45, 45] = true) : skip false l = skip true l := by
  match l, h2 with
  | [], h2 => simp [Lib.hasPrefix, List.isPrefixOf] at h2
  | [c], h2 => simp [Lib.hasPrefix, List.isPrefixOf] at h2
  | c :: d :: r, h2 =>
    simp [Lib.hasPrefix, List.isPrefixOf] at h2
    obtain ⟨rfl, rfl⟩ := h2
    simp [skip, blankB]
theorem index_bd (l : Bytes) (c : UInt8) : -1 ≤ Lib.indexByte l c ∧ Lib.indexByte l c ≤ l.length := by
  induction l with
  | nil => simp [Lib.indexByte]
  | cons d r ih =>
    simp only [Lib.indexByte, List.length_cons]
    split
    · omega
    · split <;> omega
theorem skip_true_none (l : Bytes) (h : Lib.indexByte l 10 < 0) : skip true l = l.length := by
  induction l with
  | nil => simp [skip]
  | cons d r ih =>
    simp only [Lib.indexByte] at h
    by_cases hd : d = 10
    · subst hd; simp at h
    · have hb := index_bd r 10
      simp [hd] at h
      simp only [skip, if_neg hd, List.length_cons]
      rw [ih (by split at h <;> omega)]; omega
theorem skip_true_some (l : Bytes) (n : Nat) (h : Lib.indexByte l 10 = n) : n < l.length ∧ skip true l = n + skip false (l.drop n) := by
  induction l generalizing n with
  | nil => simp [Lib.indexByte] at h
  | cons d r ih =>
    simp only [Lib.indexByte] at h
    by_cases hd : d = 10
    · subst hd
      simp at h
      obtain rfl : n = 0 := by omega
      simp [skip, blankB]
    · simp [hd] at h
      split at h
      · omega
      · cases n with
        | zero => omega
        | succ n =>
          obtain ⟨h1, h2⟩ := ih n (by omega)
          refine ⟨by simp; omega, ?_⟩
          simp only [skip, if_neg hd, List.drop_succ_cons, h2]; omega

theorem ret_i64 {a b : Int} (h : a = b) : Ending.returned (.int .i64 a) = .returned (.int .i64 b) := by rw [h]
theorem hasPrefix_any (s p : ByteArray) (w : World) :
    Calls Try.prog 57 #[.string s, .string p] w fun e w' => e = .returned (.bool (Lib.hasPrefix s.toList p.toList)) ∧ w = w' :=
  (Try.strings_HasPrefix s p w).mono fun e w' ⟨he, hw⟩ => ⟨by rw [he, ByteArray.toList_eq, ByteArray.toList_eq], hw.symm⟩
theorem indexByte_any (s : ByteArray) (w : World) :
    Calls Try.prog 58 #[.string s, .int .u8 10] w fun e w' => e = .returned (.int .i64 (Lib.indexByte s.toList 10)) ∧ w = w' :=
  (Try.strings_IndexByte s 10 w).mono fun e w' ⟨he, hw⟩ => ⟨by rw [he, ByteArray.toList_eq]; rfl, hw.symm⟩

set_option maxHeartbeats 800000 in
theorem passed_any (s : ByteArray) (p : Nat) (w : World) (h : s.size ≤ maxLen) (hp : p ≤ s.size) :
    Calls Try.prog 42 #[.string s, .int .i64 p] w fun e w' => e = .returned (.int .i64 ((p + skip false (s.toList.drop p) : Nat))) ∧ w = w' := by
  unfold maxLen at h
  go_enter Try.func42, Try.ntmps42
  go_wp2
  go_loop [1] (fun i => ∃ k : Nat, k ≤ s.size ∧ i = .int .i64 k ∧ k + skip false (s.toList.drop k) = p + skip false (s.toList.drop p)) (fun i => s.size - (intOf i).toNat)
  case atStart => exact ⟨p, hp, rfl, rfl⟩
  case round =>
    obtain ⟨k, hk, rfl, hs⟩ := hrel
    have HS := Lib.hid hs
    clear hs
    have hd := extract_end s k
    by_cases hlt : k < s.size
    · have hl := toList_len s
      have hc : s.toList.drop k = s[k] :: s.toList.drop (k + 1) := by
        have hg := toList_get s k hlt
        rw [List.getElem?_eq_some_iff] at hg
        obtain ⟨hg1, hg2⟩ := hg
        rw [List.drop_eq_getElem_cons hg1, hg2]
      rcases Bool.eq_false_or_eq_true (blankB s[k]) with hb | hb
      · have HN := Lib.hid (show k + 1 + skip false (s.toList.drop (k + 1)) = p + skip false (s.toList.drop p) by
          rw [← HS.out, hc, skip_blank _ _ hb]; omega)
        clear hc hl hd
        go_wp2_with (go_at_call 56; refine (isBlank_any _ _).mono ?_; rintro e w' ⟨rfl, rfl⟩)
        go_round
        case rel => exact ⟨k + 1, by omega, by go_num, HN.out⟩
        case measure => simp [intOf]; omega
      · have HC := Lib.hid hc
        have HD := Lib.hid hd
        have HL := Lib.hid hl
        clear hc hd hl
        go_wp2_with (first | (go_at_call 56; refine (isBlank_any _ _).mono ?_; rintro e w' ⟨rfl, rfl⟩) | (go_at_call 57; refine (hasPrefix_any _ _ _).mono ?_; rintro e w' ⟨rfl, rfl⟩) | (go_at_call 58; refine (indexByte_any _ _).mono ?_; rintro e w' ⟨rfl, rfl⟩))
        · have h1 : Lib.hasPrefix (s.extract k s.size).toList [45, 45] = true := by assumption
          have h2 : Lib.indexByte (s.extract k s.size).toList 10 < 0 := by assumption
          go_ret
          refine ⟨ret_i64 ?_, rfl⟩
          rw [HD.out] at h1 h2
          rw [← HS.out, skip_remark _ h1, skip_true_none _ h2, List.length_drop, HL.out]
          omega
        · have h1 : Lib.hasPrefix (s.extract k s.size).toList [45, 45] = true := by assumption
          have h2 : 0 ≤ Lib.indexByte (s.extract k s.size).toList 10 := by assumption
          rw [HD.out] at h1 h2
          obtain ⟨n, hn⟩ := Int.eq_ofNat_of_zero_le h2
          obtain ⟨a1, a2⟩ := skip_true_some _ n hn
          have a3 : 0 < n := by
            rw [HC.out] at hn h1
            rcases Nat.eq_zero_or_pos n with rfl | h0
            · simp only [Lib.indexByte] at hn
              by_cases h10 : s[k] = 10
              · rw [h10] at h1; simp [Lib.hasPrefix, List.isPrefixOf] at h1
              · have := index_bd (s.toList.drop (k + 1)) 10
                simp [h10] at hn
                split at hn <;> omega
            · exact h0
          rw [List.length_drop, HL.out] at a1
          have hw : wrap64 ((k : Int) + Lib.indexByte (s.extract k s.size).toList 10) = ((k + n : Nat) : Int) := by
            rw [HD.out, hn]; unfold wrap64; omega
          rw [hw]
          refine ⟨⟨k + n, by omega, rfl, ?_⟩, by simp [intOf]; omega⟩
          rw [← HS.out, skip_remark _ h1, a2, List.drop_drop]; omega
        · have h1 : Lib.hasPrefix (s.extract k s.size).toList [45, 45] = false := by assumption
          go_ret
          refine ⟨ret_i64 ?_, rfl⟩
          rw [HD.out, HC.out] at h1
          rw [← HS.out, HC.out, skip_stop _ _ hb h1]; rfl
    · go_wp2
      go_ret
      refine ⟨ret_i64 ?_, rfl⟩
      have h1 := HS.out
      rw [List.drop_eq_nil_of_le (by rw [toList_len]; omega)] at h1
      simp only [skip] at h1
      omega
end Go.Proofs.Ytgligmdkikbdoaa.Lx
