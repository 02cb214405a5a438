/- The closure row within Lex returns the longest row of bytes of one kind from a place on, and leaves memory alone. Conditions: the cells of the captured variables are known; the place lies within the text. -/
import Derived.Test.YtgohhnbdicdenaaGreatDoorPk11
namespace Go.Proofs.YtgohhnbdicdenaaGreatDoor.Lx
open Go.ChangeShapes Go.WideShapes Go.ChangeAt Go.RowKit
set_option linter.unusedVariables false

theorem drop_cons (s : ByteArray) (k : Nat) (h : k < s.size) : s.toList.drop k = s[k] :: s.toList.drop (k + 1) := by
  have hg := toList_get s k h
  rw [List.getElem?_eq_some_iff] at hg
  obtain ⟨hg1, hg2⟩ := hg
  rw [List.drop_eq_getElem_cons hg1, hg2]

theorem row_end (s : ByteArray) (f : UInt8 → Bool) (p k : Nat) (hpk : p ≤ k) (hk : k ≤ s.size) (ha : ((s.toList.drop p).take (k - p)).all f = true) (hstop : ∀ h : k < s.size, f s[k] = false) :
    (s.extract p k).toList = (s.toList.drop p).takeWhile f := by
  rw [extract_toList]
  have e : s.toList.drop p = (s.toList.drop p).take (k - p) ++ s.toList.drop k := by
    conv => lhs; rw [← List.take_append_drop (k - p) (s.toList.drop p)]
    rw [List.drop_drop, show p + (k - p) = k from by omega]
  have ht : (s.toList.drop k).takeWhile f = [] := by
    by_cases h : k < s.size
    · rw [drop_cons s k h, List.takeWhile_cons, hstop h]; rfl
    · rw [List.drop_eq_nil_of_le (by rw [toList_len]; omega)]; rfl
  conv => rhs; rw [e]
  rw [List.takeWhile_append_of_pos (by intro a h; exact List.all_eq_true.1 ha a h), ht, List.append_nil]
theorem row_more (s : ByteArray) (f : UInt8 → Bool) (p k : Nat) (hpk : p ≤ k) (hk : k < s.size) (ha : ((s.toList.drop p).take (k - p)).all f = true) (hf : f s[k] = true) :
    ((s.toList.drop p).take (k + 1 - p)).all f = true := by
  have e : k + 1 - p = (k - p) + 1 := by omega
  rw [e, List.take_add_one, List.getElem?_drop, show p + (k - p) = k from by omega, toList_get s k hk, List.all_append, ha]
  simp [hf]

set_option maxHeartbeats 800000 in
theorem rowDigit_any (s : ByteArray) (p : Nat) (a b : Addr) (w : World) (h : s.size ≤ maxLen) (hp : p ≤ s.size) (ca : w.cell? a = some (.int .i64 p)) (cb : w.cell? b = some (.string s)) :
    Calls Tryz.prog 65 #[.func (.func 46) #[] #[], .pointer (some a), .pointer (some b)] w fun e w' => e = .returned (.string (str ((s.toList.drop p).takeWhile digitB))) ∧ w = w' := by
  unfold maxLen at h
  go_enter Tryz.func65, Tryz.ntmps65
  go_wp2
  go_loop [5] (fun i => ∃ k : Nat, p ≤ k ∧ k ≤ s.size ∧ i = .int .i64 k ∧ ((s.toList.drop p).take (k - p)).all digitB = true) (fun i => s.size - (intOf i).toNat)
  case atStart => exact ⟨p, Nat.le_refl _, hp, rfl, by simp⟩
  case round =>
    obtain ⟨k, hpk, hk, rfl, hs⟩ := hrel
    by_cases hlt : k < s.size
    · rcases Bool.eq_false_or_eq_true (digitB s[k]) with hb | hb
      · have HN := Lib.hid (row_more s digitB p k hpk hlt hs hb)
        clear hs
        go_wp2_with (go_at_call 46; refine (isDigit_any _ _).mono ?_; rintro e w' ⟨rfl, rfl⟩)
        go_round
        case rel => exact ⟨k + 1, by omega, by omega, by go_num, HN.out⟩
        case measure => simp [intOf]; omega
      · have HN := Lib.hid (row_end s digitB p k hpk hk hs (fun _ => hb))
        clear hs
        go_wp2_with (go_at_call 46; refine (isDigit_any _ _).mono ?_; rintro e w' ⟨rfl, rfl⟩)
        go_ret
        exact ⟨ret_str (HN.out.trans (str_toList _).symm), rfl⟩
    · have HN := Lib.hid (row_end s digitB p k hpk hk hs (fun h => absurd h hlt))
      clear hs
      go_wp2
      go_ret
      exact ⟨ret_str (HN.out.trans (str_toList _).symm), rfl⟩

set_option maxHeartbeats 800000 in
theorem rowOfName_any (s : ByteArray) (p : Nat) (a b : Addr) (w : World) (h : s.size ≤ maxLen) (hp : p ≤ s.size) (ca : w.cell? a = some (.int .i64 p)) (cb : w.cell? b = some (.string s)) :
    Calls Tryz.prog 65 #[.func (.func 48) #[] #[], .pointer (some a), .pointer (some b)] w fun e w' => e = .returned (.string (str ((s.toList.drop p).takeWhile ofNameB))) ∧ w = w' := by
  unfold maxLen at h
  go_enter Tryz.func65, Tryz.ntmps65
  go_wp2
  go_loop [5] (fun i => ∃ k : Nat, p ≤ k ∧ k ≤ s.size ∧ i = .int .i64 k ∧ ((s.toList.drop p).take (k - p)).all ofNameB = true) (fun i => s.size - (intOf i).toNat)
  case atStart => exact ⟨p, Nat.le_refl _, hp, rfl, by simp⟩
  case round =>
    obtain ⟨k, hpk, hk, rfl, hs⟩ := hrel
    by_cases hlt : k < s.size
    · rcases Bool.eq_false_or_eq_true (ofNameB s[k]) with hb | hb
      · have HN := Lib.hid (row_more s ofNameB p k hpk hlt hs hb)
        clear hs
        go_wp2_with (go_at_call 48; refine (isOfName_any _ _).mono ?_; rintro e w' ⟨rfl, rfl⟩)
        go_round
        case rel => exact ⟨k + 1, by omega, by omega, by go_num, HN.out⟩
        case measure => simp [intOf]; omega
      · have HN := Lib.hid (row_end s ofNameB p k hpk hk hs (fun _ => hb))
        clear hs
        go_wp2_with (go_at_call 48; refine (isOfName_any _ _).mono ?_; rintro e w' ⟨rfl, rfl⟩)
        go_ret
        exact ⟨ret_str (HN.out.trans (str_toList _).symm), rfl⟩
    · have HN := Lib.hid (row_end s ofNameB p k hpk hk hs (fun h => absurd h hlt))
      clear hs
      go_wp2
      go_ret
      exact ⟨ret_str (HN.out.trans (str_toList _).symm), rfl⟩
end Go.Proofs.YtgohhnbdicdenaaGreatDoor.Lx

