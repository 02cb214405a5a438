/- The functions longestSign, letters and passed of layer lex return what the plain functions of LexM say, and leave memory alone. Conditions: lengths within a machine's; a text that has a sign is not empty. -/
import Derived.Test.YtgligmdkikbdoaaLexB
import Derived.Test.YtgligmdkikbdoaaShelf
namespace Go.Proofs.Ytgligmdkikbdoaa.Lx
open Go.ChangeShapes Go.WideShapes Go.ChangeAt Go.RowKit
set_option linter.unusedVariables false

theorem letters_any (s : ByteArray) (w : World) (h : s.size ≤ maxLen) :
    Calls Try.prog 47 #[.string s] w fun e w' => e = .returned (.tuple #[.int .i64 (letM s.toList).1, .int .i64 (letM s.toList).2]) ∧ w = w' := by
  rcases Bool.eq_false_or_eq_true (wordB s.toList) with hw | hw
  · have e : letM s.toList = (3, 0) := by unfold letM; rw [hw]; rfl
    rw [e]
    go_enter Try.func47, Try.ntmps47
    go_wp2_with (first | (go_at_call 29; refine (isWord_any _ _).mono ?_; rintro e w' ⟨rfl, rfl⟩) | (go_at_call 27; refine (IsName_any _ _ h).mono ?_; rintro e w' ⟨rfl, rfl⟩))
    go_ret2
    exact ⟨rfl, rfl⟩
  · rcases Bool.eq_false_or_eq_true (nameB s.toList) with hn | hn
    · have e : letM s.toList = (1, 0) := by unfold letM; rw [hw, hn]; rfl
      rw [e]
      go_enter Try.func47, Try.ntmps47
      go_wp2_with (first | (go_at_call 29; refine (isWord_any _ _).mono ?_; rintro e w' ⟨rfl, rfl⟩) | (go_at_call 27; refine (IsName_any _ _ h).mono ?_; rintro e w' ⟨rfl, rfl⟩))
      go_ret2
      exact ⟨rfl, rfl⟩
    · have e : letM s.toList = (0, 5) := by unfold letM; rw [hw, hn]; rfl
      rw [e]
      go_enter Try.func47, Try.ntmps47
      go_wp2_with (first | (go_at_call 29; refine (isWord_any _ _).mono ?_; rintro e w' ⟨rfl, rfl⟩) | (go_at_call 27; refine (IsName_any _ _ h).mono ?_; rintro e w' ⟨rfl, rfl⟩))
      go_ret2
      exact ⟨rfl, rfl⟩

theorem sign_two {s : ByteArray} {x : Bytes} (h : ((s.extract 0 2).toList == x) = true) (hx : signs2.contains x = true) : (s.extract 0 2).toList = signOf s.toList := by
  have e : (s.extract 0 2).toList = s.toList.take 2 := by rw [extract_toList]; rfl
  rw [beq_iff_eq] at h
  unfold signOf
  rw [← e, h, hx]; rfl
theorem sign_no2 {s : ByteArray} (h : ∀ x ∈ signs2, ((s.extract 0 2).toList == x) = false) : signs2.contains (s.toList.take 2) = false := by
  have e : (s.extract 0 2).toList = s.toList.take 2 := by rw [extract_toList]; rfl
  rw [← e]
  cases hc : signs2.contains (s.extract 0 2).toList with
  | false => rfl
  | true =>
    have hm : (s.extract 0 2).toList ∈ signs2 := by simpa using hc
    have := h _ hm
    simp at this
theorem sign_short {s : ByteArray} (h : ¬ 2 ≤ s.size) : signs2.contains (s.toList.take 2) = false := by
  have hl := toList_len s
  cases hc : signs2.contains (s.toList.take 2) with
  | false => rfl
  | true =>
    have hm : s.toList.take 2 ∈ signs2 := by simpa using hc
    have : (s.toList.take 2).length < 2 := by rw [List.length_take, hl]; omega
    have k : ∀ x ∈ signs2, x.length = 2 := by decide
    have := k _ hm
    omega
theorem sign_one {s : ByteArray} (hp : 0 < s.size) (h2 : signs2.contains (s.toList.take 2) = false) (c : UInt8) (hc : signs1.contains c = true) (h : ((s[0].toNat : Int) == (c.toNat : Int)) = true) : (s.extract 0 1).toList = signOf s.toList := by
  have e : (s.extract 0 1).toList = s.toList.take 1 := by rw [extract_toList]; rfl
  have hc' : s[0] = c := (eq_cast _ _).2 (by simpa using h)
  unfold signOf
  rw [h2, head_get s hp, hc', hc, e]; rfl
theorem sign_none {s : ByteArray} (hp : 0 < s.size) (h2 : signs2.contains (s.toList.take 2) = false) (h : ∀ c ∈ signs1, ((s[0].toNat : Int) == (c.toNat : Int)) = false) : ([] : Bytes) = signOf s.toList := by
  have hn : signs1.contains s[0] = false := by
    cases hc : signs1.contains s[0] with
    | false => rfl
    | true =>
      have hm : s[0] ∈ signs1 := by simpa using hc
      have := h _ hm
      simp at this
  unfold signOf
  rw [h2, head_get s hp, hn]; rfl

set_option maxRecDepth 100000 in
set_option maxHeartbeats 1600000 in
theorem longestSign_any (s : ByteArray) (w : World) (h : s.size ≤ maxLen) (hp : 0 < s.size) :
    Calls Try.prog 48 #[.string s] w fun e w' => e = .returned (.string (str (signOf s.toList))) ∧ w = w' := by
  unfold maxLen at h
  by_cases h2 : 2 ≤ s.size
  · rcases Bool.eq_false_or_eq_true ((s.extract 0 2).toList == [45, 62]) with t0 | t0
    · have hc := Lib.hid ((sign_two t0 rfl).trans (str_toList _).symm)
      go_enter Try.func48, Try.ntmps48
      go_wp2
      go_ret
      exact ⟨ret_str (hc.out), rfl⟩
    rcases Bool.eq_false_or_eq_true ((s.extract 0 2).toList == [61, 62]) with t1 | t1
    · have hc := Lib.hid ((sign_two t1 rfl).trans (str_toList _).symm)
      go_enter Try.func48, Try.ntmps48
      go_wp2
      go_ret
      exact ⟨ret_str (hc.out), rfl⟩
    rcases Bool.eq_false_or_eq_true ((s.extract 0 2).toList == [60, 61]) with t2 | t2
    · have hc := Lib.hid ((sign_two t2 rfl).trans (str_toList _).symm)
      go_enter Try.func48, Try.ntmps48
      go_wp2
      go_ret
      exact ⟨ret_str (hc.out), rfl⟩
    rcases Bool.eq_false_or_eq_true ((s.extract 0 2).toList == [62, 61]) with t3 | t3
    · have hc := Lib.hid ((sign_two t3 rfl).trans (str_toList _).symm)
      go_enter Try.func48, Try.ntmps48
      go_wp2
      go_ret
      exact ⟨ret_str (hc.out), rfl⟩
    rcases Bool.eq_false_or_eq_true ((s.extract 0 2).toList == [60, 62]) with t4 | t4
    · have hc := Lib.hid ((sign_two t4 rfl).trans (str_toList _).symm)
      go_enter Try.func48, Try.ntmps48
      go_wp2
      go_ret
      exact ⟨ret_str (hc.out), rfl⟩
    have K := Lib.hid (sign_no2 (s := s) (by intro x hx; simp only [signs2, List.mem_cons, List.not_mem_nil, or_false] at hx; rcases hx with rfl | rfl | rfl | rfl | rfl <;> assumption))
    rcases Bool.eq_false_or_eq_true ((s[0].toNat : Int) == 61) with o0 | o0
    · have hc := Lib.hid ((sign_one hp K.out 61 rfl o0).trans (str_toList _).symm)
      go_enter Try.func48, Try.ntmps48
      go_wp2
      go_ret
      exact ⟨ret_str (hc.out), rfl⟩
    rcases Bool.eq_false_or_eq_true ((s[0].toNat : Int) == 60) with o1 | o1
    · have hc := Lib.hid ((sign_one hp K.out 60 rfl o1).trans (str_toList _).symm)
      go_enter Try.func48, Try.ntmps48
      go_wp2
      go_ret
      exact ⟨ret_str (hc.out), rfl⟩
    rcases Bool.eq_false_or_eq_true ((s[0].toNat : Int) == 62) with o2 | o2
    · have hc := Lib.hid ((sign_one hp K.out 62 rfl o2).trans (str_toList _).symm)
      go_enter Try.func48, Try.ntmps48
      go_wp2
      go_ret
      exact ⟨ret_str (hc.out), rfl⟩
    rcases Bool.eq_false_or_eq_true ((s[0].toNat : Int) == 43) with o3 | o3
    · have hc := Lib.hid ((sign_one hp K.out 43 rfl o3).trans (str_toList _).symm)
      go_enter Try.func48, Try.ntmps48
      go_wp2
      go_ret
      exact ⟨ret_str (hc.out), rfl⟩
    rcases Bool.eq_false_or_eq_true ((s[0].toNat : Int) == 45) with o4 | o4
    · have hc := Lib.hid ((sign_one hp K.out 45 rfl o4).trans (str_toList _).symm)
      go_enter Try.func48, Try.ntmps48
      go_wp2
      go_ret
      exact ⟨ret_str (hc.out), rfl⟩
    rcases Bool.eq_false_or_eq_true ((s[0].toNat : Int) == 42) with o5 | o5
    · have hc := Lib.hid ((sign_one hp K.out 42 rfl o5).trans (str_toList _).symm)
      go_enter Try.func48, Try.ntmps48
      go_wp2
      go_ret
      exact ⟨ret_str (hc.out), rfl⟩
    rcases Bool.eq_false_or_eq_true ((s[0].toNat : Int) == 40) with o6 | o6
    · have hc := Lib.hid ((sign_one hp K.out 40 rfl o6).trans (str_toList _).symm)
      go_enter Try.func48, Try.ntmps48
      go_wp2
      go_ret
      exact ⟨ret_str (hc.out), rfl⟩
    rcases Bool.eq_false_or_eq_true ((s[0].toNat : Int) == 41) with o7 | o7
    · have hc := Lib.hid ((sign_one hp K.out 41 rfl o7).trans (str_toList _).symm)
      go_enter Try.func48, Try.ntmps48
      go_wp2
      go_ret
      exact ⟨ret_str (hc.out), rfl⟩
    rcases Bool.eq_false_or_eq_true ((s[0].toNat : Int) == 44) with o8 | o8
    · have hc := Lib.hid ((sign_one hp K.out 44 rfl o8).trans (str_toList _).symm)
      go_enter Try.func48, Try.ntmps48
      go_wp2
      go_ret
      exact ⟨ret_str (hc.out), rfl⟩
    rcases Bool.eq_false_or_eq_true ((s[0].toNat : Int) == 59) with o9 | o9
    · have hc := Lib.hid ((sign_one hp K.out 59 rfl o9).trans (str_toList _).symm)
      go_enter Try.func48, Try.ntmps48
      go_wp2
      go_ret
      exact ⟨ret_str (hc.out), rfl⟩
    rcases Bool.eq_false_or_eq_true ((s[0].toNat : Int) == 58) with o10 | o10
    · have hc := Lib.hid ((sign_one hp K.out 58 rfl o10).trans (str_toList _).symm)
      go_enter Try.func48, Try.ntmps48
      go_wp2
      go_ret
      exact ⟨ret_str (hc.out), rfl⟩
    have hc := Lib.hid ((sign_none hp K.out (by intro c hc; simp only [signs1, List.mem_cons, List.not_mem_nil, or_false] at hc; rcases hc with rfl | rfl | rfl | rfl | rfl | rfl | rfl | rfl | rfl | rfl | rfl <;> assumption)).trans (str_toList _).symm)
    go_enter Try.func48, Try.ntmps48
    go_wp2
    go_ret
    exact ⟨ret_str (by rw [← hc.out]; exact str_toList []), rfl⟩
  · have K := Lib.hid (sign_short h2)
    rcases Bool.eq_false_or_eq_true ((s[0].toNat : Int) == 61) with o0 | o0
    · have hc := Lib.hid ((sign_one hp K.out 61 rfl o0).trans (str_toList _).symm)
      go_enter Try.func48, Try.ntmps48
      go_wp2
      go_ret
      exact ⟨ret_str (hc.out), rfl⟩
    rcases Bool.eq_false_or_eq_true ((s[0].toNat : Int) == 60) with o1 | o1
    · have hc := Lib.hid ((sign_one hp K.out 60 rfl o1).trans (str_toList _).symm)
      go_enter Try.func48, Try.ntmps48
      go_wp2
      go_ret
      exact ⟨ret_str (hc.out), rfl⟩
    rcases Bool.eq_false_or_eq_true ((s[0].toNat : Int) == 62) with o2 | o2
    · have hc := Lib.hid ((sign_one hp K.out 62 rfl o2).trans (str_toList _).symm)
      go_enter Try.func48, Try.ntmps48
      go_wp2
      go_ret
      exact ⟨ret_str (hc.out), rfl⟩
    rcases Bool.eq_false_or_eq_true ((s[0].toNat : Int) == 43) with o3 | o3
    · have hc := Lib.hid ((sign_one hp K.out 43 rfl o3).trans (str_toList _).symm)
      go_enter Try.func48, Try.ntmps48
      go_wp2
      go_ret
      exact ⟨ret_str (hc.out), rfl⟩
    rcases Bool.eq_false_or_eq_true ((s[0].toNat : Int) == 45) with o4 | o4
    · have hc := Lib.hid ((sign_one hp K.out 45 rfl o4).trans (str_toList _).symm)
      go_enter Try.func48, Try.ntmps48
      go_wp2
      go_ret
      exact ⟨ret_str (hc.out), rfl⟩
    rcases Bool.eq_false_or_eq_true ((s[0].toNat : Int) == 42) with o5 | o5
    · have hc := Lib.hid ((sign_one hp K.out 42 rfl o5).trans (str_toList _).symm)
      go_enter Try.func48, Try.ntmps48
      go_wp2
      go_ret
      exact ⟨ret_str (hc.out), rfl⟩
    rcases Bool.eq_false_or_eq_true ((s[0].toNat : Int) == 40) with o6 | o6
    · have hc := Lib.hid ((sign_one hp K.out 40 rfl o6).trans (str_toList _).symm)
      go_enter Try.func48, Try.ntmps48
      go_wp2
      go_ret
      exact ⟨ret_str (hc.out), rfl⟩
    rcases Bool.eq_false_or_eq_true ((s[0].toNat : Int) == 41) with o7 | o7
    · have hc := Lib.hid ((sign_one hp K.out 41 rfl o7).trans (str_toList _).symm)
      go_enter Try.func48, Try.ntmps48
      go_wp2
      go_ret
      exact ⟨ret_str (hc.out), rfl⟩
    rcases Bool.eq_false_or_eq_true ((s[0].toNat : Int) == 44) with o8 | o8
    · have hc := Lib.hid ((sign_one hp K.out 44 rfl o8).trans (str_toList _).symm)
      go_enter Try.func48, Try.ntmps48
      go_wp2
      go_ret
      exact ⟨ret_str (hc.out), rfl⟩
    rcases Bool.eq_false_or_eq_true ((s[0].toNat : Int) == 59) with o9 | o9
    · have hc := Lib.hid ((sign_one hp K.out 59 rfl o9).trans (str_toList _).symm)
      go_enter Try.func48, Try.ntmps48
      go_wp2
      go_ret
      exact ⟨ret_str (hc.out), rfl⟩
    rcases Bool.eq_false_or_eq_true ((s[0].toNat : Int) == 58) with o10 | o10
    · have hc := Lib.hid ((sign_one hp K.out 58 rfl o10).trans (str_toList _).symm)
      go_enter Try.func48, Try.ntmps48
      go_wp2
      go_ret
      exact ⟨ret_str (hc.out), rfl⟩
    have hc := Lib.hid ((sign_none hp K.out (by intro c hc; simp only [signs1, List.mem_cons, List.not_mem_nil, or_false] at hc; rcases hc with rfl | rfl | rfl | rfl | rfl | rfl | rfl | rfl | rfl | rfl | rfl <;> assumption)).trans (str_toList _).symm)
    go_enter Try.func48, Try.ntmps48
    go_wp2
    go_ret
    exact ⟨ret_str (by rw [← hc.out]; exact str_toList []), rfl⟩

end Go.Proofs.Ytgligmdkikbdoaa.Lx
