/- Further functions of layer lex return what the plain functions of LexM say, and leave memory alone. Conditions: lengths within a machine's; a row of digits, a text with a sign are not empty. -/
import Derived.Test.YtgligmdkikbdoaaLexA
namespace Go.Proofs.Ytgligmdkikbdoaa.Lx
open Go.ChangeShapes Go.WideShapes Go.ChangeAt Go.RowKit
set_option linter.unusedVariables false

/-- A text of bytes. -/
def str (l : Bytes) : ByteArray := ⟨l.toArray⟩
theorem str_toList (l : Bytes) : (str l).toList = l := by unfold str; rw [ByteArray.toList_eq]
theorem str_size (l : Bytes) : (str l).size = l.length := by show l.toArray.size = _; simp
theorem toList_len (s : ByteArray) : s.toList.length = s.size := by rw [ByteArray.toList_eq]; exact Array.length_toList
theorem ext_toList {a b : ByteArray} (h : a.toList = b.toList) : a = b := by
  rw [ByteArray.toList_eq, ByteArray.toList_eq] at h
  obtain ⟨⟨a⟩⟩ := a; obtain ⟨⟨b⟩⟩ := b
  simp at h; rw [h]
theorem str_of (s : ByteArray) : str s.toList = s := ext_toList (str_toList _)
theorem ret_str {a b : ByteArray} (h : a.toList = b.toList) : Ending.returned (.string a) = .returned (.string b) := by rw [ext_toList h]
theorem toList_get (s : ByteArray) (i : Nat) (h : i < s.size) : s.toList[i]? = some s[i] := by
  rw [ByteArray.toList_eq]; obtain ⟨⟨l⟩⟩ := s
  simp [ByteArray.size] at h
  simp [h]; rfl
theorem head_get (s : ByteArray) (h : 0 < s.size) : s.toList.headD 0 = s[0] := by
  have := toList_get s 0 h
  cases hl : s.toList with
  | nil => rw [hl] at this; simp at this
  | cons a l => rw [hl] at this; simpa using this
theorem extract_toList (s : ByteArray) (a b : Nat) : (s.extract a b).toList = (s.toList.drop a).take (b - a) := by
  rw [ByteArray.toList_eq, ByteArray.toList_eq]
  obtain ⟨⟨l⟩⟩ := s
  rw [ByteArray.extract_mk]
theorem extract_end (s : ByteArray) (a : Nat) : (s.extract a s.size).toList = s.toList.drop a := by
  rw [extract_toList, List.take_of_length_le]; rw [List.length_drop, toList_len]; omega

theorem ret_two {a b : Int} {p : Int × Int} (h : p = (a, b)) : Ending.returned (.tuple #[.int .i64 a, .int .i64 b]) = .returned (.tuple #[.int .i64 p.1, .int .i64 p.2]) := by rw [h]

set_option maxHeartbeats 800000 in
theorem digits_any (s : ByteArray) (w : World) (h : s.size ≤ maxLen) (hp : 0 < s.size) :
    Calls Try.prog 45 #[.string s] w fun e w' => e = .returned (.tuple #[.int .i64 (digM s.toList).1, .int .i64 (digM s.toList).2]) ∧ w = w' := by
  unfold maxLen at h
  have hl := toList_len s
  have hh := head_get s hp
  have hz : (s.toList.headD 0 = 48) ↔ ((s[0].toNat : Int) == 48) = true := by rw [hh, beq_iff_eq]; exact eq_cast _ _
  have hn : s.size = 1 ∨ (1 < s.size ∧ s.size < 10) ∨ s.size = 10 ∨ 10 < s.size := by omega
  rcases hn with hn | ⟨hn1, hn2⟩ | hn | hn
  · have e : digM s.toList = (2, 0) := by unfold digM; rw [hl, if_neg (by omega), if_neg (by omega)]
    rw [e]
    have a1 : (s.size : Int) ≤ 1 := by omega
    have a2 : ((s.size : Int) == 10) = false := by rw [beq_eq_false_iff_ne]; omega
    clear hl hh hz hn e
    go_enter Try.func45, Try.ntmps45
    go_wp2
    go_ret2
    exact ⟨rfl, rfl⟩
  · rcases Bool.eq_false_or_eq_true ((s[0].toNat : Int) == 48) with z | z
    · have e : digM s.toList = (0, 2) := by unfold digM; rw [hl, if_pos (.inl ⟨hn1, hz.2 z⟩)]
      rw [e]
      clear hl hh hz e
      go_enter Try.func45, Try.ntmps45
      go_wp2
      go_ret2
      exact ⟨rfl, rfl⟩
    · have e : digM s.toList = (2, 0) := by
        unfold digM; rw [hl, if_neg (by rintro (⟨_, k⟩ | k); exact absurd (hz.1 k) (by rw [z]; decide); omega), if_neg (by omega)]
      rw [e]
      have a2 : ((s.size : Int) == 10) = false := by rw [beq_eq_false_iff_ne]; omega
      clear hl hh hz e
      go_enter Try.func45, Try.ntmps45
      go_wp2
      go_ret2
      exact ⟨rfl, rfl⟩
  · rcases Bool.eq_false_or_eq_true ((s[0].toNat : Int) == 48) with z | z
    · have e : digM s.toList = (0, 2) := by unfold digM; rw [hl, if_pos (.inl ⟨by omega, hz.2 z⟩)]
      rw [e]
      have a1 : 1 < s.size := by omega
      clear hl hh hz e hn
      go_enter Try.func45, Try.ntmps45
      go_wp2
      go_ret2
      exact ⟨rfl, rfl⟩
    · have hno : ¬ (1 < s.size ∧ s.toList.headD 0 = 48 ∨ 10 < s.size) := by
        rintro (⟨_, k⟩ | k)
        · exact absurd (hz.1 k) (by rw [z]; decide)
        · omega
      have a1 : 1 < s.size := by omega
      have a2 : (s.size : Int) ≤ 10 := by omega
      have a3 : ((s.size : Int) == 10) = true := by rw [beq_iff_eq]; omega
      rcases Bool.eq_false_or_eq_true (gtB s.toList) with g | g
      · have e : digM s.toList = (0, 2) := by unfold digM; rw [hl, if_neg hno, if_pos ⟨hn, g⟩]
        rw [e]
        have g' : (!(Op.bytesLess s.toList [50, 49, 52, 55, 52, 56, 51, 54, 52, 55] || s.toList == [50, 49, 52, 55, 52, 56, 51, 54, 52, 55])) = true := g
        rw [Bool.not_eq_true', Bool.or_eq_false_iff] at g'
        obtain ⟨g1, g2⟩ := g'
        clear hl hh hz e hn hno g
        go_enter Try.func45, Try.ntmps45
        go_wp2
        go_ret2
        exact ⟨rfl, rfl⟩
      · have e : digM s.toList = (2, 0) := by unfold digM; rw [hl, if_neg hno, if_neg (by rw [g]; simp)]
        rw [e]
        have g' : (!(Op.bytesLess s.toList [50, 49, 52, 55, 52, 56, 51, 54, 52, 55] || s.toList == [50, 49, 52, 55, 52, 56, 51, 54, 52, 55])) = false := g
        rw [Bool.not_eq_false', Bool.or_eq_true] at g'
        rcases g' with g1 | g1
        all_goals
          clear hl hh hz e hn hno g
          go_enter Try.func45, Try.ntmps45
          go_wp2
          go_ret2
          exact ⟨rfl, rfl⟩
  · have e : digM s.toList = (0, 2) := by unfold digM; rw [hl, if_pos (.inr hn)]
    rw [e]
    have a1 : 1 < s.size := by omega
    rcases Bool.eq_false_or_eq_true ((s[0].toNat : Int) == 48) with z | z
    all_goals
      clear hl hh hz e
      go_enter Try.func45, Try.ntmps45
      go_wp2
      go_ret2
      exact ⟨rfl, rfl⟩

theorem sign_any (s : ByteArray) (w : World) :
    Calls Try.prog 49 #[.string s] w fun e w' => e = .returned (.tuple #[.int .i64 (sigM s.toList).1, .int .i64 (sigM s.toList).2]) ∧ w = w' := by
  rcases Bool.eq_false_or_eq_true s.toList.isEmpty with h | h
  · have e : sigM s.toList = (0, 5) := by unfold sigM; rw [if_pos (by simpa using h)]
    rw [e]
    go_enter Try.func49, Try.ntmps49
    go_wp2
    go_ret2
    exact ⟨rfl, rfl⟩
  · have e : sigM s.toList = (4, 0) := by unfold sigM; rw [if_neg (by intro h'; rw [h'] at h; cases h)]
    rw [e]
    go_enter Try.func49, Try.ntmps49
    go_wp2
    go_ret2
    exact ⟨rfl, rfl⟩

theorem IsName_any (s : ByteArray) (w : World) (h : s.size ≤ maxLen) :
    Calls Try.prog 27 #[.string s] w fun e w' => e = .returned (.bool (nameB s.toList)) ∧ w = w' := by
  unfold maxLen at h
  have hl := toList_len s
  rcases Bool.eq_false_or_eq_true s.toList.isEmpty with h0 | h0
  · have e : nameB s.toList = false := by unfold nameB; rw [h0]; rfl
    rw [e]
    clear hl
    go_enter Try.func27, Try.ntmps27
    go_wp2
    go_ret
    exact ⟨rfl, rfl⟩
  · have hp : 0 < s.size := by
      rw [← hl]; cases hs : s.toList with
      | nil => rw [hs] at h0; cases h0
      | cons a l => simp
    have hh := head_get s hp
    by_cases h40 : 40 < s.size
    · have e : nameB s.toList = false := by
        have k : decide (s.toList.length ≤ 40) = false := by rw [hl]; simpa using h40
        unfold nameB; rw [k]; simp
      rw [e]
      clear hl hh
      go_enter Try.func27, Try.ntmps27
      go_wp2
      go_ret
      exact ⟨rfl, rfl⟩
    · rcases Bool.eq_false_or_eq_true (digitB s[0]) with hd | hd
      · have e : nameB s.toList = false := by unfold nameB; rw [hh, hd]; simp
        rw [e]
        clear hl hh
        go_enter Try.func27, Try.ntmps27
        go_wp2_with (first | (go_at_call 44; refine (isDigit_any _ _).mono ?_; rintro e w' ⟨rfl, rfl⟩) | (go_at_call 29; refine (isWord_any _ _).mono ?_; rintro e w' ⟨rfl, rfl⟩))
        go_ret
        exact ⟨rfl, rfl⟩
      · rcases Bool.eq_false_or_eq_true (wordB s.toList) with hw | hw
        · have e : nameB s.toList = false := by unfold nameB; rw [hw]; simp
          rw [e]
          clear hl hh
          go_enter Try.func27, Try.ntmps27
          go_wp2_with (first | (go_at_call 44; refine (isDigit_any _ _).mono ?_; rintro e w' ⟨rfl, rfl⟩) | (go_at_call 29; refine (isWord_any _ _).mono ?_; rintro e w' ⟨rfl, rfl⟩))
          go_ret
          exact ⟨rfl, rfl⟩
        · have e : nameB s.toList = s.toList.all ofNameB := by
            have k : decide (s.toList.length ≤ 40) = true := by rw [hl]; simpa using h40
            unfold nameB; rw [hw, hh, hd, h0, k]; simp
          rw [e]
          have HL := Lib.hid hl
          clear hl hh e
          go_enter Try.func27, Try.ntmps27
          go_wp2_with (first | (go_at_call 44; refine (isDigit_any _ _).mono ?_; rintro e w' ⟨rfl, rfl⟩) | (go_at_call 29; refine (isWord_any _ _).mono ?_; rintro e w' ⟨rfl, rfl⟩))
          go_loop [22] (fun i => ∃ k : Nat, k ≤ s.size ∧ i = .int .i64 k ∧ (s.toList.take k).all ofNameB = true) (fun i => s.size - (intOf i).toNat)
          case atStart => exact ⟨0, Nat.zero_le _, rfl, by simp⟩
          case round =>
            obtain ⟨k, hk, rfl, hall⟩ := hrel
            have HA := Lib.hid hall
            clear hall
            by_cases hlt : k < s.size
            · have hg := toList_get s k hlt
              have hsn : s.toList.take (k + 1) = s.toList.take k ++ [s[k]] := by rw [List.take_add_one, hg]; rfl
              rcases Bool.eq_false_or_eq_true (ofNameB s[k]) with ho | ho
              · have HS := Lib.hid (show (s.toList.take (k + 1)).all ofNameB = true by rw [hsn, List.all_append, HA.out]; simp [ho])
                clear hg hsn
                go_wp2_with (first | (go_at_call 46; refine (isOfName_any _ _).mono ?_; rintro e w' ⟨rfl, rfl⟩))
                go_round
                case rel => exact ⟨k + 1, by omega, by go_num, HS.out⟩
                case measure => simp [intOf]; omega
              · have HS := Lib.hid (show s.toList.all ofNameB = false by
                  rw [List.all_eq_false]
                  exact ⟨s[k], List.mem_of_getElem? hg, by simp [ho]⟩)
                clear hg hsn
                go_wp2_with (first | (go_at_call 46; refine (isOfName_any _ _).mono ?_; rintro e w' ⟨rfl, rfl⟩))
                go_ret
                exact ⟨ret_bool HS.out.symm, rfl⟩
            · go_wp2
              go_ret
              exact ⟨ret_bool (by rw [← HA.out, List.take_of_length_le (by rw [HL.out]; omega)]), rfl⟩
end Go.Proofs.Ytgligmdkikbdoaa.Lx
