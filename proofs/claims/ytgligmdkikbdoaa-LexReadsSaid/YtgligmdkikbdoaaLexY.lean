/- The document's answer 'one' of layer lex returns what the plain function one says. Conditions: a text that is not empty, its length within a machine's. -/
import Derived.Test.YtgligmdkikbdoaaLexX
namespace Go.Proofs.Ytgligmdkikbdoaa.Lx
open Go.ChangeShapes Go.WideShapes Go.ChangeAt Go.RowKit
set_option linter.unusedVariables false

theorem letM_zero (T : Bytes) (h : (letM T).2 ≠ 0) : (letM T).1 = 0 := by
  unfold letM at *
  cases hw : wordB T with
  | true => simp [hw] at h
  | false =>
    cases hn : nameB T with
    | true => simp [hw, hn] at h
    | false => simp
theorem one_word (s : ByteArray) (k : Nat) (hp : 0 < s.size) (hd : letterB s[0] = true) (hT : (s.extract 0 k).toList = s.toList.takeWhile ofNameB) (p : Int) (W : World) :
    oneTok s.toList p W = wordTok (s.extract 0 k).toList p W := by
  have ho : one s.toList = ((s.extract 0 k).toList, letM (s.extract 0 k).toList) := by
    unfold one; rw [head_get s hp, if_neg (by rw [letter_no_digit _ hd]; simp), if_pos (by rw [ofName_eq, hd]; rfl), hT]
  unfold oneTok wordTok
  rw [ho]
  by_cases h : (letM (s.extract 0 k).toList).2 = 0
  · simp only [h, if_true]
  · simp only [h, if_false, letM_zero _ h]
theorem word_new {w w1 : World} {c : Array Value} (hb : Below (w.alloc (.cells c 42)).heap.size (w.alloc (.cells c 42)) w1) :
    Below w.heap.size w w1 ∧ w1.heap[w.heap.size]? = some (.cells c 42 (0, 0)) := by
  refine ⟨((Below.refl _ _).alloc (Nat.le_refl _) _).trans (hb.mono (by simp)), ?_⟩
  rw [hb.block _ (by simp)]; exact heap_alloc_new w _

set_option maxRecDepth 100000 in
set_option maxHeartbeats 4000000 in
theorem refOneName_any (s : ByteArray) (p : Int) (w : World) (h : s.size ≤ maxLen) (hp : 0 < s.size) (hd : letterB s[0] = true) :
    Calls Try.prog 50 #[.string s, .int .i64 p] w (oneTok s.toList p w) := by
  unfold maxLen at h
  have hnd := letter_no_digit _ hd
  go_enter Try.func50, Try.ntmps50
  go_wp2_with (first | (go_at_call 52; refine (refDigit_any _ _).mono ?_; rintro e w' ⟨rfl, rfl⟩) | (go_at_call 51; refine (refLetter_any _ _).mono ?_; rintro e w' ⟨rfl, rfl⟩))
  go_loop [6] (fun i => ∃ k : Nat, k ≤ s.size ∧ i = .int .i64 k ∧ ((s.toList.drop 0).take (k - 0)).all ofNameB = true) (fun i => s.size - (intOf i).toNat)
  case atStart => exact ⟨0, Nat.zero_le _, rfl, by simp⟩
  case round =>
    obtain ⟨k, hk, rfl, hs⟩ := hrel
    have tail : (∀ hh : k < s.size, ofNameB s[k] = false) → ∃ K T P E, Hid (∀ W, Calls Try.prog 60 #[.string (s.extract 0 k), .int .i64 p] W (GivesTok W K T P E)) ∧ Hid (oneTok s.toList p w = GivesTok w K T P E) := fun hstop => by
      have h1 := row_end s ofNameB 0 k (Nat.zero_le _) hk hs hstop
      refine ⟨_, _, _, _, Lib.hid fun W => ?_, Lib.hid (one_word s k hp hd h1 p w)⟩
      have := refWord_any (s.extract 0 k).toList p W (by rw [toList_len, ByteArray.size_extract]; unfold maxLen; omega)
      rw [str_of] at this; exact this
    by_cases hlt : k < s.size
    · rcases Bool.eq_false_or_eq_true (letterB s[k]) with g1 | g1
      · have HN := Lib.hid (row_more s ofNameB 0 k (Nat.zero_le _) hlt hs (by rw [ofName_eq, g1]; rfl))
        clear hs tail
        go_wp2_with (first | (go_at_call 52; refine (refDigit_any _ _).mono ?_; rintro e w' ⟨rfl, rfl⟩) | (go_at_call 51; refine (refLetter_any _ _).mono ?_; rintro e w' ⟨rfl, rfl⟩))
        go_round
        case rel => exact ⟨k + 1, by omega, by go_num, HN.out⟩
        case measure => simp [intOf]; omega
      · rcases Bool.eq_false_or_eq_true (digitB s[k]) with g2 | g2
        · have HN := Lib.hid (row_more s ofNameB 0 k (Nat.zero_le _) hlt hs (by rw [ofName_eq, g1, g2]; rfl))
          clear hs tail
          go_wp2_with (first | (go_at_call 52; refine (refDigit_any _ _).mono ?_; rintro e w' ⟨rfl, rfl⟩) | (go_at_call 51; refine (refLetter_any _ _).mono ?_; rintro e w' ⟨rfl, rfl⟩))
          go_round
          case rel => exact ⟨k + 1, by omega, by go_num, HN.out⟩
          case measure => simp [intOf]; omega
        · obtain ⟨K, T, P, E, H60, HT⟩ := tail (fun _ => by rw [ofName_eq, g1, g2]; rfl)
          clear hs tail
          go_wp2_with (first | (go_at_call 52; refine (refDigit_any _ _).mono ?_; rintro e w' ⟨rfl, rfl⟩) | (go_at_call 51; refine (refLetter_any _ _).mono ?_; rintro e w' ⟨rfl, rfl⟩))
          refine (H60.out _).mono ?_
          rintro e w1 ⟨rfl, hb⟩
          obtain ⟨hB, b0⟩ := word_new hb
          have z0 := lt_of_block b0
          have c00 : w1.cell? ⟨w.heap.size, 0, none⟩ = some (.int .i64 0) := by simp [World.cell?, b0]
          have c01 : w1.cell? ⟨w.heap.size, 1, none⟩ = some (.string ⟨#[]⟩) := by simp [World.cell?, b0]
          have c02 : w1.cell? ⟨w.heap.size, 2, none⟩ = some (.int .i64 0) := by simp [World.cell?, b0]
          have f00 : w1.frozen? ⟨w.heap.size, 0, none⟩ = false := by simp [World.frozen?, b0]
          have f01 : w1.frozen? ⟨w.heap.size, 1, none⟩ = false := by simp [World.frozen?, b0]
          have f02 : w1.frozen? ⟨w.heap.size, 2, none⟩ = false := by simp [World.frozen?, b0]
          have HB := Lib.hid hB
          clear hB hb b0
          go_wp2
          rw [HT.out]
          exact bodyPost_ret (v := .tuple #[.agg #[.int .i64 K, .string (str T), .int .i64 P], .int .i64 E]) (by simp [results, Try.results50, go_sem, c00, c01, c02]) rfl ⟨rfl, ((HB.out.setCell (Nat.le_refl _) _).setCell (Nat.le_refl _) _).setCell (Nat.le_refl _) _⟩
    · obtain ⟨K, T, P, E, H60, HT⟩ := tail (fun hh => absurd hh hlt)
      clear hs tail
      go_wp2_with fail
      refine (H60.out _).mono ?_
      rintro e w1 ⟨rfl, hb⟩
      obtain ⟨hB, b0⟩ := word_new hb
      have z0 := lt_of_block b0
      have c00 : w1.cell? ⟨w.heap.size, 0, none⟩ = some (.int .i64 0) := by simp [World.cell?, b0]
      have c01 : w1.cell? ⟨w.heap.size, 1, none⟩ = some (.string ⟨#[]⟩) := by simp [World.cell?, b0]
      have c02 : w1.cell? ⟨w.heap.size, 2, none⟩ = some (.int .i64 0) := by simp [World.cell?, b0]
      have f00 : w1.frozen? ⟨w.heap.size, 0, none⟩ = false := by simp [World.frozen?, b0]
      have f01 : w1.frozen? ⟨w.heap.size, 1, none⟩ = false := by simp [World.frozen?, b0]
      have f02 : w1.frozen? ⟨w.heap.size, 2, none⟩ = false := by simp [World.frozen?, b0]
      have HB := Lib.hid hB
      clear hB hb b0
      go_wp2
      rw [HT.out]
      exact bodyPost_ret (v := .tuple #[.agg #[.int .i64 K, .string (str T), .int .i64 P], .int .i64 E]) (by simp [results, Try.results50, go_sem, c00, c01, c02]) rfl ⟨rfl, ((HB.out.setCell (Nat.le_refl _) _).setCell (Nat.le_refl _) _).setCell (Nat.le_refl _) _⟩

theorem one_sign (s : ByteArray) (hp : 0 < s.size) (hd : digitB s[0] = false) (hl : letterB s[0] = false) (p : Int) (W : World) :
    (signOf s.toList = [] → oneTok s.toList p W = GivesTok W 0 [] 0 5) ∧ (signOf s.toList ≠ [] → oneTok s.toList p W = GivesTok W 4 (signOf s.toList) p 0) := by
  have ho : one s.toList = (signOf s.toList, sigM (signOf s.toList)) := by
    unfold one; rw [head_get s hp, if_neg (by rw [hd]; simp), if_neg (by rw [ofName_eq, hd, hl]; simp)]
  refine ⟨fun h => ?_, fun h => ?_⟩
  · rw [h] at ho; exact oneTok_bad ho (by decide) p W
  · rw [show sigM (signOf s.toList) = (4, 0) from by unfold sigM; rw [if_neg h]] at ho; exact oneTok_ok ho p W
set_option maxRecDepth 100000 in
set_option maxHeartbeats 4000000 in
theorem refOneSign_any (s : ByteArray) (p : Int) (w : World) (h : s.size ≤ maxLen) (hp : 0 < s.size) (hd : digitB s[0] = false) (hl : letterB s[0] = false) :
    Calls Try.prog 50 #[.string s, .int .i64 p] w (oneTok s.toList p w) := by
  have H61 := Lib.hid (fun W => refSign_any s W h hp)
  have HO := Lib.hid (one_sign s hp hd hl p w)
  revert H61 HO
  generalize signOf s.toList = T
  intro H61 HO
  unfold maxLen at h
  have hst := str_toList T
  cases T with
  | nil =>
    have hq : ((str []).toList == []) = true := by rw [str_toList]; rfl
    go_enter Try.func50, Try.ntmps50
    go_wp2_with (first | (go_at_call 52; refine (refDigit_any _ _).mono ?_; rintro e w' ⟨rfl, rfl⟩) | (go_at_call 51; refine (refLetter_any _ _).mono ?_; rintro e w' ⟨rfl, rfl⟩))
    refine (H61.out _).mono ?_
    rintro e w1 ⟨rfl, hb⟩
    obtain ⟨hB, b0⟩ := word_new hb
    have z0 := lt_of_block b0
    have c00 : w1.cell? ⟨w.heap.size, 0, none⟩ = some (.int .i64 0) := by simp [World.cell?, b0]
    have c01 : w1.cell? ⟨w.heap.size, 1, none⟩ = some (.string ⟨#[]⟩) := by simp [World.cell?, b0]
    have c02 : w1.cell? ⟨w.heap.size, 2, none⟩ = some (.int .i64 0) := by simp [World.cell?, b0]
    have f00 : w1.frozen? ⟨w.heap.size, 0, none⟩ = false := by simp [World.frozen?, b0]
    have f01 : w1.frozen? ⟨w.heap.size, 1, none⟩ = false := by simp [World.frozen?, b0]
    have f02 : w1.frozen? ⟨w.heap.size, 2, none⟩ = false := by simp [World.frozen?, b0]
    have HB := Lib.hid hB
    clear hB hb b0
    go_wp2
    rw [HO.out.1 (by trivial)]
    exact bodyPost_ret (v := .tuple #[.agg #[.int .i64 0, .string ⟨#[]⟩, .int .i64 0], .int .i64 5]) (by simp [results, Try.results50, go_sem, c00, c01, c02]) rfl ⟨rfl, ((HB.out.setCell (Nat.le_refl _) _).setCell (Nat.le_refl _) _).setCell (Nat.le_refl _) _⟩
  | cons a r =>
    have hq : ((str (a :: r)).toList == []) = false := by rw [str_toList]; rfl
    go_enter Try.func50, Try.ntmps50
    go_wp2_with (first | (go_at_call 52; refine (refDigit_any _ _).mono ?_; rintro e w' ⟨rfl, rfl⟩) | (go_at_call 51; refine (refLetter_any _ _).mono ?_; rintro e w' ⟨rfl, rfl⟩))
    refine (H61.out _).mono ?_
    rintro e w1 ⟨rfl, hb⟩
    obtain ⟨hB, b0⟩ := word_new hb
    have z0 := lt_of_block b0
    have c00 : w1.cell? ⟨w.heap.size, 0, none⟩ = some (.int .i64 0) := by simp [World.cell?, b0]
    have c01 : w1.cell? ⟨w.heap.size, 1, none⟩ = some (.string ⟨#[]⟩) := by simp [World.cell?, b0]
    have c02 : w1.cell? ⟨w.heap.size, 2, none⟩ = some (.int .i64 0) := by simp [World.cell?, b0]
    have f00 : w1.frozen? ⟨w.heap.size, 0, none⟩ = false := by simp [World.frozen?, b0]
    have f01 : w1.frozen? ⟨w.heap.size, 1, none⟩ = false := by simp [World.frozen?, b0]
    have f02 : w1.frozen? ⟨w.heap.size, 2, none⟩ = false := by simp [World.frozen?, b0]
    have HB := Lib.hid hB
    clear hB hb b0
    go_wp2
    rw [HO.out.2 (by simp)]
    exact bodyPost_ret (v := .tuple #[.agg #[.int .i64 4, .string (str (a :: r)), .int .i64 p], .int .i64 0]) (by simp [results, Try.results50, go_sem, c00, c01, c02]) rfl ⟨rfl, ((HB.out.setCell (Nat.le_refl _) _).setCell (Nat.le_refl _) _).setCell (Nat.le_refl _) _⟩

theorem refOne_any (s : ByteArray) (p : Int) (w : World) (h : s.size ≤ maxLen) (hp : 0 < s.size) : Calls Try.prog 50 #[.string s, .int .i64 p] w (oneTok s.toList p w) := by
  rcases Bool.eq_false_or_eq_true (digitB s[0]) with hd | hd
  · exact refOneDigit_any s p w h hp hd
  · rcases Bool.eq_false_or_eq_true (letterB s[0]) with hl | hl
    · exact refOneName_any s p w h hp hl
    · exact refOneSign_any s p w h hp hd hl
end Go.Proofs.Ytgligmdkikbdoaa.Lx
