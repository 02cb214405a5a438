/- The document's answer 'one' of layer lex returns what the plain function one says. Conditions: a text that is not empty, its length within a machine's. -/
import Derived.Test.YtobkcdkffcenbaaGreatDoorCb22
import Derived.Test.YtobkcdkffcenbaaGreatDoorCb16
import Derived.Test.YtobkcdkffcenbaaGreatDoorCb17
set_option linter.unusedVariables false
set_option linter.unusedSimpArgs false
namespace Go.Proofs.YtobkcdkffcenbaaGreatDoor.Lx
open Go.ChangeShapes Go.WideShapes Go.ChangeAt Go.RowKit
theorem letM_zero (T : Bytes) (h : (letM T).2 ≠ 0) : (letM T).1 = 0 := by
  unfold letM at *
  cases hw : wordB T with
  | true => simp [hw] at h
  | false =>
    cases hn : nameB T with
    | true => simp [hw, hn] at h
    | false => simp
theorem one_word (s : ByteArray) (k : Nat) (hp : 0 < s.size) (hd : letterB s[0] = true) (hT : (s.extract 0 k).toList = s.toList.takeWhile ofNameB) (p : Int) (W : World) :
    oneTok s.toList p W = wordTok (s.extract 0 k).toList p W := by
  have ho : one s.toList = ((s.extract 0 k).toList, letM (s.extract 0 k).toList) := by
    unfold one; rw [head_get s hp, if_neg (by rw [letter_no_digit _ hd]; simp), if_pos (by rw [ofName_eq, hd]; rfl), hT]
  unfold oneTok wordTok
  rw [ho]
  by_cases h : (letM (s.extract 0 k).toList).2 = 0
  · simp only [h, if_true]
  · simp only [h, if_false, letM_zero _ h]
theorem word_new {w w1 : World} {c : Array Value} (hb : Below (w.alloc (.cells c 105)).heap.size (w.alloc (.cells c 105)) w1) :
    Below w.heap.size w w1 ∧ w1.heap[w.heap.size]? = some (.cells c 105 (0, 0)) := by
  refine ⟨((Below.refl _ _).alloc (Nat.le_refl _) _).trans (hb.mono (by simp)), ?_⟩
  rw [hb.block _ (by simp)]; exact heap_alloc_new w _
set_option maxRecDepth 100000 in
set_option maxHeartbeats 4000000 in
theorem refOneName_any (s : ByteArray) (p : Int) (w : World) (h : s.size ≤ maxLen) (hp : 0 < s.size) (hd : letterB s[0] = true) :
    Calls Tryz.prog 53 #[.string s, .int .i64 p] w (oneTok s.toList p w) := by
  unfold maxLen at h
  have hnd := letter_no_digit _ hd
  go_enter Tryz.func53, Tryz.ntmps53
  go_wp2_with (first | (go_at_call 77; refine (refDigit_any _ _).mono ?_; rintro e w' ⟨rfl, rfl⟩) | (go_at_call 79; refine (refLetter_any _ _).mono ?_; rintro e w' ⟨rfl, rfl⟩))
  go_loop [6] (fun i => ∃ k : Nat, k ≤ s.size ∧ i = .int .i64 k ∧ ((s.toList.drop 0).take (k - 0)).all ofNameB = true) (fun i => s.size - (intOf i).toNat)
  case atStart => exact ⟨0, Nat.zero_le _, rfl, by simp⟩
  case round =>
    obtain ⟨k, hk, rfl, hs⟩ := hrel
    have tail : (∀ hh : k < s.size, ofNameB s[k] = false) → ∃ K T P E, Hid (∀ W, Calls Tryz.prog 80 #[.string (s.extract 0 k), .int .i64 p] W (GivesTok W K T P E)) ∧ Hid (oneTok s.toList p w = GivesTok w K T P E) := fun hstop => by
      have h1 := row_end s ofNameB 0 k (Nat.zero_le _) hk hs hstop
      refine ⟨_, _, _, _, Lib.hid fun W => ?_, Lib.hid (one_word s k hp hd h1 p w)⟩
      have := refWord_any (s.extract 0 k).toList p W (by rw [toList_len, ByteArray.size_extract]; unfold maxLen; omega)
      rw [str_of] at this; exact this
    by_cases hlt : k < s.size
    · rcases Bool.eq_false_or_eq_true (letterB s[k]) with g1 | g1
      · have HN := Lib.hid (row_more s ofNameB 0 k (Nat.zero_le _) hlt hs (by rw [ofName_eq, g1]; rfl))
        clear hs tail
        go_wp2_with (first | (go_at_call 77; refine (refDigit_any _ _).mono ?_; rintro e w' ⟨rfl, rfl⟩) | (go_at_call 79; refine (refLetter_any _ _).mono ?_; rintro e w' ⟨rfl, rfl⟩))
        go_round
        case rel => exact ⟨k + 1, by omega, by go_num, HN.out⟩
        case measure => simp [intOf]; omega
      · rcases Bool.eq_false_or_eq_true (digitB s[k]) with g2 | g2
        · have HN := Lib.hid (row_more s ofNameB 0 k (Nat.zero_le _) hlt hs (by rw [ofName_eq, g1, g2]; rfl))
          clear hs tail
          go_wp2_with (first | (go_at_call 77; refine (refDigit_any _ _).mono ?_; rintro e w' ⟨rfl, rfl⟩) | (go_at_call 79; refine (refLetter_any _ _).mono ?_; rintro e w' ⟨rfl, rfl⟩))
          go_round
          case rel => exact ⟨k + 1, by omega, by go_num, HN.out⟩
          case measure => simp [intOf]; omega
        · obtain ⟨K, T, P, E, H60, HT⟩ := tail (fun _ => by rw [ofName_eq, g1, g2]; rfl)
          clear hs tail
          go_wp2_with (first | (go_at_call 77; refine (refDigit_any _ _).mono ?_; rintro e w' ⟨rfl, rfl⟩) | (go_at_call 79; refine (refLetter_any _ _).mono ?_; rintro e w' ⟨rfl, rfl⟩))
          refine (H60.out _).mono ?_
          rintro e w1 ⟨rfl, hb⟩
          obtain ⟨hB, b0⟩ := word_new hb
          have z0 := lt_of_block b0
          have c00 : w1.cell? ⟨w.heap.size, 0, none⟩ = some (.int .i64 0) := by simp [World.cell?, b0]
          have c01 : w1.cell? ⟨w.heap.size, 1, none⟩ = some (.string ⟨#[]⟩) := by simp [World.cell?, b0]
          have c02 : w1.cell? ⟨w.heap.size, 2, none⟩ = some (.int .i64 0) := by simp [World.cell?, b0]
          have f00 : w1.frozen? ⟨w.heap.size, 0, none⟩ = false := by simp [World.frozen?, b0]
          have f01 : w1.frozen? ⟨w.heap.size, 1, none⟩ = false := by simp [World.frozen?, b0]
          have f02 : w1.frozen? ⟨w.heap.size, 2, none⟩ = false := by simp [World.frozen?, b0]
          have HB := Lib.hid hB
          clear hB hb b0
          go_wp2
          rw [HT.out]
          exact bodyPost_ret (v := .tuple #[.agg #[.int .i64 K, .string (str T), .int .i64 P], .int .i64 E]) (by simp [results, Tryz.results53, go_sem, c00, c01, c02]) rfl ⟨rfl, ((HB.out.setCell (Nat.le_refl _) _).setCell (Nat.le_refl _) _).setCell (Nat.le_refl _) _⟩
    · obtain ⟨K, T, P, E, H60, HT⟩ := tail (fun hh => absurd hh hlt)
      clear hs tail
      go_wp2_with fail
      refine (H60.out _).mono ?_
      rintro e w1 ⟨rfl, hb⟩
      obtain ⟨hB, b0⟩ := word_new hb
      have z0 := lt_of_block b0
      have c00 : w1.cell? ⟨w.heap.size, 0, none⟩ = some (.int .i64 0) := by simp [World.cell?, b0]
      have c01 : w1.cell? ⟨w.heap.size, 1, none⟩ = some (.string ⟨#[]⟩) := by simp [World.cell?, b0]
      have c02 : w1.cell? ⟨w.heap.size, 2, none⟩ = some (.int .i64 0) := by simp [World.cell?, b0]
      have f00 : w1.frozen? ⟨w.heap.size, 0, none⟩ = false := by simp [World.frozen?, b0]
      have f01 : w1.frozen? ⟨w.heap.size, 1, none⟩ = false := by simp [World.frozen?, b0]
      have f02 : w1.frozen? ⟨w.heap.size, 2, none⟩ = false := by simp [World.frozen?, b0]
      have HB := Lib.hid hB
      clear hB hb b0
      go_wp2
      rw [HT.out]
      exact bodyPost_ret (v := .tuple #[.agg #[.int .i64 K, .string (str T), .int .i64 P], .int .i64 E]) (by simp [results, Tryz.results53, go_sem, c00, c01, c02]) rfl ⟨rfl, ((HB.out.setCell (Nat.le_refl _) _).setCell (Nat.le_refl _) _).setCell (Nat.le_refl _) _⟩
theorem one_sign (s : ByteArray) (hp : 0 < s.size) (hd : digitB s[0] = false) (hl : letterB s[0] = false) (p : Int) (W : World) :
    (signOf s.toList = [] → oneTok s.toList p W = GivesTok W 0 [] 0 5) ∧ (signOf s.toList ≠ [] → oneTok s.toList p W = GivesTok W 4 (signOf s.toList) p 0) := by
  have ho : one s.toList = (signOf s.toList, sigM (signOf s.toList)) := by
    unfold one; rw [head_get s hp, if_neg (by rw [hd]; simp), if_neg (by rw [ofName_eq, hd, hl]; simp)]
  refine ⟨fun h => ?_, fun h => ?_⟩
  · rw [h] at ho; exact oneTok_bad ho (by decide) p W
  · rw [show sigM (signOf s.toList) = (4, 0) from by unfold sigM; rw [if_neg h]] at ho; exact oneTok_ok ho p W
set_option maxRecDepth 100000 in
set_option maxHeartbeats 4000000 in
theorem refOneSign_any (s : ByteArray) (p : Int) (w : World) (h : s.size ≤ maxLen) (hp : 0 < s.size) (hd : digitB s[0] = false) (hl : letterB s[0] = false) :
    Calls Tryz.prog 53 #[.string s, .int .i64 p] w (oneTok s.toList p w) := by
  have H61 := Lib.hid (fun W => refSign_any s W h hp)
  have HO := Lib.hid (one_sign s hp hd hl p w)
  revert H61 HO
  generalize signOf s.toList = T
  intro H61 HO
  unfold maxLen at h
  have hst := str_toList T
  cases T with
  | nil =>
    have hq : ((str []).toList == []) = true := by rw [str_toList]; rfl
    go_enter Tryz.func53, Tryz.ntmps53
    go_wp2_with (first | (go_at_call 77; refine (refDigit_any _ _).mono ?_; rintro e w' ⟨rfl, rfl⟩) | (go_at_call 79; refine (refLetter_any _ _).mono ?_; rintro e w' ⟨rfl, rfl⟩))
    refine (H61.out _).mono ?_
    rintro e w1 ⟨rfl, hb⟩
    obtain ⟨hB, b0⟩ := word_new hb
    have z0 := lt_of_block b0
    have c00 : w1.cell? ⟨w.heap.size, 0, none⟩ = some (.int .i64 0) := by simp [World.cell?, b0]
    have c01 : w1.cell? ⟨w.heap.size, 1, none⟩ = some (.string ⟨#[]⟩) := by simp [World.cell?, b0]
    have c02 : w1.cell? ⟨w.heap.size, 2, none⟩ = some (.int .i64 0) := by simp [World.cell?, b0]
    have f00 : w1.frozen? ⟨w.heap.size, 0, none⟩ = false := by simp [World.frozen?, b0]
    have f01 : w1.frozen? ⟨w.heap.size, 1, none⟩ = false := by simp [World.frozen?, b0]
    have f02 : w1.frozen? ⟨w.heap.size, 2, none⟩ = false := by simp [World.frozen?, b0]
    have HB := Lib.hid hB
    clear hB hb b0
    go_wp2
    rw [HO.out.1 (by trivial)]
    exact bodyPost_ret (v := .tuple #[.agg #[.int .i64 0, .string ⟨#[]⟩, .int .i64 0], .int .i64 5]) (by simp [results, Tryz.results53, go_sem, c00, c01, c02]) rfl ⟨rfl, ((HB.out.setCell (Nat.le_refl _) _).setCell (Nat.le_refl _) _).setCell (Nat.le_refl _) _⟩
  | cons a r =>
    have hq : ((str (a :: r)).toList == []) = false := by rw [str_toList]; rfl
    go_enter Tryz.func53, Tryz.ntmps53
    go_wp2_with (first | (go_at_call 77; refine (refDigit_any _ _).mono ?_; rintro e w' ⟨rfl, rfl⟩) | (go_at_call 79; refine (refLetter_any _ _).mono ?_; rintro e w' ⟨rfl, rfl⟩))
    refine (H61.out _).mono ?_
    rintro e w1 ⟨rfl, hb⟩
    obtain ⟨hB, b0⟩ := word_new hb
    have z0 := lt_of_block b0
    have c00 : w1.cell? ⟨w.heap.size, 0, none⟩ = some (.int .i64 0) := by simp [World.cell?, b0]
    have c01 : w1.cell? ⟨w.heap.size, 1, none⟩ = some (.string ⟨#[]⟩) := by simp [World.cell?, b0]
    have c02 : w1.cell? ⟨w.heap.size, 2, none⟩ = some (.int .i64 0) := by simp [World.cell?, b0]
    have f00 : w1.frozen? ⟨w.heap.size, 0, none⟩ = false := by simp [World.frozen?, b0]
    have f01 : w1.frozen? ⟨w.heap.size, 1, none⟩ = false := by simp [World.frozen?, b0]
    have f02 : w1.frozen? ⟨w.heap.size, 2, none⟩ = false := by simp [World.frozen?, b0]
    have HB := Lib.hid hB
    clear hB hb b0
    go_wp2
    rw [HO.out.2 (by simp)]
    exact bodyPost_ret (v := .tuple #[.agg #[.int .i64 4, .string (str (a :: r)), .int .i64 p], .int .i64 0]) (by simp [results, Tryz.results53, go_sem, c00, c01, c02]) rfl ⟨rfl, ((HB.out.setCell (Nat.le_refl _) _).setCell (Nat.le_refl _) _).setCell (Nat.le_refl _) _⟩
theorem refOne_any (s : ByteArray) (p : Int) (w : World) (h : s.size ≤ maxLen) (hp : 0 < s.size) : Calls Tryz.prog 53 #[.string s, .int .i64 p] w (oneTok s.toList p w) := by
  rcases Bool.eq_false_or_eq_true (digitB s[0]) with hd | hd
  · exact refOneDigit_any s p w h hp hd
  · rcases Bool.eq_false_or_eq_true (letterB s[0]) with hl | hl
    · exact refOneName_any s p w h hp hl
    · exact refOneSign_any s p w h hp hd hl
end Go.Proofs.YtobkcdkffcenbaaGreatDoor.Lx
namespace Go.Proofs.YtobkcdkffcenbaaGreatDoor.Lx
open Go.ChangeShapes Go.WideShapes Go.ChangeAt Go.RowKit
theorem own_below {w w2 : World} {b : Nat} {v : Value} {n : Nat} {e : TypeId} {sz : Nat} {xs : List Value} (h : w.ownsRow b e sz v n xs) (hb : Below w.heap.size w w2) : w2.ownsRow b e sz v n xs := by
  refine ⟨h.1, ?_⟩
  rcases h.2 with h0 | ⟨g, cap, cur, h1, h2, h3, h4⟩
  · exact .inl h0
  · exact .inr ⟨g, cap, cur, h1, h2, (hb.block g (lt_of_block h3)).trans h3, h4⟩
theorem upto_le (l : Bytes) : upto l ≤ l.length := by
  induction l with
  | nil => simp [upto]
  | cons c r ih => simp only [upto, List.length_cons]; split <;> omega
def RefRel (s : ByteArray) (W : World) (v a : Value) (wr : World) : Prop :=
  ∃ (p : Nat) (acc : List Tok), p ≤ s.size ∧ a = .int .i64 p ∧ acc.length ≤ p ∧ lexM s.toList = Res.glue acc (lexS (s.toList.drop p) p) ∧
    wr.heap[W.heap.size]? = some (.cells #[.int .i64 0, .int .i64 0] 29 (0, 0)) ∧ wr.ownsRow (W.heap.size + 1) 105 3 v acc.length (cellsOf acc) ∧ Below W.heap.size W wr
theorem ref_mid {W wr w2 w1 : World} {u : Value} {n : Nat} {xs : List Value} {c d : Array Value}
    (hb0 : wr.heap[W.heap.size]? = some (.cells #[.int .i64 0, .int .i64 0] 29 (0, 0))) (hbel : Below W.heap.size W wr) (h2 : Below wr.heap.size wr w2)
    (hown : wr.ownsRow (W.heap.size + 1) 105 3 u n xs) (hg : ((w2.alloc (.cells c 105)).alloc (.cells d 105)).grownBy w1 u.ownBlock) :
    w1.heap[W.heap.size]? = some (.cells #[.int .i64 0, .int .i64 0] 29 (0, 0)) ∧ w1.heap[w2.heap.size]? = some (.cells c 105 (0, 0)) ∧ Below W.heap.size W w1 := by
  have l0 := lt_of_block hb0
  have z := h2.size
  have hlt : ∀ j, some j = u.ownBlock → W.heap.size + 1 ≤ j ∧ j < wr.heap.size := fun j hj => hown.lt j hj.symm
  refine ⟨?_, ?_, ?_⟩
  · rw [hg.block _ (by simp; omega) (fun h => by have := hlt _ h; omega), Below.heap_alloc _ _ _ (by simp; omega), Below.heap_alloc _ _ _ (by omega), h2.block _ l0]; exact hb0
  · rw [hg.block _ (by simp; omega) (fun h => by have := hlt _ h; omega), Below.heap_alloc _ _ _ (by simp)]
    exact heap_alloc_new w2 _
  · exact (((hbel.trans (h2.mono hbel.size)).alloc (by omega) _).alloc (by simp; omega) _).grown hg (by simp; omega) (fun j hj => by have := hlt j hj.symm; omega)
theorem ref_step {W w1 : World} {v : Value} {s : ByteArray} {p : Nat} {acc : List Tok} {T : Bytes} {K : Int} (hlt : p < s.size) (hal : acc.length ≤ p)
    (hlex : lexM s.toList = Res.glue acc (lexS (s.toList.drop p) p)) (hone : one (s.toList.drop p) = (T, K, 0)) (hb : ¬ blankB s[p] = true) (hr : ¬ (s[p] = 45 ∧ (s.toList.drop (p + 1)).head? = some 45))
    (hb0 : w1.heap[W.heap.size]? = some (.cells #[.int .i64 0, .int .i64 0] 29 (0, 0))) (hbel : Below W.heap.size W w1)
    (hown : w1.ownsRow (W.heap.size + 1) 105 3 v (acc.length + 1) (cellsOf acc ++ [.int .i64 K, .string (str T), .int .i64 (p : Int)])) :
    RefRel s W v (.int .i64 ((p + T.length : Nat) : Int)) w1 ∧ 0 < T.length ∧ p + T.length ≤ s.size := by
  have hpos : 0 < T.length := by
    have := one_pos s[p] (s.toList.drop (p + 1)) (by rw [← drop_cons s p hlt, hone])
    rw [← drop_cons s p hlt, hone] at this; exact this
  have hle := one_le (s.toList.drop p)
  rw [hone, List.length_drop, toList_len] at hle
  have hqs : p + T.length ≤ s.size := by simp only at hle; omega
  refine ⟨⟨p + T.length, acc ++ [⟨K, T, p⟩], hqs, rfl, by simp; omega, ?_, hb0, ?_, hbel⟩, hpos, hqs⟩
  · rw [hlex, drop_cons s p hlt, lexS_cons _ _ _ hb hr (by rw [← drop_cons s p hlt, hone]), ← drop_cons s p hlt, hone, Res.glue_cons]
    simp only [List.drop_drop]
  · rw [cells_snoc, List.length_append]; exact hown
theorem ref_bad {s : ByteArray} {p : Nat} {acc : List Tok} {T : Bytes} {K E : Int} (hlt : p < s.size) (hlex : lexM s.toList = Res.glue acc (lexS (s.toList.drop p) p)) (hone : one (s.toList.drop p) = (T, K, E)) (hE : E ≠ 0)
    (hb : ¬ blankB s[p] = true) (hr : ¬ (s[p] = 45 ∧ (s.toList.drop (p + 1)).head? = some 45)) : lexM s.toList = .bad E p := by
  rw [hlex, drop_cons s p hlt, lexS_bad _ _ _ hb hr (by rw [← drop_cons s p hlt, hone]; exact hE), ← drop_cons s p hlt, hone]; rfl
theorem one_at (s : ByteArray) (p : Nat) (W : World) (h : s.size ≤ maxLen) (hp : p < s.size) (T : Bytes) (K E : Int) (ho : one (s.toList.drop p) = (T, K, E)) :
    (E = 0 → Calls Tryz.prog 53 #[.string (s.extract p s.size), .int .i64 p] W (GivesTok W K T p 0)) ∧ (E ≠ 0 → Calls Tryz.prog 53 #[.string (s.extract p s.size), .int .i64 p] W (GivesTok W 0 [] 0 E)) := by
  have e : (s.extract p s.size).size = s.size - p := by rw [ByteArray.size_extract]; omega
  have := refOne_any (s.extract p s.size) p W (by rw [e]; omega) (by rw [e]; omega)
  rw [extract_end] at this
  refine ⟨fun hE => ?_, fun hE => ?_⟩
  · subst hE; rw [oneTok_ok ho] at this; exact this
  · rw [oneTok_bad ho hE] at this; exact this
theorem blank_bytes (c : UInt8) : (blankB c = true → ((c.toNat : Int) == 32) = true ∨ (((c.toNat : Int) == 32) = false ∧ ((c.toNat : Int) == 9) = true) ∨ (((c.toNat : Int) == 32) = false ∧ ((c.toNat : Int) == 9) = false ∧ ((c.toNat : Int) == 10) = true) ∨
      (((c.toNat : Int) == 32) = false ∧ ((c.toNat : Int) == 9) = false ∧ ((c.toNat : Int) == 10) = false ∧ ((c.toNat : Int) == 13) = true)) ∧
    (¬ blankB c = true → ((c.toNat : Int) == 32) = false ∧ ((c.toNat : Int) == 9) = false ∧ ((c.toNat : Int) == 10) = false ∧ ((c.toNat : Int) == 13) = false) := by
  have q : ∀ k : UInt8, (c == k) = ((c.toNat : Int) == (k.toNat : Int)) := fun k => by
    rw [Bool.eq_iff_iff, beq_iff_eq, beq_iff_eq]; exact eq_cast _ _
  have hb : blankB c = (((c.toNat : Int) == 32) || ((c.toNat : Int) == 9) || ((c.toNat : Int) == 10) || ((c.toNat : Int) == 13)) := by
    unfold blankB; rw [q 32, q 9, q 10, q 13]; rfl
  rw [hb]
  cases ((c.toNat : Int) == 32) <;> cases ((c.toNat : Int) == 9) <;> cases ((c.toNat : Int) == 10) <;> cases ((c.toNat : Int) == 13) <;> simp
set_option maxRecDepth 100000 in
set_option maxHeartbeats 8000000 in
theorem refLex_any (s : ByteArray) (w : World) (h : s.size ≤ maxLen) : Calls Tryz.prog 34 #[.string s] w (LexPost w (lexM s.toList)) := by
  obtain ⟨i0, hi, hz0, hz1, hz2⟩ := info_parts info42
  unfold maxLen at h
  by_cases hbig : s.size ≤ 100000
  · have h' : s.size ≤ maxLen := by unfold maxLen; omega
    go_enter Tryz.func34, Tryz.ntmps34
    go_wp2
    go_loopw [4, 5] (fun v a wr => RefRel s w v a wr) (fun _ a _ => s.size - (intOf a).toNat)
    case atStart =>
      refine ⟨0, [], Nat.zero_le _, rfl, Nat.le_refl _, ?_, heap_alloc_new w _, World.ownsRow_nil _ _ _ _, (Below.refl _ _).alloc (Nat.le_refl _) _⟩
      rw [lexM_S _ (by rw [toList_len]; omega), List.drop_zero]; cases lexS s.toList 0 <;> rfl
    case round =>
      obtain ⟨p, acc, hp, rfl, hal, hlex, hb0, hown, hbel⟩ := hrel
      have hs0 := lt_of_block hb0
      have c0 : wr.cell? ⟨w.heap.size, 0, none⟩ = some (.int .i64 0) := by simp [World.cell?, hb0]
      have c1 : wr.cell? ⟨w.heap.size, 1, none⟩ = some (.int .i64 0) := by simp [World.cell?, hb0]
      have f0 : wr.frozen? ⟨w.heap.size, 0, none⟩ = false := by simp [World.frozen?, hb0]
      have f1 : wr.frozen? ⟨w.heap.size, 1, none⟩ = false := by simp [World.frozen?, hb0]
      have HL := Lib.hid hlex
      have H0 := Lib.hid hb0
      clear hlex hb0
      by_cases hlt : p < s.size
      · have HC := Lib.hid (drop_cons s p hlt)
        by_cases hbl : blankB s[p] = true
        · have HR := Lib.hid (show RefRel s w u4 (.int .i64 ((p : Int) + 1)) wr from ⟨p + 1, acc, by omega, by go_num, by omega, by rw [HL.out, HC.out, lexS_blank _ _ _ hbl], H0.out, hown, hbel⟩)
          rcases (blank_bytes s[p]).1 hbl with t | ⟨t1, t⟩ | ⟨t1, t2, t⟩ | ⟨t1, t2, t3, t⟩
          all_goals
            clear hown hbl
            go_wp2
            exact ⟨HR.out, by simp [intOf]; omega⟩
        · obtain ⟨t1, t2, t3, t4⟩ := (blank_bytes s[p]).2 hbl
          have HNB := Lib.hid hbl
          clear hbl
          by_cases hlt2 : p + 1 < s.size
          · have HC2 := Lib.hid (drop_cons s (p + 1) hlt2)
            rcases Bool.eq_false_or_eq_true ((s[p].toNat : Int) == 45) with q1 | q1
            · rcases Bool.eq_false_or_eq_true ((s[p + 1].toNat : Int) == 45) with q2 | q2
              · have HJ := Lib.hid (show ∀ j : Nat, j = p + upto (s.toList.drop p) → j ≤ s.size → p < j → RefRel s w u4 (.int .i64 (j : Int)) wr from fun j hj hj2 hj3 => ⟨j, acc, hj2, rfl, by omega, by
                  have a1 : s[p] = 45 := (eq_cast _ _).2 (by simpa using q1)
                  have a2 : s[p + 1] = 45 := (eq_cast _ _).2 (by simpa using q2)
                  have e : s.toList.drop p = 45 :: 45 :: s.toList.drop (p + 1 + 1) := by rw [HC.out, a1, HC2.out, a2]
                  rw [HL.out, hj]; conv => lhs; rw [e, lexS_remark, ← e]
                  rw [List.drop_drop], H0.out, hown, hbel⟩)
                have HUP := Lib.hid (upto_le (s.toList.drop p))
                have HPOS := Lib.hid (show 0 < upto (s.toList.drop p) from by
                  have a1 : s[p] = 45 := (eq_cast _ _).2 (by simpa using q1)
                  rw [HC.out, a1]; simp [upto]; omega)
                clear hown hbel c0 c1 f0 f1
                go_wp2
                go_loop [5] (fun i => ∃ j : Nat, p ≤ j ∧ j ≤ s.size ∧ i = .int .i64 j ∧ j + upto (s.toList.drop j) = p + upto (s.toList.drop p)) (fun i => s.size - (intOf i).toNat)
                case atStart => exact ⟨p, Nat.le_refl _, hp, rfl, rfl⟩
                case round =>
                  obtain ⟨j, hpj, hj, rfl, hu⟩ := hrel
                  have HU := Lib.hid hu
                  clear hu
                  by_cases hlj : j < s.size
                  · have HCJ := Lib.hid (drop_cons s j hlj)
                    rcases Bool.eq_false_or_eq_true ((s[j].toNat : Int) == 10) with q3 | q3
                    · have HE := Lib.hid (show upto (s.toList.drop j) = 0 from by
                        have a1 : s[j] = 10 := (eq_cast _ _).2 (by simpa using q3)
                        rw [HCJ.out, a1]; simp [upto])
                      go_wp2
                      have e1 := HU.out
                      rw [HE.out] at e1
                      have e2 := HPOS.out
                      exact ⟨HJ.out j (by omega) hj (by omega), by simp [intOf]; omega⟩
                    · have HE := Lib.hid (show upto (s.toList.drop j) = 1 + upto (s.toList.drop (j + 1)) from by
                        rw [HCJ.out]; simp only [upto]
                        rw [if_neg (by intro e; rw [e] at q3; simp at q3)])
                      go_wp2
                      go_round
                      case rel => exact ⟨j + 1, by omega, by omega, by go_num, by have e1 := HU.out; rw [HE.out] at e1; omega⟩
                      case measure => simp [intOf]; omega
                  · have HE := Lib.hid (show upto (s.toList.drop j) = 0 from by rw [List.drop_eq_nil_of_le (by rw [toList_len]; omega)]; rfl)
                    go_wp2
                    have e1 := HU.out
                    rw [HE.out] at e1
                    have e2 := HPOS.out
                    exact ⟨HJ.out j (by omega) hj (by omega), by simp [intOf]; omega⟩
              · have hno : ¬ (s[p] = 45 ∧ (s.toList.drop (p + 1)).head? = some 45) := by
                  rintro ⟨_, e⟩; rw [HC2.out] at e; simp at e; rw [e] at q2; simp at q2
                have HR := Lib.hid (hno)
                obtain ⟨T, K, E, ho⟩ : ∃ T K E, one (s.toList.drop p) = (T, K, E) := ⟨_, _, _, rfl⟩
                have HO := Lib.hid ho
                clear ho
                have hx := one_at s p
                by_cases hE : E = 0
                · subst hE
                  have H50 := Lib.hid (fun W => (hx W h' hlt T K 0 HO.out).1 rfl)
                  clear hx
                  go_wp2_with fail
                  refine (H50.out _).mono ?_
                  rintro e w2 ⟨rfl, hb2⟩
                  have HB2 := Lib.hid hb2
                  have hzz := hb2.size
                  go_wp2_with (at_builtin; refine wpList_append_own _ rfl (.tmp 83) (.tmp 85) 83 rfl (w.heap.size + 1) 105 i0 _ 3 32 Tryz.underlying83 hi hz0 hz1 hz2 rfl (by decide) _ _ _ rfl (((own_below hown hb2).alloc _).alloc _) ⟨w2.heap.size + 1, 0, none⟩ 1 1 [.int .i64 K, .string (str T), .int .i64 p] rfl rfl ?a1 ?b1 ?c1 ?d1 ?e1 ?_)
                  case a1 => intro j u hj; match j, hj with | 0, hj => (simp at hj; subst hj; simp [Addr.add]) | 1, hj => (simp at hj; subst hj; simp [Addr.add]) | 2, hj => (simp at hj; subst hj; simp [Addr.add])
                  case b1 => intro u hu; simp at hu; rcases hu with rfl | rfl | rfl <;> rfl
                  case c1 => unfold maxLen; omega
                  case d1 => omega
                  case e1 => simp; omega
                  intro v' w1 hown' hgrow _
                  obtain ⟨d0, d1, d2⟩ := ref_mid H0.out hbel HB2.out hown hgrow
                  have R := Lib.hid (ref_step hlt hal HL.out HO.out HNB.out HR.out d0 d2 hown')
                  have e3 : w1.cell? ⟨w2.heap.size, 1, none⟩ = some (.string (str T)) := by simp [World.cell?, d1]
                  have hss := str_size T
                  have hT := R.out.2.2
                  clear hown hown' hgrow d0 d1 d2 hb2 c0 c1 f0 f1
                  go_wp2
                  refine ⟨?_, ?_⟩
                  · have := R.out.1
                    rwa [show ((p + T.length : Nat) : Int) = (p : Int) + (T.length : Int) from by omega] at this
                  · have := R.out.2.1
                    simp [intOf]; omega
                · have hE1 : (E != 0) = true := bne_iff_ne.2 hE
                  have H50 := Lib.hid (fun W => (hx W h' hlt T K E HO.out).2 hE)
                  have HBD := Lib.hid (ref_bad hlt HL.out HO.out hE HNB.out HR.out)
                  clear hx hE hown
                  go_wp2_with fail
                  refine (H50.out _).mono ?_
                  rintro e w2 ⟨rfl, hb2⟩
                  have d0 : w2.heap[w.heap.size]? = _ := (hb2.block _ hs0).trans H0.out
                  have hs2 := lt_of_block d0
                  have c20 : w2.cell? ⟨w.heap.size, 0, none⟩ = some (.int .i64 0) := by simp [World.cell?, d0]
                  have c21 : w2.cell? ⟨w.heap.size, 1, none⟩ = some (.int .i64 0) := by simp [World.cell?, d0]
                  have f20 : w2.frozen? ⟨w.heap.size, 0, none⟩ = false := by simp [World.frozen?, d0]
                  have f21 : w2.frozen? ⟨w.heap.size, 1, none⟩ = false := by simp [World.frozen?, d0]
                  have HB2 := Lib.hid (hbel.trans (hb2.mono hbel.size))
                  have hz2' := HB2.out.size
                  clear hb2 d0
                  go_wp2
                  rw [HBD.out]
                  exact bodyPost_ret (v := .tuple #[.slice none 0 0, .agg #[.int .i64 E, .int .i64 (p : Int)]]) (by simp [results, Tryz.results34, go_sem, c20, c21, hs2]) rfl ⟨_, rfl, World.ownsRow_nil _ _ _ _, by first | exact ((HB2.out.setCell (Nat.le_refl _) _).setCell (Nat.le_refl _) _).alloc (by simp; omega) _ | exact ((HB2.out.alloc (by omega) _).setCell (Nat.le_refl _) _).setCell (Nat.le_refl _) _⟩
            · have hno : ¬ (s[p] = 45 ∧ (s.toList.drop (p + 1)).head? = some 45) := by
                rintro ⟨e, _⟩; rw [e] at q1; simp at q1
              have HR := Lib.hid (hno)
              obtain ⟨T, K, E, ho⟩ : ∃ T K E, one (s.toList.drop p) = (T, K, E) := ⟨_, _, _, rfl⟩
              have HO := Lib.hid ho
              clear ho
              have hx := one_at s p
              by_cases hE : E = 0
              · subst hE
                have H50 := Lib.hid (fun W => (hx W h' hlt T K 0 HO.out).1 rfl)
                clear hx
                go_wp2_with fail
                refine (H50.out _).mono ?_
                rintro e w2 ⟨rfl, hb2⟩
                have HB2 := Lib.hid hb2
                have hzz := hb2.size
                go_wp2_with (at_builtin; refine wpList_append_own _ rfl (.tmp 83) (.tmp 85) 83 rfl (w.heap.size + 1) 105 i0 _ 3 32 Tryz.underlying83 hi hz0 hz1 hz2 rfl (by decide) _ _ _ rfl (((own_below hown hb2).alloc _).alloc _) ⟨w2.heap.size + 1, 0, none⟩ 1 1 [.int .i64 K, .string (str T), .int .i64 p] rfl rfl ?a2 ?b2 ?c2 ?d2 ?e2 ?_)
                case a2 => intro j u hj; match j, hj with | 0, hj => (simp at hj; subst hj; simp [Addr.add]) | 1, hj => (simp at hj; subst hj; simp [Addr.add]) | 2, hj => (simp at hj; subst hj; simp [Addr.add])
                case b2 => intro u hu; simp at hu; rcases hu with rfl | rfl | rfl <;> rfl
                case c2 => unfold maxLen; omega
                case d2 => omega
                case e2 => simp; omega
                intro v' w1 hown' hgrow _
                obtain ⟨d0, d1, d2⟩ := ref_mid H0.out hbel HB2.out hown hgrow
                have R := Lib.hid (ref_step hlt hal HL.out HO.out HNB.out HR.out d0 d2 hown')
                have e3 : w1.cell? ⟨w2.heap.size, 1, none⟩ = some (.string (str T)) := by simp [World.cell?, d1]
                have hss := str_size T
                have hT := R.out.2.2
                clear hown hown' hgrow d0 d1 d2 hb2 c0 c1 f0 f1
                go_wp2
                refine ⟨?_, ?_⟩
                · have := R.out.1
                  rwa [show ((p + T.length : Nat) : Int) = (p : Int) + (T.length : Int) from by omega] at this
                · have := R.out.2.1
                  simp [intOf]; omega
              · have hE1 : (E != 0) = true := bne_iff_ne.2 hE
                have H50 := Lib.hid (fun W => (hx W h' hlt T K E HO.out).2 hE)
                have HBD := Lib.hid (ref_bad hlt HL.out HO.out hE HNB.out HR.out)
                clear hx hE hown
                go_wp2_with fail
                refine (H50.out _).mono ?_
                rintro e w2 ⟨rfl, hb2⟩
                have d0 : w2.heap[w.heap.size]? = _ := (hb2.block _ hs0).trans H0.out
                have hs2 := lt_of_block d0
                have c20 : w2.cell? ⟨w.heap.size, 0, none⟩ = some (.int .i64 0) := by simp [World.cell?, d0]
                have c21 : w2.cell? ⟨w.heap.size, 1, none⟩ = some (.int .i64 0) := by simp [World.cell?, d0]
                have f20 : w2.frozen? ⟨w.heap.size, 0, none⟩ = false := by simp [World.frozen?, d0]
                have f21 : w2.frozen? ⟨w.heap.size, 1, none⟩ = false := by simp [World.frozen?, d0]
                have HB2 := Lib.hid (hbel.trans (hb2.mono hbel.size))
                have hz2' := HB2.out.size
                clear hb2 d0
                go_wp2
                rw [HBD.out]
                exact bodyPost_ret (v := .tuple #[.slice none 0 0, .agg #[.int .i64 E, .int .i64 (p : Int)]]) (by simp [results, Tryz.results34, go_sem, c20, c21, hs2]) rfl ⟨_, rfl, World.ownsRow_nil _ _ _ _, by first | exact ((HB2.out.setCell (Nat.le_refl _) _).setCell (Nat.le_refl _) _).alloc (by simp; omega) _ | exact ((HB2.out.alloc (by omega) _).setCell (Nat.le_refl _) _).setCell (Nat.le_refl _) _⟩
          · have hno : ¬ (s[p] = 45 ∧ (s.toList.drop (p + 1)).head? = some 45) := by
              rintro ⟨_, e⟩; rw [List.drop_eq_nil_of_le (by rw [toList_len]; omega)] at e; simp at e
            have hlt2' : decide ((p : Int) + 1 < s.size) = false := by simp; omega
            have HR := Lib.hid (hno)
            obtain ⟨T, K, E, ho⟩ : ∃ T K E, one (s.toList.drop p) = (T, K, E) := ⟨_, _, _, rfl⟩
            have HO := Lib.hid ho
            clear ho
            have hx := one_at s p
            by_cases hE : E = 0
            · subst hE
              have H50 := Lib.hid (fun W => (hx W h' hlt T K 0 HO.out).1 rfl)
              clear hx
              go_wp2_with fail
              refine (H50.out _).mono ?_
              rintro e w2 ⟨rfl, hb2⟩
              have HB2 := Lib.hid hb2
              have hzz := hb2.size
              go_wp2_with (at_builtin; refine wpList_append_own _ rfl (.tmp 83) (.tmp 85) 83 rfl (w.heap.size + 1) 105 i0 _ 3 32 Tryz.underlying83 hi hz0 hz1 hz2 rfl (by decide) _ _ _ rfl (((own_below hown hb2).alloc _).alloc _) ⟨w2.heap.size + 1, 0, none⟩ 1 1 [.int .i64 K, .string (str T), .int .i64 p] rfl rfl ?a3 ?b3 ?c3 ?d3 ?e3 ?_)
              case a3 => intro j u hj; match j, hj with | 0, hj => (simp at hj; subst hj; simp [Addr.add]) | 1, hj => (simp at hj; subst hj; simp [Addr.add]) | 2, hj => (simp at hj; subst hj; simp [Addr.add])
              case b3 => intro u hu; simp at hu; rcases hu with rfl | rfl | rfl <;> rfl
              case c3 => unfold maxLen; omega
              case d3 => omega
              case e3 => simp; omega
              intro v' w1 hown' hgrow _
              obtain ⟨d0, d1, d2⟩ := ref_mid H0.out hbel HB2.out hown hgrow
              have R := Lib.hid (ref_step hlt hal HL.out HO.out HNB.out HR.out d0 d2 hown')
              have e3 : w1.cell? ⟨w2.heap.size, 1, none⟩ = some (.string (str T)) := by simp [World.cell?, d1]
              have hss := str_size T
              have hT := R.out.2.2
              clear hown hown' hgrow d0 d1 d2 hb2 c0 c1 f0 f1
              go_wp2
              refine ⟨?_, ?_⟩
              · have := R.out.1
                rwa [show ((p + T.length : Nat) : Int) = (p : Int) + (T.length : Int) from by omega] at this
              · have := R.out.2.1
                simp [intOf]; omega
            · have hE1 : (E != 0) = true := bne_iff_ne.2 hE
              have H50 := Lib.hid (fun W => (hx W h' hlt T K E HO.out).2 hE)
              have HBD := Lib.hid (ref_bad hlt HL.out HO.out hE HNB.out HR.out)
              clear hx hE hown
              go_wp2_with fail
              refine (H50.out _).mono ?_
              rintro e w2 ⟨rfl, hb2⟩
              have d0 : w2.heap[w.heap.size]? = _ := (hb2.block _ hs0).trans H0.out
              have hs2 := lt_of_block d0
              have c20 : w2.cell? ⟨w.heap.size, 0, none⟩ = some (.int .i64 0) := by simp [World.cell?, d0]
              have c21 : w2.cell? ⟨w.heap.size, 1, none⟩ = some (.int .i64 0) := by simp [World.cell?, d0]
              have f20 : w2.frozen? ⟨w.heap.size, 0, none⟩ = false := by simp [World.frozen?, d0]
              have f21 : w2.frozen? ⟨w.heap.size, 1, none⟩ = false := by simp [World.frozen?, d0]
              have HB2 := Lib.hid (hbel.trans (hb2.mono hbel.size))
              have hz2' := HB2.out.size
              clear hb2 d0
              go_wp2
              rw [HBD.out]
              exact bodyPost_ret (v := .tuple #[.slice none 0 0, .agg #[.int .i64 E, .int .i64 (p : Int)]]) (by simp [results, Tryz.results34, go_sem, c20, c21, hs2]) rfl ⟨_, rfl, World.ownsRow_nil _ _ _ _, by first | exact ((HB2.out.setCell (Nat.le_refl _) _).setCell (Nat.le_refl _) _).alloc (by simp; omega) _ | exact ((HB2.out.alloc (by omega) _).setCell (Nat.le_refl _) _).setCell (Nat.le_refl _) _⟩
      · have HF := Lib.hid (show lexM s.toList = .ok acc from by
          rw [HL.out, List.drop_eq_nil_of_le (by rw [toList_len]; omega), lexS_nil]; simp [Res.glue])
        go_wp2
        rw [HF.out]
        refine bodyPost_ret (v := .tuple #[u4, .agg #[.int .i64 0, .int .i64 0]]) (by simp [results, Tryz.results34, go_sem, c0, c1]) rfl ⟨_, rfl, ?_, (hbel.setCell (Nat.le_refl _) _).setCell (Nat.le_refl _) _⟩
        exact own_base (ownsRow_setCell_below (ownsRow_setCell_below hown (by show w.heap.size < _; omega) _) (by show w.heap.size < _; omega) _) (by omega)
  · go_enter Tryz.func34, Tryz.ntmps34
    go_wp2
    have hm : lexM s.toList = .bad 7 (-1) := by unfold lexM; rw [if_pos (by rw [toList_len]; omega)]
    rw [hm]
    exact bodyPost_ret (v := .tuple #[.slice none 0 0, .agg #[.int .i64 7, .int .i64 (-1)]]) (by simp [results, Tryz.results34, go_sem]) rfl ⟨_, rfl, World.ownsRow_nil _ _ _ _, (Below.refl _ _).alloc (Nat.le_refl _) _⟩
end Go.Proofs.YtobkcdkffcenbaaGreatDoor.Lx
namespace Go.Proofs.YtobkcdkffcenbaaGreatDoor.Rf
open Go.ChangeShapes Go.WideShapes Go.ChangeAt Go.RowKit
open Go.Proofs.YtobkcdkffcenbaaGreatDoor.Ex Go.Proofs.YtobkcdkffcenbaaGreatDoor.Sh
open Go.Proofs.YtobkcdkffcenbaaGreatDoor.Tr (str ret_bool ret_int Bytes Nd T joinM roomM)
theorem rlex_gives (s : ByteArray) (w : World) (h : s.size ≤ maxLen) : Calls Tryz.prog 34 #[.string s] w (Lx.LexGives w (Lx.lexM s.toList).toks (Lx.lexM s.toList).code (Lx.lexM s.toList).at_) :=
  (Lx.refLex_any s w h).mono fun _ _ h => h.gives
end Go.Proofs.YtobkcdkffcenbaaGreatDoor.Rf
namespace Go.Proofs.YtobkcdkffcenbaaGreatDoor.Rf
open Go.ChangeShapes Go.WideShapes Go.ChangeAt Go.RowKit
open Go.Proofs.YtobkcdkffcenbaaGreatDoor.Ex Go.Proofs.YtobkcdkffcenbaaGreatDoor.Sh
open Go.Proofs.YtobkcdkffcenbaaGreatDoor.Tr (str ret_bool ret_int Bytes Nd T joinM roomM)
end Go.Proofs.YtobkcdkffcenbaaGreatDoor.Rf

