/- Further answers of the document for layer lex: IsName, Value, word, sign. Conditions: lengths within a machine's; Value's text is a row of digits. -/
import Derived.Test.YtgligmdkikbdoaaLexV
import Derived.OneCell
import Derived.Laws.Rows
namespace Go.Proofs.Ytgligmdkikbdoaa.Lx
open Go.ChangeShapes Go.WideShapes Go.ChangeAt Go.RowKit
set_option linter.unusedVariables false

theorem all_more (s : ByteArray) (k : Nat) (h : k < s.size) (f : UInt8 → Bool) (ha : (s.toList.take k).all f = true) (hf : f s[k] = true) : (s.toList.take (k + 1)).all f = true := by
  rw [List.take_add_one, toList_get s k h, List.all_append, ha]; simp [hf]
theorem all_not (s : ByteArray) (k : Nat) (h : k < s.size) (f : UInt8 → Bool) (hf : f s[k] = false) : s.toList.all f = false := by
  rw [List.all_eq_false]; exact ⟨s[k], List.mem_of_getElem? (toList_get s k h), by simp [hf]⟩

set_option maxHeartbeats 1600000 in
theorem refIsName_any (s : ByteArray) (w : World) (h : s.size ≤ maxLen) :
    Calls Try.prog 28 #[.string s] w fun e w' => e = .returned (.bool (nameB s.toList)) ∧ Below w.heap.size w w' := by
  unfold maxLen at h
  have hl := toList_len s
  rcases Bool.eq_false_or_eq_true s.toList.isEmpty with h0 | h0
  · have e : nameB s.toList = false := by unfold nameB; rw [h0]; rfl
    have h0' : (s.toList == []) = true := by simpa using h0
    rw [e]
    clear hl
    go_enter Try.func28, Try.ntmps28
    go_wp2
    go_ret
    exact ⟨rfl, Below.refl _ _⟩
  · have hp : 0 < s.size := by
      rw [← hl]; cases hs : s.toList with
      | nil => rw [hs] at h0; cases h0
      | cons a l => simp
    have h0' : (s.toList == []) = false := by simpa using h0
    have hh := head_get s hp
    by_cases h40 : 40 < s.size
    · have e : nameB s.toList = false := by
        have k : decide (s.toList.length ≤ 40) = false := by rw [hl]; simpa using h40
        unfold nameB; rw [k]; simp
      rw [e]
      clear hl hh
      go_enter Try.func28, Try.ntmps28
      go_wp2
      go_ret
      exact ⟨rfl, Below.refl _ _⟩
    · rcases Bool.eq_false_or_eq_true (letterB s[0]) with hd | hd
      · rcases Bool.eq_false_or_eq_true (wordB s.toList) with hw | hw
        · have e : nameB s.toList = false := by unfold nameB; rw [hw]; simp
          rw [e]
          clear hl hh
          go_enter Try.func28, Try.ntmps28
          go_wp2_with (first | (go_at_call 51; refine (refLetter_any _ _).mono ?_; rintro e w' ⟨rfl, rfl⟩) | (go_at_call 30; refine (refIsWord_any _ _).mono ?_; rintro e w1 ⟨rfl, hb⟩))
          go_ret
          exact ⟨rfl, hb⟩
        · have e : nameB s.toList = s.toList.all ofNameB := by
            have k : decide (s.toList.length ≤ 40) = true := by rw [hl]; simpa using h40
            unfold nameB; rw [hw, hh, letter_no_digit _ hd, h0, k]; simp
          rw [e]
          have HL := Lib.hid hl
          clear hl hh e
          go_enter Try.func28, Try.ntmps28
          go_wp2_with (first | (go_at_call 51; refine (refLetter_any _ _).mono ?_; rintro e w' ⟨rfl, rfl⟩) | (go_at_call 30; refine (refIsWord_any _ _).mono ?_; rintro e w1 ⟨rfl, hb⟩))
          have HB := Lib.hid hb
          clear hb
          go_loop [3] (fun i => ∃ k : Nat, k ≤ s.size ∧ i = .int .i64 k ∧ (s.toList.take k).all ofNameB = true) (fun i => s.size - (intOf i).toNat)
          case atStart => exact ⟨0, Nat.zero_le _, rfl, by simp⟩
          case round =>
            obtain ⟨k, hk, rfl, hall⟩ := hrel
            have HA := Lib.hid hall
            clear hall
            by_cases hlt : k < s.size
            · rcases Bool.eq_false_or_eq_true (letterB s[k]) with g1 | g1
              · have HS := Lib.hid (all_more s k hlt ofNameB HA.out (by rw [ofName_eq, g1]; rfl))
                go_wp2_with (first | (go_at_call 51; refine (refLetter_any _ _).mono ?_; rintro e w' ⟨rfl, rfl⟩) | (go_at_call 52; refine (refDigit_any _ _).mono ?_; rintro e w' ⟨rfl, rfl⟩))
                go_round
                case rel => exact ⟨k + 1, by omega, by go_num, HS.out⟩
                case measure => simp [intOf]; omega
              · rcases Bool.eq_false_or_eq_true (digitB s[k]) with g2 | g2
                · have HS := Lib.hid (all_more s k hlt ofNameB HA.out (by rw [ofName_eq, g1, g2]; rfl))
                  go_wp2_with (first | (go_at_call 51; refine (refLetter_any _ _).mono ?_; rintro e w' ⟨rfl, rfl⟩) | (go_at_call 52; refine (refDigit_any _ _).mono ?_; rintro e w' ⟨rfl, rfl⟩))
                  go_round
                  case rel => exact ⟨k + 1, by omega, by go_num, HS.out⟩
                  case measure => simp [intOf]; omega
                · have HS := Lib.hid (all_not s k hlt ofNameB (by rw [ofName_eq, g1, g2]; rfl))
                  go_wp2_with (first | (go_at_call 51; refine (refLetter_any _ _).mono ?_; rintro e w' ⟨rfl, rfl⟩) | (go_at_call 52; refine (refDigit_any _ _).mono ?_; rintro e w' ⟨rfl, rfl⟩))
                  go_ret
                  exact ⟨ret_bool HS.out.symm, HB.out⟩
            · go_wp2
              go_ret
              exact ⟨ret_bool (by rw [← HA.out, List.take_of_length_le (by rw [HL.out]; omega)]), HB.out⟩
      · have e : nameB s.toList = false := by
          rcases Bool.eq_false_or_eq_true (digitB s[0]) with g | g
          · unfold nameB; rw [hh, g]; simp
          · have : s.toList.all ofNameB = false := all_not s 0 hp ofNameB (by rw [ofName_eq, hd, g]; rfl)
            unfold nameB; rw [this]; simp
        rw [e]
        clear hl hh
        go_enter Try.func28, Try.ntmps28
        go_wp2_with (first | (go_at_call 51; refine (refLetter_any _ _).mono ?_; rintro e w' ⟨rfl, rfl⟩))
        go_ret
        exact ⟨rfl, Below.refl _ _⟩

/-- A number that tells whether a row of digits is above the greatest. -/
def Tells (l : Bytes) (W : World) (e : Ending) (w' : World) : Prop := ∃ n : Int, e = .returned (.int .i64 n) ∧ decide (2147483647 < n) = decide (2147483647 < val l) ∧ W = w'
theorem val_take_le (l : Bytes) (k : Nat) : val (l.take k) ≤ val l := by
  induction l generalizing k with
  | nil => simp
  | cons c r ih =>
    cases k with
    | zero => simp [val]
    | succ k =>
      rw [List.take_succ_cons, val_cons, val_cons]
      have h1 := ih k
      have h2 : 10 ^ (r.take k).length ≤ 10 ^ r.length := Nat.pow_le_pow_right (by omega) (by rw [List.length_take]; omega)
      have := Nat.mul_le_mul_left (c.toNat - 48) h2
      omega
set_option maxHeartbeats 800000 in
theorem value_any (s : ByteArray) (w : World) (h : s.size ≤ maxLen) (hd : s.toList.all digitB = true) :
    Calls Try.prog 59 #[.string s] w (Tells s.toList w) := by
  unfold maxLen at h
  have HD := Lib.hid hd
  have HL := Lib.hid (toList_len s)
  clear hd
  go_enter Try.func59, Try.ntmps59
  go_wp2
  go_loop [3, 4] (fun n i => ∃ k : Nat, k ≤ s.size ∧ i = .int .i64 k ∧ n = .int .i64 (val (s.toList.take k)) ∧ val (s.toList.take k) ≤ 21474836479) (fun _ i => s.size - (intOf i).toNat)
  case atStart => exact ⟨0, Nat.zero_le _, rfl, rfl, by simp [val]⟩
  case round =>
    obtain ⟨k, hk, rfl, rfl, hv⟩ := hrel
    obtain ⟨V, hV⟩ : ∃ V, val (s.toList.take k) = V := ⟨_, rfl⟩
    rw [hV] at hv
    rw [hV]
    have HV := Lib.hid hV
    clear hV
    by_cases hlt : k < s.size
    · by_cases hb : V ≤ 2147483647
      · have hb' : decide ((V : Int) ≤ 2147483647) = true := by simp; omega
        obtain ⟨d1, d2⟩ := digit_bd s[k] (by
          have := List.all_eq_true.1 HD.out s[k] (List.mem_of_getElem? (toList_get s k hlt)); exact this)
        have HN := Lib.hid (show val (s.toList.take (k + 1)) = 10 * V + (s[k].toNat - 48) by
          rw [List.take_add_one, toList_get s k hlt]; show val (_ ++ [s[k]]) = _; rw [val_snoc, HV.out])
        have e1 : (48 : Int) ≤ s[k].toNat := by omega
        have e2 : (s[k].toNat : Int) ≤ 57 := by omega
        go_wp2
        refine ⟨⟨k + 1, by omega, by go_num, ?_, ?_⟩, by simp [intOf]; omega⟩
        · rw [HN.out]; exact congrArg (Value.int .i64) (by omega)
        · rw [HN.out]; omega
      · have hb' : decide ((V : Int) ≤ 2147483647) = false := by simp; omega
        have HT := Lib.hid (val_take_le s.toList k)
        go_wp2
        go_ret
        refine ⟨_, rfl, ?_, rfl⟩
        have h1 := HT.out
        rw [HV.out] at h1
        rw [decide_eq_true (by omega), decide_eq_true (by omega)]
    · have HW := Lib.hid (show val s.toList = V from by rw [← HV.out, List.take_of_length_le (by rw [HL.out]; omega)])
      go_wp2
      go_ret
      refine ⟨_, rfl, ?_, rfl⟩
      rw [HW.out, decide_eq_decide]; omega

/-- A token and an error, in a new place. -/
def GivesTok (W : World) (K : Int) (T : Bytes) (P : Int) (E : Int) (e : Ending) (w' : World) : Prop :=
  e = .returned (.tuple #[.agg #[.int .i64 K, .string (str T), .int .i64 P], .int .i64 E]) ∧ Below W.heap.size W w'
def wordTok (T : Bytes) (P : Int) (W : World) : Ending → World → Prop :=
  GivesTok W (letM T).1 (if (letM T).2 = 0 then T else []) (if (letM T).2 = 0 then P else 0) (letM T).2
theorem two_new {w w1 : World} {c d : Array Value} (hb : Below ((w.alloc (.cells c 42)).alloc (.cells d 42)).heap.size ((w.alloc (.cells c 42)).alloc (.cells d 42)) w1) :
    Below w.heap.size w w1 ∧ w1.heap[w.heap.size]? = some (.cells c 42 (0, 0)) ∧ w1.heap[w.heap.size + 1]? = some (.cells d 42 (0, 0)) := by
  refine ⟨(((Below.refl _ _).alloc (Nat.le_refl _) _).alloc (by simp) _).trans (hb.mono (by simp; omega)), ?_, ?_⟩
  · rw [hb.block _ (by simp; omega), Below.heap_alloc _ _ _ (by simp)]; exact heap_alloc_new w _
  · rw [hb.block _ (by simp)]
    exact (congrArg (fun i => ((w.alloc (.cells c 42)).alloc (.cells d 42)).heap[i]?) (show w.heap.size + 1 = (w.alloc (.cells c 42)).heap.size by simp)).trans (heap_alloc_new _ _)
set_option maxHeartbeats 1600000 in
theorem refWord_any (T : Bytes) (p : Int) (w : World) (h : T.length ≤ maxLen) :
    Calls Try.prog 60 #[.string (str T), .int .i64 p] w (wordTok T p w) := by
  have hst := str_toList T
  have hsz := str_size T
  rcases Bool.eq_false_or_eq_true (wordB T) with hw | hw
  · have e : wordTok T p w = GivesTok w 3 T p 0 := by unfold wordTok letM; rw [hw]; rfl
    rw [e]
    have H30 := Lib.hid (show ∀ W, Calls Try.prog 30 #[.string (str T)] W fun e w' => e = .returned (.bool true) ∧ Below W.heap.size W w' from fun W => by
      have := refIsWord_any (str T) W; rw [hst, hw] at this; exact this)
    clear e hst
    go_enter Try.func60, Try.ntmps60
    go_wp2_with fail
    refine (H30.out _).mono ?_
    rintro e w1 ⟨rfl, hb⟩
    obtain ⟨hB, b0, b1⟩ := two_new hb
    have z0 := lt_of_block b0
    have z1 := lt_of_block b1
    have c00 : w1.cell? ⟨w.heap.size, 0, none⟩ = some (.int .i64 0) := by simp [World.cell?, b0]
    have c01 : w1.cell? ⟨w.heap.size, 1, none⟩ = some (.string ⟨#[]⟩) := by simp [World.cell?, b0]
    have c02 : w1.cell? ⟨w.heap.size, 2, none⟩ = some (.int .i64 0) := by simp [World.cell?, b0]
    have f00 : w1.frozen? ⟨w.heap.size, 0, none⟩ = false := by simp [World.frozen?, b0]
    have f01 : w1.frozen? ⟨w.heap.size, 1, none⟩ = false := by simp [World.frozen?, b0]
    have f02 : w1.frozen? ⟨w.heap.size, 2, none⟩ = false := by simp [World.frozen?, b0]
    have c10 : w1.cell? ⟨w.heap.size + 1, 0, none⟩ = some (.int .i64 1) := by simp [World.cell?, b1]
    have c11 : w1.cell? ⟨w.heap.size + 1, 1, none⟩ = some (.string (str T)) := by simp [World.cell?, b1]
    have c12 : w1.cell? ⟨w.heap.size + 1, 2, none⟩ = some (.int .i64 p) := by simp [World.cell?, b1]
    have f10 : w1.frozen? ⟨w.heap.size + 1, 0, none⟩ = false := by simp [World.frozen?, b1]
    have HB := Lib.hid hB
    clear hB hb b0 b1
    go_wp2
    exact bodyPost_ret (v := .tuple #[.agg #[.int .i64 3, .string (str T), .int .i64 p], .int .i64 0]) (by simp [results, Try.results60, go_sem, c00, c01, c02]) rfl
      ⟨rfl, (((HB.out.setCell (by show w.heap.size ≤ w.heap.size + 1; omega) _).setCell (Nat.le_refl _) _).setCell (Nat.le_refl _) _).setCell (Nat.le_refl _) _⟩
  · have H30 := Lib.hid (show ∀ W, Calls Try.prog 30 #[.string (str T)] W fun e w' => e = .returned (.bool false) ∧ Below W.heap.size W w' from fun W => by
      have := refIsWord_any (str T) W; rw [hst, hw] at this; exact this)
    rcases Bool.eq_false_or_eq_true (nameB T) with hn | hn
    · have e : wordTok T p w = GivesTok w 1 T p 0 := by unfold wordTok letM; rw [hw, hn]; rfl
      rw [e]
      have H28 := Lib.hid (show ∀ W, Calls Try.prog 28 #[.string (str T)] W fun e w' => e = .returned (.bool true) ∧ Below W.heap.size W w' from fun W => by
        have := refIsName_any (str T) W (by rw [hsz]; exact h); rw [hst, hn] at this; exact this)
      clear e hst
      go_enter Try.func60, Try.ntmps60
      go_wp2_with fail
      refine (H30.out _).mono ?_
      rintro e w0 ⟨rfl, hb0⟩
      go_wp2_with fail
      refine (H28.out _).mono ?_
      rintro e w1 ⟨rfl, hb1⟩
      have hb := hb0.trans (hb1.mono hb0.size)
      clear hb0 hb1
      obtain ⟨hB, b0, b1⟩ := two_new hb
      have z0 := lt_of_block b0
      have z1 := lt_of_block b1
      have c00 : w1.cell? ⟨w.heap.size, 0, none⟩ = some (.int .i64 0) := by simp [World.cell?, b0]
      have c01 : w1.cell? ⟨w.heap.size, 1, none⟩ = some (.string ⟨#[]⟩) := by simp [World.cell?, b0]
      have c02 : w1.cell? ⟨w.heap.size, 2, none⟩ = some (.int .i64 0) := by simp [World.cell?, b0]
      have f00 : w1.frozen? ⟨w.heap.size, 0, none⟩ = false := by simp [World.frozen?, b0]
      have f01 : w1.frozen? ⟨w.heap.size, 1, none⟩ = false := by simp [World.frozen?, b0]
      have f02 : w1.frozen? ⟨w.heap.size, 2, none⟩ = false := by simp [World.frozen?, b0]
      have c10 : w1.cell? ⟨w.heap.size + 1, 0, none⟩ = some (.int .i64 1) := by simp [World.cell?, b1]
      have c11 : w1.cell? ⟨w.heap.size + 1, 1, none⟩ = some (.string (str T)) := by simp [World.cell?, b1]
      have c12 : w1.cell? ⟨w.heap.size + 1, 2, none⟩ = some (.int .i64 p) := by simp [World.cell?, b1]
      have f10 : w1.frozen? ⟨w.heap.size + 1, 0, none⟩ = false := by simp [World.frozen?, b1]
      have HB := Lib.hid hB
      clear hB hb b0 b1
      go_wp2
      exact bodyPost_ret (v := .tuple #[.agg #[.int .i64 1, .string (str T), .int .i64 p], .int .i64 0]) (by simp [results, Try.results60, go_sem, c00, c01, c02]) rfl
        ⟨rfl, ((HB.out.setCell (Nat.le_refl _) _).setCell (Nat.le_refl _) _).setCell (Nat.le_refl _) _⟩
    · have e : wordTok T p w = GivesTok w 0 [] 0 5 := by unfold wordTok letM; rw [hw, hn]; rfl
      rw [e]
      have H28 := Lib.hid (show ∀ W, Calls Try.prog 28 #[.string (str T)] W fun e w' => e = .returned (.bool false) ∧ Below W.heap.size W w' from fun W => by
        have := refIsName_any (str T) W (by rw [hsz]; exact h); rw [hst, hn] at this; exact this)
      clear e hst
      go_enter Try.func60, Try.ntmps60
      go_wp2_with fail
      refine (H30.out _).mono ?_
      rintro e w0 ⟨rfl, hb0⟩
      go_wp2_with fail
      refine (H28.out _).mono ?_
      rintro e w1 ⟨rfl, hb1⟩
      have hb := hb0.trans (hb1.mono hb0.size)
      clear hb0 hb1
      obtain ⟨hB, b0, b1⟩ := two_new hb
      have z0 := lt_of_block b0
      have z1 := lt_of_block b1
      have c00 : w1.cell? ⟨w.heap.size, 0, none⟩ = some (.int .i64 0) := by simp [World.cell?, b0]
      have c01 : w1.cell? ⟨w.heap.size, 1, none⟩ = some (.string ⟨#[]⟩) := by simp [World.cell?, b0]
      have c02 : w1.cell? ⟨w.heap.size, 2, none⟩ = some (.int .i64 0) := by simp [World.cell?, b0]
      have f00 : w1.frozen? ⟨w.heap.size, 0, none⟩ = false := by simp [World.frozen?, b0]
      have f01 : w1.frozen? ⟨w.heap.size, 1, none⟩ = false := by simp [World.frozen?, b0]
      have f02 : w1.frozen? ⟨w.heap.size, 2, none⟩ = false := by simp [World.frozen?, b0]
      have c10 : w1.cell? ⟨w.heap.size + 1, 0, none⟩ = some (.int .i64 1) := by simp [World.cell?, b1]
      have c11 : w1.cell? ⟨w.heap.size + 1, 1, none⟩ = some (.string (str T)) := by simp [World.cell?, b1]
      have c12 : w1.cell? ⟨w.heap.size + 1, 2, none⟩ = some (.int .i64 p) := by simp [World.cell?, b1]
      have f10 : w1.frozen? ⟨w.heap.size + 1, 0, none⟩ = false := by simp [World.frozen?, b1]
      have HB := Lib.hid hB
      clear hB hb b0 b1
      go_wp2
      exact bodyPost_ret (v := .tuple #[.agg #[.int .i64 0, .string ⟨#[]⟩, .int .i64 0], .int .i64 5]) (by simp [results, Try.results60, go_sem, c00, c01, c02]) rfl
        ⟨rfl, ((HB.out.setCell (Nat.le_refl _) _).setCell (Nat.le_refl _) _).setCell (Nat.le_refl _) _⟩
end Go.Proofs.Ytgligmdkikbdoaa.Lx
