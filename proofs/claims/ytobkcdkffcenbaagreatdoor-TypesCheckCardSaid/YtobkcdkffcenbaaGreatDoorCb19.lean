/- The document's own small answers of layer lex (package bailmentref02) return what the plain functions say; what was in memory stays. Conditions: lengths within a machine's. -/
import Derived.Test.YtobkcdkffcenbaaGreatDoorCa01
import Derived.Test.YtobkcdkffcenbaaGreatDoorCa11
import Derived.RegionTactic
import Derived.Deep.QuietTactic
import Derived.BigQuiet
import Derived.IntWalk
import Derived.Below
import Derived.OneCell
import Derived.Laws.Rows
import Derived.Test.YtobkcdkffcenbaaGreatDoorCb17
import Derived.Test.YtobkcdkffcenbaaGreatDoorCb15
import Derived.Deep.LoopGhost
set_option linter.unusedVariables false
set_option linter.unusedSimpArgs false
namespace Go.Proofs.YtobkcdkffcenbaaGreatDoor.Lx
open Go.ChangeShapes Go.WideShapes Go.ChangeAt Go.RowKit
theorem refDigit_any (c : UInt8) (w : World) :
    Calls Tryz.prog 77 #[.int .u8 c.toNat] w fun e w' => e = .returned (.bool (digitB c)) ∧ w = w' := by
  by_cases h : (48 : Int) ≤ c.toNat
  · have e : digitB c = decide ((c.toNat : Int) ≤ 57) := by
      have h1 : (48 : UInt8) ≤ c := (le_cast _ _).2 h
      simp only [digitB, h1, decide_true, Bool.true_and, decide_eq_decide]; exact le_cast _ _
    rw [e]
    go_enter Tryz.func77, Tryz.ntmps77
    go_wp2
    go_ret
    exact ⟨rfl, rfl⟩
  · have e : digitB c = false := by
      have h1 : ¬ (48 : UInt8) ≤ c := fun h' => h ((le_cast _ _).1 h')
      simp [digitB, h1]
    rw [e]
    go_enter Tryz.func77, Tryz.ntmps77
    go_wp2
    go_ret
    exact ⟨rfl, rfl⟩
theorem refLetter_any (c : UInt8) (w : World) :
    Calls Tryz.prog 79 #[.int .u8 c.toNat] w fun e w' => e = .returned (.bool (letterB c)) ∧ w = w' := by
  have hb : letterB c = (decide ((97 : Int) ≤ c.toNat) && decide ((c.toNat : Int) ≤ 122) || ((c.toNat : Int) == 95)) := by
    unfold letterB
    have e1 : decide ((97 : UInt8) ≤ c) = decide ((97 : Int) ≤ c.toNat) := decide_eq_decide.2 (le_cast _ _)
    have e2 : decide (c ≤ (122 : UInt8)) = decide ((c.toNat : Int) ≤ 122) := decide_eq_decide.2 (le_cast _ _)
    have e3 : (c == (95 : UInt8)) = ((c.toNat : Int) == 95) := by
      rw [Bool.eq_iff_iff, beq_iff_eq, beq_iff_eq]; exact eq_cast _ _
    rw [e1, e2, e3]
  rw [hb]
  clear hb
  by_cases h1 : (97 : Int) ≤ c.toNat <;> by_cases h2 : (c.toNat : Int) ≤ 122 <;> rcases Bool.eq_false_or_eq_true ((c.toNat : Int) == 95) with h3 | h3
  all_goals
    go_enter Tryz.func79, Tryz.ntmps79
    go_wp2
  all_goals
    go_ret
    exact ⟨ret_bool (by first | (simp [h1, h2, h3]; done) | (simp [h1, h2, h3]; intros; omega)), rfl⟩
def TextsAt (w : World) (g : Nat) (l : List Bytes) : Prop := g < w.heap.size ∧ ∀ (i : Nat) (x : Bytes), l[i]? = some x → w.cell? ⟨g, i, none⟩ = some (.string (str x))
theorem texts_new (w : World) (l : List Bytes) (cs : Array Value) (t : TypeId) (h : cs.toList = l.map (fun x => Value.string (str x))) : TextsAt (w.alloc (.cells cs t)) w.heap.size l := by
  refine ⟨by simp, fun i x hx => ?_⟩
  rw [World.cell?_alloc_at _ _ _ _ rfl, ← Array.getElem?_toList, h, List.getElem?_map, hx]; rfl
theorem TextsAt.below {w w' : World} {g B : Nat} {l : List Bytes} (h : TextsAt w g l) (hb : Below B w w') (hB : g < B) : TextsAt w' g l :=
  ⟨Nat.lt_of_lt_of_le h.1 hb.size, fun i x hx => (hb.cell (by exact hB)).trans (h.2 i x hx)⟩
def GivesTexts (W : World) (l : List Bytes) (e : Ending) (w' : World) : Prop :=
  e = .returned (.slice (some ⟨W.heap.size, 0, none⟩) l.length l.length) ∧ TextsAt w' W.heap.size l ∧ Below W.heap.size W w'
set_option maxRecDepth 100000 in
theorem words_any (w : World) : Calls Tryz.prog 106 #[] w (GivesTexts w words) := by
  go_enter Tryz.func106, Tryz.ntmps106
  go_wp2
  go_ret
  exact ⟨rfl, texts_new w words _ _ rfl, (Below.refl _ _).alloc (Nat.le_refl _) _⟩
set_option maxRecDepth 100000 in
theorem signs_any (w : World) : Calls Tryz.prog 98 #[] w (GivesTexts w signTexts) := by
  go_enter Tryz.func98, Tryz.ntmps98
  go_wp2
  go_ret
  exact ⟨rfl, texts_new w signTexts _ _ rfl, (Below.refl _ _).alloc (Nat.le_refl _) _⟩
theorem any_more (L : List Bytes) (k : Nat) (x y : Bytes) (h : (L.take k).contains y = false) (hx : L[k]? = some x) (hp : (x == y) = false) : (L.take (k + 1)).contains y = false := by
  have hxy : y ≠ x := fun e => by subst e; simp at hp
  have h' : y ∉ L.take k := by simpa using h
  rw [List.take_add_one, hx]
  simp [hxy, h']
theorem any_hit (L : List Bytes) (k : Nat) (x y : Bytes) (hx : L[k]? = some x) (hp : (x == y) = true) : L.contains y = true := by
  have hxy : x = y := by simpa using hp
  subst hxy
  have := List.mem_of_getElem? hx
  simpa using this
set_option maxHeartbeats 800000 in
theorem refIsWord_any (s : ByteArray) (w : World) :
    Calls Tryz.prog 96 #[.string s] w fun e w' => e = .returned (.bool (wordB s.toList)) ∧ Below w.heap.size w w' := by
  go_enter Tryz.func96, Tryz.ntmps96
  go_wp2_with fail
  refine (words_any _).mono ?_
  rintro e w1 ⟨rfl, ht, hb⟩
  rw [show words.length = 35 from rfl]
  have HT := Lib.hid ht
  have HB := Lib.hid hb
  clear ht hb
  go_wp2
  go_loop [4] (fun i => ∃ k : Nat, k ≤ 35 ∧ i = .int .i64 k ∧ (words.take k).contains s.toList = false) (fun i => 35 - (intOf i).toNat)
  case atStart => exact ⟨0, Nat.zero_le _, rfl, rfl⟩
  case round =>
    obtain ⟨k, hk, rfl, hc⟩ := hrel
    have HC := Lib.hid hc
    clear hc
    by_cases hlt : k < 35
    · obtain ⟨x, hx⟩ : ∃ x, words[k]? = some x := ⟨_, List.getElem?_eq_getElem hlt⟩
      have c0 := HT.out.2 k x hx
      have HX := Lib.hid hx
      clear hx
      have hs := str_toList x
      rcases Bool.eq_false_or_eq_true (x == s.toList) with hq | hq
      · have HQ := Lib.hid (any_hit words k x s.toList HX.out hq)
        go_wp2
        go_ret
        exact ⟨ret_bool HQ.out.symm, HB.out⟩
      · have HQ := Lib.hid (any_more words k x s.toList HC.out HX.out hq)
        go_wp2
        go_round
        case rel => exact ⟨k + 1, by omega, by go_num, HQ.out⟩
        case measure => simp [intOf]; omega
    · have HQ := Lib.hid (show wordB s.toList = false from by
        have := HC.out
        rw [List.take_of_length_le (by show (35 : Nat) ≤ k; omega)] at this
        exact this)
      go_wp2
      go_ret
      exact ⟨ret_bool HQ.out.symm, HB.out⟩
end Go.Proofs.YtobkcdkffcenbaaGreatDoor.Lx
namespace Go.Proofs.YtobkcdkffcenbaaGreatDoor.Lx
open Go.ChangeShapes Go.WideShapes Go.ChangeAt Go.RowKit
theorem all_more (s : ByteArray) (k : Nat) (h : k < s.size) (f : UInt8 → Bool) (ha : (s.toList.take k).all f = true) (hf : f s[k] = true) : (s.toList.take (k + 1)).all f = true := by
  rw [List.take_add_one, toList_get s k h, List.all_append, ha]; simp [hf]
theorem all_not (s : ByteArray) (k : Nat) (h : k < s.size) (f : UInt8 → Bool) (hf : f s[k] = false) : s.toList.all f = false := by
  rw [List.all_eq_false]; exact ⟨s[k], List.mem_of_getElem? (toList_get s k h), by simp [hf]⟩
set_option maxHeartbeats 1600000 in
theorem refIsName_any (s : ByteArray) (w : World) (h : s.size ≤ maxLen) :
    Calls Tryz.prog 97 #[.string s] w fun e w' => e = .returned (.bool (nameB s.toList)) ∧ Below w.heap.size w w' := by
  unfold maxLen at h
  have hl := toList_len s
  rcases Bool.eq_false_or_eq_true s.toList.isEmpty with h0 | h0
  · have e : nameB s.toList = false := by unfold nameB; rw [h0]; rfl
    have h0' : (s.toList == []) = true := by simpa using h0
    rw [e]
    clear hl
    go_enter Tryz.func97, Tryz.ntmps97
    go_wp2
    go_ret
    exact ⟨rfl, Below.refl _ _⟩
  · have hp : 0 < s.size := by
      rw [← hl]; cases hs : s.toList with
      | nil => rw [hs] at h0; cases h0
      | cons a l => simp
    have h0' : (s.toList == []) = false := by simpa using h0
    have hh := head_get s hp
    by_cases h40 : 40 < s.size
    · have e : nameB s.toList = false := by
        have k : decide (s.toList.length ≤ 40) = false := by rw [hl]; simpa using h40
        unfold nameB; rw [k]; simp
      rw [e]
      clear hl hh
      go_enter Tryz.func97, Tryz.ntmps97
      go_wp2
      go_ret
      exact ⟨rfl, Below.refl _ _⟩
    · rcases Bool.eq_false_or_eq_true (letterB s[0]) with hd | hd
      · rcases Bool.eq_false_or_eq_true (wordB s.toList) with hw | hw
        · have e : nameB s.toList = false := by unfold nameB; rw [hw]; simp
          rw [e]
          clear hl hh
          go_enter Tryz.func97, Tryz.ntmps97
          go_wp2_with (first | (go_at_call 79; refine (refLetter_any _ _).mono ?_; rintro e w' ⟨rfl, rfl⟩) | (go_at_call 96; refine (refIsWord_any _ _).mono ?_; rintro e w1 ⟨rfl, hb⟩))
          go_ret
          exact ⟨rfl, hb⟩
        · have e : nameB s.toList = s.toList.all ofNameB := by
            have k : decide (s.toList.length ≤ 40) = true := by rw [hl]; simpa using h40
            unfold nameB; rw [hw, hh, letter_no_digit _ hd, h0, k]; simp
          rw [e]
          have HL := Lib.hid hl
          clear hl hh e
          go_enter Tryz.func97, Tryz.ntmps97
          go_wp2_with (first | (go_at_call 79; refine (refLetter_any _ _).mono ?_; rintro e w' ⟨rfl, rfl⟩) | (go_at_call 96; refine (refIsWord_any _ _).mono ?_; rintro e w1 ⟨rfl, hb⟩))
          have HB := Lib.hid hb
          clear hb
          go_loop [3] (fun i => ∃ k : Nat, k ≤ s.size ∧ i = .int .i64 k ∧ (s.toList.take k).all ofNameB = true) (fun i => s.size - (intOf i).toNat)
          case atStart => exact ⟨0, Nat.zero_le _, rfl, by simp⟩
          case round =>
            obtain ⟨k, hk, rfl, hall⟩ := hrel
            have HA := Lib.hid hall
            clear hall
            by_cases hlt : k < s.size
            · rcases Bool.eq_false_or_eq_true (letterB s[k]) with g1 | g1
              · have HS := Lib.hid (all_more s k hlt ofNameB HA.out (by rw [ofName_eq, g1]; rfl))
                go_wp2_with (first | (go_at_call 79; refine (refLetter_any _ _).mono ?_; rintro e w' ⟨rfl, rfl⟩) | (go_at_call 77; refine (refDigit_any _ _).mono ?_; rintro e w' ⟨rfl, rfl⟩))
                go_round
                case rel => exact ⟨k + 1, by omega, by go_num, HS.out⟩
                case measure => simp [intOf]; omega
              · rcases Bool.eq_false_or_eq_true (digitB s[k]) with g2 | g2
                · have HS := Lib.hid (all_more s k hlt ofNameB HA.out (by rw [ofName_eq, g1, g2]; rfl))
                  go_wp2_with (first | (go_at_call 79; refine (refLetter_any _ _).mono ?_; rintro e w' ⟨rfl, rfl⟩) | (go_at_call 77; refine (refDigit_any _ _).mono ?_; rintro e w' ⟨rfl, rfl⟩))
                  go_round
                  case rel => exact ⟨k + 1, by omega, by go_num, HS.out⟩
                  case measure => simp [intOf]; omega
                · have HS := Lib.hid (all_not s k hlt ofNameB (by rw [ofName_eq, g1, g2]; rfl))
                  go_wp2_with (first | (go_at_call 79; refine (refLetter_any _ _).mono ?_; rintro e w' ⟨rfl, rfl⟩) | (go_at_call 77; refine (refDigit_any _ _).mono ?_; rintro e w' ⟨rfl, rfl⟩))
                  go_ret
                  exact ⟨ret_bool HS.out.symm, HB.out⟩
            · go_wp2
              go_ret
              exact ⟨ret_bool (by rw [← HA.out, List.take_of_length_le (by rw [HL.out]; omega)]), HB.out⟩
      · have e : nameB s.toList = false := by
          rcases Bool.eq_false_or_eq_true (digitB s[0]) with g | g
          · unfold nameB; rw [hh, g]; simp
          · have : s.toList.all ofNameB = false := all_not s 0 hp ofNameB (by rw [ofName_eq, hd, g]; rfl)
            unfold nameB; rw [this]; simp
        rw [e]
        clear hl hh
        go_enter Tryz.func97, Tryz.ntmps97
        go_wp2_with (first | (go_at_call 79; refine (refLetter_any _ _).mono ?_; rintro e w' ⟨rfl, rfl⟩))
        go_ret
        exact ⟨rfl, Below.refl _ _⟩
def Tells (l : Bytes) (W : World) (e : Ending) (w' : World) : Prop := ∃ n : Int, e = .returned (.int .i64 n) ∧ decide (2147483647 < n) = decide (2147483647 < val l) ∧ W = w'
theorem val_take_le (l : Bytes) (k : Nat) : val (l.take k) ≤ val l := by
  induction l generalizing k with
  | nil => simp
  | cons c r ih =>
    cases k with
    | zero => simp [val]
    | succ k =>
      rw [List.take_succ_cons, val_cons, val_cons]
      have h1 := ih k
      have h2 : 10 ^ (r.take k).length ≤ 10 ^ r.length := Nat.pow_le_pow_right (by omega) (by rw [List.length_take]; omega)
      have := Nat.mul_le_mul_left (c.toNat - 48) h2
      omega
set_option maxHeartbeats 800000 in
theorem value_any (s : ByteArray) (w : World) (h : s.size ≤ maxLen) (hd : s.toList.all digitB = true) :
    Calls Tryz.prog 78 #[.string s] w (Tells s.toList w) := by
  unfold maxLen at h
  have HD := Lib.hid hd
  have HL := Lib.hid (toList_len s)
  clear hd
  go_enter Tryz.func78, Tryz.ntmps78
  go_wp2
  go_loop [3, 4] (fun n i => ∃ k : Nat, k ≤ s.size ∧ i = .int .i64 k ∧ n = .int .i64 (val (s.toList.take k)) ∧ val (s.toList.take k) ≤ 21474836479) (fun _ i => s.size - (intOf i).toNat)
  case atStart => exact ⟨0, Nat.zero_le _, rfl, rfl, by simp [val]⟩
  case round =>
    obtain ⟨k, hk, rfl, rfl, hv⟩ := hrel
    obtain ⟨V, hV⟩ : ∃ V, val (s.toList.take k) = V := ⟨_, rfl⟩
    rw [hV] at hv
    rw [hV]
    have HV := Lib.hid hV
    clear hV
    by_cases hlt : k < s.size
    · by_cases hb : V ≤ 2147483647
      · have hb' : decide ((V : Int) ≤ 2147483647) = true := by simp; omega
        obtain ⟨d1, d2⟩ := digit_bd s[k] (by
          have := List.all_eq_true.1 HD.out s[k] (List.mem_of_getElem? (toList_get s k hlt)); exact this)
        have HN := Lib.hid (show val (s.toList.take (k + 1)) = 10 * V + (s[k].toNat - 48) by
          rw [List.take_add_one, toList_get s k hlt]; show val (_ ++ [s[k]]) = _; rw [val_snoc, HV.out])
        have e1 : (48 : Int) ≤ s[k].toNat := by omega
        have e2 : (s[k].toNat : Int) ≤ 57 := by omega
        go_wp2
        refine ⟨⟨k + 1, by omega, by go_num, ?_, ?_⟩, by simp [intOf]; omega⟩
        · rw [HN.out]; exact congrArg (Value.int .i64) (by omega)
        · rw [HN.out]; omega
      · have hb' : decide ((V : Int) ≤ 2147483647) = false := by simp; omega
        have HT := Lib.hid (val_take_le s.toList k)
        go_wp2
        go_ret
        refine ⟨_, rfl, ?_, rfl⟩
        have h1 := HT.out
        rw [HV.out] at h1
        rw [decide_eq_true (by omega), decide_eq_true (by omega)]
    · have HW := Lib.hid (show val s.toList = V from by rw [← HV.out, List.take_of_length_le (by rw [HL.out]; omega)])
      go_wp2
      go_ret
      refine ⟨_, rfl, ?_, rfl⟩
      rw [HW.out, decide_eq_decide]; omega
def GivesTok (W : World) (K : Int) (T : Bytes) (P : Int) (E : Int) (e : Ending) (w' : World) : Prop :=
  e = .returned (.tuple #[.agg #[.int .i64 K, .string (str T), .int .i64 P], .int .i64 E]) ∧ Below W.heap.size W w'
def wordTok (T : Bytes) (P : Int) (W : World) : Ending → World → Prop :=
  GivesTok W (letM T).1 (if (letM T).2 = 0 then T else []) (if (letM T).2 = 0 then P else 0) (letM T).2
theorem two_new {w w1 : World} {c d : Array Value} (hb : Below ((w.alloc (.cells c 105)).alloc (.cells d 105)).heap.size ((w.alloc (.cells c 105)).alloc (.cells d 105)) w1) :
    Below w.heap.size w w1 ∧ w1.heap[w.heap.size]? = some (.cells c 105 (0, 0)) ∧ w1.heap[w.heap.size + 1]? = some (.cells d 105 (0, 0)) := by
  refine ⟨(((Below.refl _ _).alloc (Nat.le_refl _) _).alloc (by simp) _).trans (hb.mono (by simp; omega)), ?_, ?_⟩
  · rw [hb.block _ (by simp; omega), Below.heap_alloc _ _ _ (by simp)]; exact heap_alloc_new w _
  · rw [hb.block _ (by simp)]
    exact (congrArg (fun i => ((w.alloc (.cells c 105)).alloc (.cells d 105)).heap[i]?) (show w.heap.size + 1 = (w.alloc (.cells c 105)).heap.size by simp)).trans (heap_alloc_new _ _)
set_option maxHeartbeats 1600000 in
theorem refWord_any (T : Bytes) (p : Int) (w : World) (h : T.length ≤ maxLen) :
    Calls Tryz.prog 80 #[.string (str T), .int .i64 p] w (wordTok T p w) := by
  have hst := str_toList T
  have hsz := str_size T
  rcases Bool.eq_false_or_eq_true (wordB T) with hw | hw
  · have e : wordTok T p w = GivesTok w 3 T p 0 := by unfold wordTok letM; rw [hw]; rfl
    rw [e]
    have H30 := Lib.hid (show ∀ W, Calls Tryz.prog 96 #[.string (str T)] W fun e w' => e = .returned (.bool true) ∧ Below W.heap.size W w' from fun W => by
      have := refIsWord_any (str T) W; rw [hst, hw] at this; exact this)
    clear e hst
    go_enter Tryz.func80, Tryz.ntmps80
    go_wp2_with fail
    refine (H30.out _).mono ?_
    rintro e w1 ⟨rfl, hb⟩
    obtain ⟨hB, b0, b1⟩ := two_new hb
    have z0 := lt_of_block b0
    have z1 := lt_of_block b1
    have c00 : w1.cell? ⟨w.heap.size, 0, none⟩ = some (.int .i64 0) := by simp [World.cell?, b0]
    have c01 : w1.cell? ⟨w.heap.size, 1, none⟩ = some (.string ⟨#[]⟩) := by simp [World.cell?, b0]
    have c02 : w1.cell? ⟨w.heap.size, 2, none⟩ = some (.int .i64 0) := by simp [World.cell?, b0]
    have f00 : w1.frozen? ⟨w.heap.size, 0, none⟩ = false := by simp [World.frozen?, b0]
    have f01 : w1.frozen? ⟨w.heap.size, 1, none⟩ = false := by simp [World.frozen?, b0]
    have f02 : w1.frozen? ⟨w.heap.size, 2, none⟩ = false := by simp [World.frozen?, b0]
    have c10 : w1.cell? ⟨w.heap.size + 1, 0, none⟩ = some (.int .i64 1) := by simp [World.cell?, b1]
    have c11 : w1.cell? ⟨w.heap.size + 1, 1, none⟩ = some (.string (str T)) := by simp [World.cell?, b1]
    have c12 : w1.cell? ⟨w.heap.size + 1, 2, none⟩ = some (.int .i64 p) := by simp [World.cell?, b1]
    have f10 : w1.frozen? ⟨w.heap.size + 1, 0, none⟩ = false := by simp [World.frozen?, b1]
    have HB := Lib.hid hB
    clear hB hb b0 b1
    go_wp2
    exact bodyPost_ret (v := .tuple #[.agg #[.int .i64 3, .string (str T), .int .i64 p], .int .i64 0]) (by simp [results, Tryz.results80, go_sem, c00, c01, c02]) rfl
      ⟨rfl, (((HB.out.setCell (by show w.heap.size ≤ w.heap.size + 1; omega) _).setCell (Nat.le_refl _) _).setCell (Nat.le_refl _) _).setCell (Nat.le_refl _) _⟩
  · have H30 := Lib.hid (show ∀ W, Calls Tryz.prog 96 #[.string (str T)] W fun e w' => e = .returned (.bool false) ∧ Below W.heap.size W w' from fun W => by
      have := refIsWord_any (str T) W; rw [hst, hw] at this; exact this)
    rcases Bool.eq_false_or_eq_true (nameB T) with hn | hn
    · have e : wordTok T p w = GivesTok w 1 T p 0 := by unfold wordTok letM; rw [hw, hn]; rfl
      rw [e]
      have H28 := Lib.hid (show ∀ W, Calls Tryz.prog 97 #[.string (str T)] W fun e w' => e = .returned (.bool true) ∧ Below W.heap.size W w' from fun W => by
        have := refIsName_any (str T) W (by rw [hsz]; exact h); rw [hst, hn] at this; exact this)
      clear e hst
      go_enter Tryz.func80, Tryz.ntmps80
      go_wp2_with fail
      refine (H30.out _).mono ?_
      rintro e w0 ⟨rfl, hb0⟩
      go_wp2_with fail
      refine (H28.out _).mono ?_
      rintro e w1 ⟨rfl, hb1⟩
      have hb := hb0.trans (hb1.mono hb0.size)
      clear hb0 hb1
      obtain ⟨hB, b0, b1⟩ := two_new hb
      have z0 := lt_of_block b0
      have z1 := lt_of_block b1
      have c00 : w1.cell? ⟨w.heap.size, 0, none⟩ = some (.int .i64 0) := by simp [World.cell?, b0]
      have c01 : w1.cell? ⟨w.heap.size, 1, none⟩ = some (.string ⟨#[]⟩) := by simp [World.cell?, b0]
      have c02 : w1.cell? ⟨w.heap.size, 2, none⟩ = some (.int .i64 0) := by simp [World.cell?, b0]
      have f00 : w1.frozen? ⟨w.heap.size, 0, none⟩ = false := by simp [World.frozen?, b0]
      have f01 : w1.frozen? ⟨w.heap.size, 1, none⟩ = false := by simp [World.frozen?, b0]
      have f02 : w1.frozen? ⟨w.heap.size, 2, none⟩ = false := by simp [World.frozen?, b0]
      have c10 : w1.cell? ⟨w.heap.size + 1, 0, none⟩ = some (.int .i64 1) := by simp [World.cell?, b1]
      have c11 : w1.cell? ⟨w.heap.size + 1, 1, none⟩ = some (.string (str T)) := by simp [World.cell?, b1]
      have c12 : w1.cell? ⟨w.heap.size + 1, 2, none⟩ = some (.int .i64 p) := by simp [World.cell?, b1]
      have f10 : w1.frozen? ⟨w.heap.size + 1, 0, none⟩ = false := by simp [World.frozen?, b1]
      have HB := Lib.hid hB
      clear hB hb b0 b1
      go_wp2
      exact bodyPost_ret (v := .tuple #[.agg #[.int .i64 1, .string (str T), .int .i64 p], .int .i64 0]) (by simp [results, Tryz.results80, go_sem, c00, c01, c02]) rfl
        ⟨rfl, ((HB.out.setCell (Nat.le_refl _) _).setCell (Nat.le_refl _) _).setCell (Nat.le_refl _) _⟩
    · have e : wordTok T p w = GivesTok w 0 [] 0 5 := by unfold wordTok letM; rw [hw, hn]; rfl
      rw [e]
      have H28 := Lib.hid (show ∀ W, Calls Tryz.prog 97 #[.string (str T)] W fun e w' => e = .returned (.bool false) ∧ Below W.heap.size W w' from fun W => by
        have := refIsName_any (str T) W (by rw [hsz]; exact h); rw [hst, hn] at this; exact this)
      clear e hst
      go_enter Tryz.func80, Tryz.ntmps80
      go_wp2_with fail
      refine (H30.out _).mono ?_
      rintro e w0 ⟨rfl, hb0⟩
      go_wp2_with fail
      refine (H28.out _).mono ?_
      rintro e w1 ⟨rfl, hb1⟩
      have hb := hb0.trans (hb1.mono hb0.size)
      clear hb0 hb1
      obtain ⟨hB, b0, b1⟩ := two_new hb
      have z0 := lt_of_block b0
      have z1 := lt_of_block b1
      have c00 : w1.cell? ⟨w.heap.size, 0, none⟩ = some (.int .i64 0) := by simp [World.cell?, b0]
      have c01 : w1.cell? ⟨w.heap.size, 1, none⟩ = some (.string ⟨#[]⟩) := by simp [World.cell?, b0]
      have c02 : w1.cell? ⟨w.heap.size, 2, none⟩ = some (.int .i64 0) := by simp [World.cell?, b0]
      have f00 : w1.frozen? ⟨w.heap.size, 0, none⟩ = false := by simp [World.frozen?, b0]
      have f01 : w1.frozen? ⟨w.heap.size, 1, none⟩ = false := by simp [World.frozen?, b0]
      have f02 : w1.frozen? ⟨w.heap.size, 2, none⟩ = false := by simp [World.frozen?, b0]
      have c10 : w1.cell? ⟨w.heap.size + 1, 0, none⟩ = some (.int .i64 1) := by simp [World.cell?, b1]
      have c11 : w1.cell? ⟨w.heap.size + 1, 1, none⟩ = some (.string (str T)) := by simp [World.cell?, b1]
      have c12 : w1.cell? ⟨w.heap.size + 1, 2, none⟩ = some (.int .i64 p) := by simp [World.cell?, b1]
      have f10 : w1.frozen? ⟨w.heap.size + 1, 0, none⟩ = false := by simp [World.frozen?, b1]
      have HB := Lib.hid hB
      clear hB hb b0 b1
      go_wp2
      exact bodyPost_ret (v := .tuple #[.agg #[.int .i64 0, .string ⟨#[]⟩, .int .i64 0], .int .i64 5]) (by simp [results, Tryz.results80, go_sem, c00, c01, c02]) rfl
        ⟨rfl, ((HB.out.setCell (Nat.le_refl _) _).setCell (Nat.le_refl _) _).setCell (Nat.le_refl _) _⟩
end Go.Proofs.YtobkcdkffcenbaaGreatDoor.Lx
namespace Go.Proofs.YtobkcdkffcenbaaGreatDoor.Rf
open Go.ChangeShapes Go.WideShapes Go.ChangeAt Go.RowKit
open Go.Proofs.YtobkcdkffcenbaaGreatDoor.Ex Go.Proofs.YtobkcdkffcenbaaGreatDoor.Sh
open Go.Proofs.YtobkcdkffcenbaaGreatDoor.Tr (str ret_bool ret_int Bytes Nd T joinM roomM binaryB unaryB plainB)
set_option maxHeartbeats 800000 in
theorem value_eq (s : ByteArray) (w : World) (h : s.size ≤ maxLen) (hd : s.toList.all Lx.digitB = true) (hm : Lx.val s.toList ≤ 2147483647) :
    Calls Tryz.prog 78 #[.string s] w (fun e w' => e = .returned (.int .i64 (Lx.val s.toList : Int)) ∧ w = w') := by
  unfold maxLen at h
  have HD := Lib.hid hd
  have HL := Lib.hid (Lx.toList_len s)
  have HM := Lib.hid hm
  clear hd hm
  go_enter Tryz.func78, Tryz.ntmps78
  go_wp2
  go_loop [3, 4] (fun n i => ∃ k : Nat, k ≤ s.size ∧ i = .int .i64 k ∧ n = .int .i64 (Lx.val (s.toList.take k))) (fun _ i => s.size - (intOf i).toNat)
  case atStart => exact ⟨0, Nat.zero_le _, rfl, rfl⟩
  case round =>
    obtain ⟨k, hk, rfl, rfl⟩ := hrel
    obtain ⟨V, hV⟩ : ∃ V, Lx.val (s.toList.take k) = V := ⟨_, rfl⟩
    have hv : V ≤ 2147483647 := by rw [← hV]; exact Nat.le_trans (Lx.val_take_le s.toList k) HM.out
    rw [hV]
    have HV := Lib.hid hV
    clear hV
    by_cases hlt : k < s.size
    · have hb' : decide ((V : Int) ≤ 2147483647) = true := by simp; omega
      obtain ⟨d1, d2⟩ := Lx.digit_bd s[k] (by
        have := List.all_eq_true.1 HD.out s[k] (List.mem_of_getElem? (Lx.toList_get s k hlt)); exact this)
      have HN := Lib.hid (show Lx.val (s.toList.take (k + 1)) = 10 * V + (s[k].toNat - 48) by
        rw [List.take_add_one, Lx.toList_get s k hlt]; show Lx.val (_ ++ [s[k]]) = _; rw [Lx.val_snoc, HV.out])
      have e1 : (48 : Int) ≤ s[k].toNat := by omega
      have e2 : (s[k].toNat : Int) ≤ 57 := by omega
      go_wp2
      refine ⟨⟨k + 1, by omega, by go_num, ?_⟩, by simp [intOf]; omega⟩
      rw [HN.out]; exact congrArg (Value.int .i64) (by omega)
    · have HW := Lib.hid (show Lx.val s.toList = V from by rw [← HV.out, List.take_of_length_le (by rw [HL.out]; omega)])
      go_wp2
      go_ret
      exact ⟨by rw [HW.out]; rfl, rfl⟩
theorem value_tok {T : Bytes} {w : World} (h : T.length ≤ 1000000) (hd : T.all Lx.digitB = true) (hm : Lx.val T ≤ 2147483647) : Calls Tryz.prog 78 #[.string (str T)] w (fun e w' => e = .returned (.int .i64 (Lx.val T : Int)) ∧ w = w') := by
  have := value_eq (str T) w (by rw [Tr.str_size]; unfold maxLen; omega) (by rw [Tr.str_toList]; exact hd) (by rw [Tr.str_toList]; exact hm)
  rw [Tr.str_toList] at this; exact this
end Go.Proofs.YtobkcdkffcenbaaGreatDoor.Rf
namespace Go.Proofs.YtobkcdkffcenbaaGreatDoor.Rf
open Go.ChangeShapes Go.WideShapes Go.ChangeAt Go.RowKit
open Go.Proofs.YtobkcdkffcenbaaGreatDoor.Ex Go.Proofs.YtobkcdkffcenbaaGreatDoor.Sh
open Go.Proofs.YtobkcdkffcenbaaGreatDoor.Tr (str ret_bool ret_int Bytes Nd T joinM roomM binaryB unaryB)
end Go.Proofs.YtobkcdkffcenbaaGreatDoor.Rf

