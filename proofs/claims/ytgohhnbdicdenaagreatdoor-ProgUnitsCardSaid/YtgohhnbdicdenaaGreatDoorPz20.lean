/- The document's own small answers of layer lex (package bailmentref02) return what the plain functions say; what was in memory stays. Conditions: lengths within a machine's. -/
import Derived.Test.YtgohhnbdicdenaaGreatDoorPz01
import Derived.Test.YtgohhnbdicdenaaGreatDoorPz05
import Derived.RegionTactic
import Derived.Deep.QuietTactic
import Derived.BigQuiet
import Derived.IntWalk
import Derived.Below
import Derived.OneCell
import Derived.Laws.Rows
namespace Go.Proofs.YtgohhnbdicdenaaGreatDoor.Lx
open Go.ChangeShapes Go.WideShapes Go.ChangeAt Go.RowKit
set_option linter.unusedVariables false

theorem refDigit_any (c : UInt8) (w : World) :
    Calls Tryz.prog 60 #[.int .u8 c.toNat] w fun e w' => e = .returned (.bool (digitB c)) ∧ w = w' := by
  by_cases h : (48 : Int) ≤ c.toNat
  · have e : digitB c = decide ((c.toNat : Int) ≤ 57) := by
      have h1 : (48 : UInt8) ≤ c := (le_cast _ _).2 h
      simp only [digitB, h1, decide_true, Bool.true_and, decide_eq_decide]; exact le_cast _ _
    rw [e]
    go_enter Tryz.func60, Tryz.ntmps60
    go_wp2
    go_ret
    exact ⟨rfl, rfl⟩
  · have e : digitB c = false := by
      have h1 : ¬ (48 : UInt8) ≤ c := fun h' => h ((le_cast _ _).1 h')
      simp [digitB, h1]
    rw [e]
    go_enter Tryz.func60, Tryz.ntmps60
    go_wp2
    go_ret
    exact ⟨rfl, rfl⟩

theorem refLetter_any (c : UInt8) (w : World) :
    Calls Tryz.prog 58 #[.int .u8 c.toNat] w fun e w' => e = .returned (.bool (letterB c)) ∧ w = w' := by
  have hb : letterB c = (decide ((97 : Int) ≤ c.toNat) && decide ((c.toNat : Int) ≤ 122) || ((c.toNat : Int) == 95)) := by
    unfold letterB
    have e1 : decide ((97 : UInt8) ≤ c) = decide ((97 : Int) ≤ c.toNat) := decide_eq_decide.2 (le_cast _ _)
    have e2 : decide (c ≤ (122 : UInt8)) = decide ((c.toNat : Int) ≤ 122) := decide_eq_decide.2 (le_cast _ _)
    have e3 : (c == (95 : UInt8)) = ((c.toNat : Int) == 95) := by
      rw [Bool.eq_iff_iff, beq_iff_eq, beq_iff_eq]; exact eq_cast _ _
    rw [e1, e2, e3]
  rw [hb]
  clear hb
  by_cases h1 : (97 : Int) ≤ c.toNat <;> by_cases h2 : (c.toNat : Int) ≤ 122 <;> rcases Bool.eq_false_or_eq_true ((c.toNat : Int) == 95) with h3 | h3
  all_goals
    go_enter Tryz.func58, Tryz.ntmps58
    go_wp2
  all_goals
    go_ret
    exact ⟨ret_bool (by first | (simp [h1, h2, h3]; done) | (simp [h1, h2, h3]; intros; omega)), rfl⟩

/-- A row of texts that begins at a block's head. -/
def TextsAt (w : World) (g : Nat) (l : List Bytes) : Prop := g < w.heap.size ∧ ∀ (i : Nat) (x : Bytes), l[i]? = some x → w.cell? ⟨g, i, none⟩ = some (.string (str x))
theorem texts_new (w : World) (l : List Bytes) (cs : Array Value) (t : TypeId) (h : cs.toList = l.map (fun x => Value.string (str x))) : TextsAt (w.alloc (.cells cs t)) w.heap.size l := by
  refine ⟨by simp, fun i x hx => ?_⟩
  rw [World.cell?_alloc_at _ _ _ _ rfl, ← Array.getElem?_toList, h, List.getElem?_map, hx]; rfl
theorem TextsAt.below {w w' : World} {g B : Nat} {l : List Bytes} (h : TextsAt w g l) (hb : Below B w w') (hB : g < B) : TextsAt w' g l :=
  ⟨Nat.lt_of_lt_of_le h.1 hb.size, fun i x hx => (hb.cell (by exact hB)).trans (h.2 i x hx)⟩

def GivesTexts (W : World) (l : List Bytes) (e : Ending) (w' : World) : Prop :=
  e = .returned (.slice (some ⟨W.heap.size, 0, none⟩) l.length l.length) ∧ TextsAt w' W.heap.size l ∧ Below W.heap.size W w'

set_option maxRecDepth 100000 in
theorem words_any (w : World) : Calls Tryz.prog 88 #[] w (GivesTexts w words) := by
  go_enter Tryz.func88, Tryz.ntmps88
  go_wp2
  go_ret
  exact ⟨rfl, texts_new w words _ _ rfl, (Below.refl _ _).alloc (Nat.le_refl _) _⟩
set_option maxRecDepth 100000 in
theorem signs_any (w : World) : Calls Tryz.prog 89 #[] w (GivesTexts w signTexts) := by
  go_enter Tryz.func89, Tryz.ntmps89
  go_wp2
  go_ret
  exact ⟨rfl, texts_new w signTexts _ _ rfl, (Below.refl _ _).alloc (Nat.le_refl _) _⟩

theorem any_more (L : List Bytes) (k : Nat) (x y : Bytes) (h : (L.take k).contains y = false) (hx : L[k]? = some x) (hp : (x == y) = false) : (L.take (k + 1)).contains y = false := by
  have hxy : y ≠ x := fun e => by subst e; simp at hp
  have h' : y ∉ L.take k := by simpa using h
  rw [List.take_add_one, hx]
  simp [hxy, h']
theorem any_hit (L : List Bytes) (k : Nat) (x y : Bytes) (hx : L[k]? = some x) (hp : (x == y) = true) : L.contains y = true := by
  have hxy : x = y := by simpa using hp
  subst hxy
  have := List.mem_of_getElem? hx
  simpa using this

set_option maxHeartbeats 800000 in
theorem refIsWord_any (s : ByteArray) (w : World) :
    Calls Tryz.prog 59 #[.string s] w fun e w' => e = .returned (.bool (wordB s.toList)) ∧ Below w.heap.size w w' := by
  go_enter Tryz.func59, Tryz.ntmps59
  go_wp2_with fail
  refine (words_any _).mono ?_
  rintro e w1 ⟨rfl, ht, hb⟩
  rw [show words.length = 35 from rfl]
  have HT := Lib.hid ht
  have HB := Lib.hid hb
  clear ht hb
  go_wp2
  go_loop [4] (fun i => ∃ k : Nat, k ≤ 35 ∧ i = .int .i64 k ∧ (words.take k).contains s.toList = false) (fun i => 35 - (intOf i).toNat)
  case atStart => exact ⟨0, Nat.zero_le _, rfl, rfl⟩
  case round =>
    obtain ⟨k, hk, rfl, hc⟩ := hrel
    have HC := Lib.hid hc
    clear hc
    by_cases hlt : k < 35
    · obtain ⟨x, hx⟩ : ∃ x, words[k]? = some x := ⟨_, List.getElem?_eq_getElem hlt⟩
      have c0 := HT.out.2 k x hx
      have HX := Lib.hid hx
      clear hx
      have hs := str_toList x
      rcases Bool.eq_false_or_eq_true (x == s.toList) with hq | hq
      · have HQ := Lib.hid (any_hit words k x s.toList HX.out hq)
        go_wp2
        go_ret
        exact ⟨ret_bool HQ.out.symm, HB.out⟩
      · have HQ := Lib.hid (any_more words k x s.toList HC.out HX.out hq)
        go_wp2
        go_round
        case rel => exact ⟨k + 1, by omega, by go_num, HQ.out⟩
        case measure => simp [intOf]; omega
    · have HQ := Lib.hid (show wordB s.toList = false from by
        have := HC.out
        rw [List.take_of_length_le (by show (35 : Nat) ≤ k; omega)] at this
        exact this)
      go_wp2
      go_ret
      exact ⟨ret_bool HQ.out.symm, HB.out⟩
end Go.Proofs.YtgohhnbdicdenaaGreatDoor.Lx

/- Further answers of the document for layer lex: IsName, Value, word, sign. Conditions: lengths within a machine's; Value's text is a row of digits. -/
namespace Go.Proofs.YtgohhnbdicdenaaGreatDoor.Lx
open Go.ChangeShapes Go.WideShapes Go.ChangeAt Go.RowKit
set_option linter.unusedVariables false

theorem all_more (s : ByteArray) (k : Nat) (h : k < s.size) (f : UInt8 → Bool) (ha : (s.toList.take k).all f = true) (hf : f s[k] = true) : (s.toList.take (k + 1)).all f = true := by
  rw [List.take_add_one, toList_get s k h, List.all_append, ha]; simp [hf]
theorem all_not (s : ByteArray) (k : Nat) (h : k < s.size) (f : UInt8 → Bool) (hf : f s[k] = false) : s.toList.all f = false := by
  rw [List.all_eq_false]; exact ⟨s[k], List.mem_of_getElem? (toList_get s k h), by simp [hf]⟩

set_option maxHeartbeats 1600000 in
theorem refIsName_any (s : ByteArray) (w : World) (h : s.size ≤ maxLen) :
    Calls Tryz.prog 31 #[.string s] w fun e w' => e = .returned (.bool (nameB s.toList)) ∧ Below w.heap.size w w' := by
  unfold maxLen at h
  have hl := toList_len s
  rcases Bool.eq_false_or_eq_true s.toList.isEmpty with h0 | h0
  · have e : nameB s.toList = false := by unfold nameB; rw [h0]; rfl
    have h0' : (s.toList == []) = true := by simpa using h0
    rw [e]
    clear hl
    go_enter Tryz.func31, Tryz.ntmps31
    go_wp2
    go_ret
    exact ⟨rfl, Below.refl _ _⟩
  · have hp : 0 < s.size := by
      rw [← hl]; cases hs : s.toList with
      | nil => rw [hs] at h0; cases h0
      | cons a l => simp
    have h0' : (s.toList == []) = false := by simpa using h0
    have hh := head_get s hp
    by_cases h40 : 40 < s.size
    · have e : nameB s.toList = false := by
        have k : decide (s.toList.length ≤ 40) = false := by rw [hl]; simpa using h40
        unfold nameB; rw [k]; simp
      rw [e]
      clear hl hh
      go_enter Tryz.func31, Tryz.ntmps31
      go_wp2
      go_ret
      exact ⟨rfl, Below.refl _ _⟩
    · rcases Bool.eq_false_or_eq_true (letterB s[0]) with hd | hd
      · rcases Bool.eq_false_or_eq_true (wordB s.toList) with hw | hw
        · have e : nameB s.toList = false := by unfold nameB; rw [hw]; simp
          rw [e]
          clear hl hh
          go_enter Tryz.func31, Tryz.ntmps31
          go_wp2_with (first | (go_at_call 58; refine (refLetter_any _ _).mono ?_; rintro e w' ⟨rfl, rfl⟩) | (go_at_call 59; refine (refIsWord_any _ _).mono ?_; rintro e w1 ⟨rfl, hb⟩))
          go_ret
          exact ⟨rfl, hb⟩
        · have e : nameB s.toList = s.toList.all ofNameB := by
            have k : decide (s.toList.length ≤ 40) = true := by rw [hl]; simpa using h40
            unfold nameB; rw [hw, hh, letter_no_digit _ hd, h0, k]; simp
          rw [e]
          have HL := Lib.hid hl
          clear hl hh e
          go_enter Tryz.func31, Tryz.ntmps31
          go_wp2_with (first | (go_at_call 58; refine (refLetter_any _ _).mono ?_; rintro e w' ⟨rfl, rfl⟩) | (go_at_call 59; refine (refIsWord_any _ _).mono ?_; rintro e w1 ⟨rfl, hb⟩))
          have HB := Lib.hid hb
          clear hb
          go_loop [3] (fun i => ∃ k : Nat, k ≤ s.size ∧ i = .int .i64 k ∧ (s.toList.take k).all ofNameB = true) (fun i => s.size - (intOf i).toNat)
          case atStart => exact ⟨0, Nat.zero_le _, rfl, by simp⟩
          case round =>
            obtain ⟨k, hk, rfl, hall⟩ := hrel
            have HA := Lib.hid hall
            clear hall
            by_cases hlt : k < s.size
            · rcases Bool.eq_false_or_eq_true (letterB s[k]) with g1 | g1
              · have HS := Lib.hid (all_more s k hlt ofNameB HA.out (by rw [ofName_eq, g1]; rfl))
                go_wp2_with (first | (go_at_call 58; refine (refLetter_any _ _).mono ?_; rintro e w' ⟨rfl, rfl⟩) | (go_at_call 60; refine (refDigit_any _ _).mono ?_; rintro e w' ⟨rfl, rfl⟩))
                go_round
                case rel => exact ⟨k + 1, by omega, by go_num, HS.out⟩
                case measure => simp [intOf]; omega
              · rcases Bool.eq_false_or_eq_true (digitB s[k]) with g2 | g2
                · have HS := Lib.hid (all_more s k hlt ofNameB HA.out (by rw [ofName_eq, g1, g2]; rfl))
                  go_wp2_with (first | (go_at_call 58; refine (refLetter_any _ _).mono ?_; rintro e w' ⟨rfl, rfl⟩) | (go_at_call 60; refine (refDigit_any _ _).mono ?_; rintro e w' ⟨rfl, rfl⟩))
                  go_round
                  case rel => exact ⟨k + 1, by omega, by go_num, HS.out⟩
                  case measure => simp [intOf]; omega
                · have HS := Lib.hid (all_not s k hlt ofNameB (by rw [ofName_eq, g1, g2]; rfl))
                  go_wp2_with (first | (go_at_call 58; refine (refLetter_any _ _).mono ?_; rintro e w' ⟨rfl, rfl⟩) | (go_at_call 60; refine (refDigit_any _ _).mono ?_; rintro e w' ⟨rfl, rfl⟩))
                  go_ret
                  exact ⟨ret_bool HS.out.symm, HB.out⟩
            · go_wp2
              go_ret
              exact ⟨ret_bool (by rw [← HA.out, List.take_of_length_le (by rw [HL.out]; omega)]), HB.out⟩
      · have e : nameB s.toList = false := by
          rcases Bool.eq_false_or_eq_true (digitB s[0]) with g | g
          · unfold nameB; rw [hh, g]; simp
          · have : s.toList.all ofNameB = false := all_not s 0 hp ofNameB (by rw [ofName_eq, hd, g]; rfl)
            unfold nameB; rw [this]; simp
        rw [e]
        clear hl hh
        go_enter Tryz.func31, Tryz.ntmps31
        go_wp2_with (first | (go_at_call 58; refine (refLetter_any _ _).mono ?_; rintro e w' ⟨rfl, rfl⟩))
        go_ret
        exact ⟨rfl, Below.refl _ _⟩

/-- A number that tells whether a row of digits is above the greatest. -/
def Tells (l : Bytes) (W : World) (e : Ending) (w' : World) : Prop := ∃ n : Int, e = .returned (.int .i64 n) ∧ decide (2147483647 < n) = decide (2147483647 < val l) ∧ W = w'
theorem val_take_le (l : Bytes) (k : Nat) : val (l.take k) ≤ val l := by
  induction l generalizing k with
  | nil => simp
  | cons c r ih =>
    cases k with
    | zero => simp [val]
    | succ k =>
      rw [List.take_succ_cons, val_cons, val_cons]
      have h1 := ih k
      have h2 : 10 ^ (r.take k).length ≤ 10 ^ r.length := Nat.pow_le_pow_right (by omega) (by rw [List.length_take]; omega)
      have := Nat.mul_le_mul_left (c.toNat - 48) h2
      omega
set_option maxHeartbeats 800000 in
theorem value_any (s : ByteArray) (w : World) (h : s.size ≤ maxLen) (hd : s.toList.all digitB = true) :
    Calls Tryz.prog 61 #[.string s] w (Tells s.toList w) := by
  unfold maxLen at h
  have HD := Lib.hid hd
  have HL := Lib.hid (toList_len s)
  clear hd
  go_enter Tryz.func61, Tryz.ntmps61
  go_wp2
  go_loop [3, 4] (fun n i => ∃ k : Nat, k ≤ s.size ∧ i = .int .i64 k ∧ n = .int .i64 (val (s.toList.take k)) ∧ val (s.toList.take k) ≤ 21474836479) (fun _ i => s.size - (intOf i).toNat)
  case atStart => exact ⟨0, Nat.zero_le _, rfl, rfl, by simp [val]⟩
  case round =>
    obtain ⟨k, hk, rfl, rfl, hv⟩ := hrel
    obtain ⟨V, hV⟩ : ∃ V, val (s.toList.take k) = V := ⟨_, rfl⟩
    rw [hV] at hv
    rw [hV]
    have HV := Lib.hid hV
    clear hV
    by_cases hlt : k < s.size
    · by_cases hb : V ≤ 2147483647
      · have hb' : decide ((V : Int) ≤ 2147483647) = true := by simp; omega
        obtain ⟨d1, d2⟩ := digit_bd s[k] (by
          have := List.all_eq_true.1 HD.out s[k] (List.mem_of_getElem? (toList_get s k hlt)); exact this)
        have HN := Lib.hid (show val (s.toList.take (k + 1)) = 10 * V + (s[k].toNat - 48) by
          rw [List.take_add_one, toList_get s k hlt]; show val (_ ++ [s[k]]) = _; rw [val_snoc, HV.out])
        have e1 : (48 : Int) ≤ s[k].toNat := by omega
        have e2 : (s[k].toNat : Int) ≤ 57 := by omega
        go_wp2
        refine ⟨⟨k + 1, by omega, by go_num, ?_, ?_⟩, by simp [intOf]; omega⟩
        · rw [HN.out]; exact congrArg (Value.int .i64) (by omega)
        · rw [HN.out]; omega
      · have hb' : decide ((V : Int) ≤ 2147483647) = false := by simp; omega
        have HT := Lib.hid (val_take_le s.toList k)
        go_wp2
        go_ret
        refine ⟨_, rfl, ?_, rfl⟩
        have h1 := HT.out
        rw [HV.out] at h1
        rw [decide_eq_true (by omega), decide_eq_true (by omega)]
    · have HW := Lib.hid (show val s.toList = V from by rw [← HV.out, List.take_of_length_le (by rw [HL.out]; omega)])
      go_wp2
      go_ret
      refine ⟨_, rfl, ?_, rfl⟩
      rw [HW.out, decide_eq_decide]; omega

/-- A token and an error, in a new place. -/
def GivesTok (W : World) (K : Int) (T : Bytes) (P : Int) (E : Int) (e : Ending) (w' : World) : Prop :=
  e = .returned (.tuple #[.agg #[.int .i64 K, .string (str T), .int .i64 P], .int .i64 E]) ∧ Below W.heap.size W w'
def wordTok (T : Bytes) (P : Int) (W : World) : Ending → World → Prop :=
  GivesTok W (letM T).1 (if (letM T).2 = 0 then T else []) (if (letM T).2 = 0 then P else 0) (letM T).2
theorem two_new {w w1 : World} {c d : Array Value} (hb : Below ((w.alloc (.cells c 54)).alloc (.cells d 54)).heap.size ((w.alloc (.cells c 54)).alloc (.cells d 54)) w1) :
    Below w.heap.size w w1 ∧ w1.heap[w.heap.size]? = some (.cells c 54 (0, 0)) ∧ w1.heap[w.heap.size + 1]? = some (.cells d 54 (0, 0)) := by
  refine ⟨(((Below.refl _ _).alloc (Nat.le_refl _) _).alloc (by simp) _).trans (hb.mono (by simp; omega)), ?_, ?_⟩
  · rw [hb.block _ (by simp; omega), Below.heap_alloc _ _ _ (by simp)]; exact heap_alloc_new w _
  · rw [hb.block _ (by simp)]
    exact (congrArg (fun i => ((w.alloc (.cells c 54)).alloc (.cells d 54)).heap[i]?) (show w.heap.size + 1 = (w.alloc (.cells c 54)).heap.size by simp)).trans (heap_alloc_new _ _)
set_option maxHeartbeats 1600000 in
theorem refWord_any (T : Bytes) (p : Int) (w : World) (h : T.length ≤ maxLen) :
    Calls Tryz.prog 62 #[.string (str T), .int .i64 p] w (wordTok T p w) := by
  have hst := str_toList T
  have hsz := str_size T
  rcases Bool.eq_false_or_eq_true (wordB T) with hw | hw
  · have e : wordTok T p w = GivesTok w 3 T p 0 := by unfold wordTok letM; rw [hw]; rfl
    rw [e]
    have H30 := Lib.hid (show ∀ W, Calls Tryz.prog 59 #[.string (str T)] W fun e w' => e = .returned (.bool true) ∧ Below W.heap.size W w' from fun W => by
      have := refIsWord_any (str T) W; rw [hst, hw] at this; exact this)
    clear e hst
    go_enter Tryz.func62, Tryz.ntmps62
    go_wp2_with fail
    refine (H30.out _).mono ?_
    rintro e w1 ⟨rfl, hb⟩
    obtain ⟨hB, b0, b1⟩ := two_new hb
    have z0 := lt_of_block b0
    have z1 := lt_of_block b1
    have c00 : w1.cell? ⟨w.heap.size, 0, none⟩ = some (.int .i64 0) := by simp [World.cell?, b0]
    have c01 : w1.cell? ⟨w.heap.size, 1, none⟩ = some (.string ⟨#[]⟩) := by simp [World.cell?, b0]
    have c02 : w1.cell? ⟨w.heap.size, 2, none⟩ = some (.int .i64 0) := by simp [World.cell?, b0]
    have f00 : w1.frozen? ⟨w.heap.size, 0, none⟩ = false := by simp [World.frozen?, b0]
    have f01 : w1.frozen? ⟨w.heap.size, 1, none⟩ = false := by simp [World.frozen?, b0]
    have f02 : w1.frozen? ⟨w.heap.size, 2, none⟩ = false := by simp [World.frozen?, b0]
    have c10 : w1.cell? ⟨w.heap.size + 1, 0, none⟩ = some (.int .i64 1) := by simp [World.cell?, b1]
    have c11 : w1.cell? ⟨w.heap.size + 1, 1, none⟩ = some (.string (str T)) := by simp [World.cell?, b1]
    have c12 : w1.cell? ⟨w.heap.size + 1, 2, none⟩ = some (.int .i64 p) := by simp [World.cell?, b1]
    have f10 : w1.frozen? ⟨w.heap.size + 1, 0, none⟩ = false := by simp [World.frozen?, b1]
    have HB := Lib.hid hB
    clear hB hb b0 b1
    go_wp2
    exact bodyPost_ret (v := .tuple #[.agg #[.int .i64 3, .string (str T), .int .i64 p], .int .i64 0]) (by simp [results, Tryz.results62, go_sem, c00, c01, c02]) rfl
      ⟨rfl, (((HB.out.setCell (by show w.heap.size ≤ w.heap.size + 1; omega) _).setCell (Nat.le_refl _) _).setCell (Nat.le_refl _) _).setCell (Nat.le_refl _) _⟩
  · have H30 := Lib.hid (show ∀ W, Calls Tryz.prog 59 #[.string (str T)] W fun e w' => e = .returned (.bool false) ∧ Below W.heap.size W w' from fun W => by
      have := refIsWord_any (str T) W; rw [hst, hw] at this; exact this)
    rcases Bool.eq_false_or_eq_true (nameB T) with hn | hn
    · have e : wordTok T p w = GivesTok w 1 T p 0 := by unfold wordTok letM; rw [hw, hn]; rfl
      rw [e]
      have H28 := Lib.hid (show ∀ W, Calls Tryz.prog 31 #[.string (str T)] W fun e w' => e = .returned (.bool true) ∧ Below W.heap.size W w' from fun W => by
        have := refIsName_any (str T) W (by rw [hsz]; exact h); rw [hst, hn] at this; exact this)
      clear e hst
      go_enter Tryz.func62, Tryz.ntmps62
      go_wp2_with fail
      refine (H30.out _).mono ?_
      rintro e w0 ⟨rfl, hb0⟩
      go_wp2_with fail
      refine (H28.out _).mono ?_
      rintro e w1 ⟨rfl, hb1⟩
      have hb := hb0.trans (hb1.mono hb0.size)
      clear hb0 hb1
      obtain ⟨hB, b0, b1⟩ := two_new hb
      have z0 := lt_of_block b0
      have z1 := lt_of_block b1
      have c00 : w1.cell? ⟨w.heap.size, 0, none⟩ = some (.int .i64 0) := by simp [World.cell?, b0]
      have c01 : w1.cell? ⟨w.heap.size, 1, none⟩ = some (.string ⟨#[]⟩) := by simp [World.cell?, b0]
      have c02 : w1.cell? ⟨w.heap.size, 2, none⟩ = some (.int .i64 0) := by simp [World.cell?, b0]
      have f00 : w1.frozen? ⟨w.heap.size, 0, none⟩ = false := by simp [World.frozen?, b0]
      have f01 : w1.frozen? ⟨w.heap.size, 1, none⟩ = false := by simp [World.frozen?, b0]
      have f02 : w1.frozen? ⟨w.heap.size, 2, none⟩ = false := by simp [World.frozen?, b0]
      have c10 : w1.cell? ⟨w.heap.size + 1, 0, none⟩ = some (.int .i64 1) := by simp [World.cell?, b1]
      have c11 : w1.cell? ⟨w.heap.size + 1, 1, none⟩ = some (.string (str T)) := by simp [World.cell?, b1]
      have c12 : w1.cell? ⟨w.heap.size + 1, 2, none⟩ = some (.int .i64 p) := by simp [World.cell?, b1]
      have f10 : w1.frozen? ⟨w.heap.size + 1, 0, none⟩ = false := by simp [World.frozen?, b1]
      have HB := Lib.hid hB
      clear hB hb b0 b1
      go_wp2
      exact bodyPost_ret (v := .tuple #[.agg #[.int .i64 1, .string (str T), .int .i64 p], .int .i64 0]) (by simp [results, Tryz.results62, go_sem, c00, c01, c02]) rfl
        ⟨rfl, ((HB.out.setCell (Nat.le_refl _) _).setCell (Nat.le_refl _) _).setCell (Nat.le_refl _) _⟩
    · have e : wordTok T p w = GivesTok w 0 [] 0 5 := by unfold wordTok letM; rw [hw, hn]; rfl
      rw [e]
      have H28 := Lib.hid (show ∀ W, Calls Tryz.prog 31 #[.string (str T)] W fun e w' => e = .returned (.bool false) ∧ Below W.heap.size W w' from fun W => by
        have := refIsName_any (str T) W (by rw [hsz]; exact h); rw [hst, hn] at this; exact this)
      clear e hst
      go_enter Tryz.func62, Tryz.ntmps62
      go_wp2_with fail
      refine (H30.out _).mono ?_
      rintro e w0 ⟨rfl, hb0⟩
      go_wp2_with fail
      refine (H28.out _).mono ?_
      rintro e w1 ⟨rfl, hb1⟩
      have hb := hb0.trans (hb1.mono hb0.size)
      clear hb0 hb1
      obtain ⟨hB, b0, b1⟩ := two_new hb
      have z0 := lt_of_block b0
      have z1 := lt_of_block b1
      have c00 : w1.cell? ⟨w.heap.size, 0, none⟩ = some (.int .i64 0) := by simp [World.cell?, b0]
      have c01 : w1.cell? ⟨w.heap.size, 1, none⟩ = some (.string ⟨#[]⟩) := by simp [World.cell?, b0]
      have c02 : w1.cell? ⟨w.heap.size, 2, none⟩ = some (.int .i64 0) := by simp [World.cell?, b0]
      have f00 : w1.frozen? ⟨w.heap.size, 0, none⟩ = false := by simp [World.frozen?, b0]
      have f01 : w1.frozen? ⟨w.heap.size, 1, none⟩ = false := by simp [World.frozen?, b0]
      have f02 : w1.frozen? ⟨w.heap.size, 2, none⟩ = false := by simp [World.frozen?, b0]
      have c10 : w1.cell? ⟨w.heap.size + 1, 0, none⟩ = some (.int .i64 1) := by simp [World.cell?, b1]
      have c11 : w1.cell? ⟨w.heap.size + 1, 1, none⟩ = some (.string (str T)) := by simp [World.cell?, b1]
      have c12 : w1.cell? ⟨w.heap.size + 1, 2, none⟩ = some (.int .i64 p) := by simp [World.cell?, b1]
      have f10 : w1.frozen? ⟨w.heap.size + 1, 0, none⟩ = false := by simp [World.frozen?, b1]
      have HB := Lib.hid hB
      clear hB hb b0 b1
      go_wp2
      exact bodyPost_ret (v := .tuple #[.agg #[.int .i64 0, .string ⟨#[]⟩, .int .i64 0], .int .i64 5]) (by simp [results, Tryz.results62, go_sem, c00, c01, c02]) rfl
        ⟨rfl, ((HB.out.setCell (Nat.le_refl _) _).setCell (Nat.le_refl _) _).setCell (Nat.le_refl _) _⟩
end Go.Proofs.YtgohhnbdicdenaaGreatDoor.Lx

/- The document's answers 'sign' and 'one' of layer lex return what the plain functions say. Conditions: a text that is not empty, its length within a machine's. -/
namespace Go.Proofs.YtgohhnbdicdenaaGreatDoor.Lx
open Go.ChangeShapes Go.WideShapes Go.ChangeAt Go.RowKit
set_option linter.unusedVariables false

set_option maxHeartbeats 1600000 in
theorem refSign_any (s : ByteArray) (w : World) (h : s.size ≤ maxLen) (hp : 0 < s.size) :
    Calls Tryz.prog 63 #[.string s] w fun e w' => e = .returned (.string (str (signOf s.toList))) ∧ Below w.heap.size w w' := by
  unfold maxLen at h
  have hne : s.toList ≠ [] := by intro e; have := toList_len s; rw [e] at this; simp at this; omega
  have HF := Lib.hid (find_sign s.toList hne)
  have HL := Lib.hid (toList_len s)
  clear hne
  go_enter Tryz.func63, Tryz.ntmps63
  go_wp2_with fail
  refine (signs_any _).mono ?_
  rintro e w1 ⟨rfl, ht, hb⟩
  rw [show signTexts.length = 16 from rfl]
  have HT := Lib.hid ht
  have HB := Lib.hid hb
  clear ht hb
  go_wp2
  go_loopw [4] (fun i wr => ∃ k n : Nat, k ≤ 16 ∧ i = .int .i64 k ∧ wr = w1.drewN n ∧ (signTexts.take k).find? (fits_ s.toList) = none) (fun i _ => 16 - (intOf i).toNat)
  case atStart => exact ⟨0, 0, Nat.zero_le _, rfl, rfl, rfl⟩
  case round =>
    obtain ⟨k, n, hk, rfl, rfl, hc⟩ := hrel
    have HC := Lib.hid hc
    clear hc
    by_cases hlt : k < 16
    · obtain ⟨x, hx⟩ : ∃ x, signTexts[k]? = some x := ⟨_, List.getElem?_eq_getElem hlt⟩
      have c0 := HT.out.2 k x hx
      have HX := Lib.hid hx
      clear hx
      have hst := str_toList x
      have hsz := str_size x
      by_cases h1 : x.length ≤ s.size
      · have h1' : decide (x.length ≤ s.size) = true := by simpa using h1
        have he : (s.extract 0 x.length).toList = s.toList.take x.length := by rw [extract_toList]; rfl
        rcases Bool.eq_false_or_eq_true ((s.extract 0 x.length).toList == x) with hq | hq
        · have hfit : fits_ s.toList x = true := by
            unfold fits_; rw [HL.out, h1', ← he, hq]; rfl
          have HS := Lib.hid (show signOf s.toList = x from by
            have h2 := HF.out
            rw [find_hit HC.out HX.out hfit] at h2
            split at h2
            · cases h2
            · exact (Option.some.inj h2).symm)
          clear he hfit
          go_wp2
          go_quiet (fail)
          go_wp2
          go_ret
          exact ⟨ret_str (by rw [HS.out]), Below.trans HB.out ⟨rfl, rfl, rfl, Nat.le_refl _, fun _ _ => rfl⟩⟩
        · have hfit : fits_ s.toList x = false := by
            unfold fits_; rw [← he, hq, Bool.and_false]
          have HS := Lib.hid (find_next HC.out HX.out hfit)
          clear he hfit
          go_wp2
          go_quiet (fail)
          go_wp2
          refine ⟨⟨k + 1, n + nq, by omega, by go_num, rfl, HS.out⟩, by simp [intOf]; omega⟩
      · have h1' : decide (x.length ≤ s.size) = false := by simpa using h1
        have hfit : fits_ s.toList x = false := by
          unfold fits_; rw [HL.out, h1', Bool.false_and]
        have HS := Lib.hid (find_next HC.out HX.out hfit)
        clear hfit
        go_wp2
        go_quiet (fail)
        go_wp2
        refine ⟨⟨k + 1, n + nq, by omega, by go_num, rfl, HS.out⟩, by simp [intOf]; omega⟩
    · have HS := Lib.hid (show signOf s.toList = [] from by
        have h2 := HF.out
        have h3 := HC.out
        rw [List.take_of_length_le (by show (16 : Nat) ≤ k; omega)] at h3
        rw [h3] at h2
        split at h2
        · assumption
        · cases h2)
      go_wp2
      go_ret
      exact ⟨ret_str (by rw [HS.out]; rfl), Below.trans HB.out ⟨rfl, rfl, rfl, Nat.le_refl _, fun _ _ => rfl⟩⟩
/-- What 'one' hands back for a text. -/
def oneTok (l : Bytes) (p : Int) (W : World) : Ending → World → Prop :=
  GivesTok W (if (one l).2.2 = 0 then (one l).2.1 else 0) (if (one l).2.2 = 0 then (one l).1 else []) (if (one l).2.2 = 0 then p else 0) (one l).2.2
theorem oneTok_bad {l : Bytes} {T : Bytes} {K E : Int} (h : one l = (T, K, E)) (hE : E ≠ 0) (p : Int) (W : World) : oneTok l p W = GivesTok W 0 [] 0 E := by
  unfold oneTok; rw [h]; simp [hE]
theorem oneTok_ok {l : Bytes} {T : Bytes} {K : Int} (h : one l = (T, K, 0)) (p : Int) (W : World) : oneTok l p W = GivesTok W K T p 0 := by
  unfold oneTok; rw [h]; simp

theorem one_dig (s : ByteArray) (k : Nat) (hp : 0 < s.size) (hd : digitB s[0] = true) (hT : (s.extract 0 k).toList = s.toList.takeWhile digitB) (hk : 0 < k) (hex : (s.extract 0 k).size = k) :
    (1 < k ∧ s[0] = 48 → ∀ p W, oneTok s.toList p W = GivesTok W 0 [] 0 2) ∧ (2147483647 < val (s.extract 0 k).toList → ∀ p W, oneTok s.toList p W = GivesTok W 0 [] 0 2) ∧
    (¬ (1 < k ∧ s[0] = 48) → ¬ 2147483647 < val (s.extract 0 k).toList → ∀ p W, oneTok s.toList p W = GivesTok W 2 (s.extract 0 k).toList p 0) := by
  have ho : one s.toList = ((s.extract 0 k).toList, digM (s.extract 0 k).toList) := by
    unfold one; rw [head_get s hp, if_pos hd, hT]
  have hl : (s.extract 0 k).toList.length = k := by rw [toList_len, hex]
  have hne : (s.extract 0 k).toList ≠ [] := by intro e; rw [e] at hl; simp at hl; omega
  have hh : (s.extract 0 k).toList.headD 0 = s[0] := by
    rw [hT]
    have := head_get s hp
    cases hs : s.toList with
    | nil => rw [hs] at hT; rw [hT] at hne; exact absurd rfl hne
    | cons a r =>
      rw [hs] at this; rw [List.headD_cons] at this
      rw [List.takeWhile_cons, this, hd]; rfl
  have hv := digM_val (s.extract 0 k).toList (by rw [hT]; exact takeWhile_ok _ _) hne
  rw [hl, hh] at hv
  refine ⟨fun h p W => ?_, fun h p W => ?_, fun h1 h2 p W => ?_⟩
  · rw [if_pos (.inl h)] at hv; rw [hv] at ho; exact oneTok_bad ho (by decide) p W
  · rw [if_pos (.inr h)] at hv; rw [hv] at ho; exact oneTok_bad ho (by decide) p W
  · rw [if_neg (fun e => e.elim h1 h2)] at hv; rw [hv] at ho; exact oneTok_ok ho p W

set_option maxRecDepth 100000 in
set_option maxHeartbeats 4000000 in
theorem refOneDigit_any (s : ByteArray) (p : Int) (w : World) (h : s.size ≤ maxLen) (hp : 0 < s.size) (hd : digitB s[0] = true) :
    Calls Tryz.prog 33 #[.string s, .int .i64 p] w (oneTok s.toList p w) := by
  unfold maxLen at h
  have HC := Lib.hid (drop_cons s 0 hp).symm
  rw [List.drop_zero] at HC
  go_enter Tryz.func33, Tryz.ntmps33
  go_wp2_with (go_at_call 60; refine (refDigit_any _ _).mono ?_; rintro e w' ⟨rfl, rfl⟩)
  go_loop [6] (fun i => ∃ k : Nat, k ≤ s.size ∧ i = .int .i64 k ∧ ((s.toList.drop 0).take (k - 0)).all digitB = true) (fun i => s.size - (intOf i).toNat)
  case atStart => exact ⟨0, Nat.zero_le _, rfl, by simp⟩
  case round =>
    obtain ⟨k, hk, rfl, hs⟩ := hrel
    by_cases hlt : k < s.size
    · rcases Bool.eq_false_or_eq_true (digitB s[k]) with hb | hb
      · have HN := Lib.hid (row_more s digitB 0 k (Nat.zero_le _) hlt hs hb)
        clear hs
        go_wp2_with (go_at_call 60; refine (refDigit_any _ _).mono ?_; rintro e w' ⟨rfl, rfl⟩)
        go_round
        case rel => exact ⟨k + 1, by omega, by go_num, HN.out⟩
        case measure => simp [intOf]; omega
      · have HTT := Lib.hid (show (s.extract 0 k).toList = s.toList.takeWhile digitB from row_end s digitB 0 k (Nat.zero_le _) hk hs (fun _ => hb))
        have hkp : 0 < k := by
          rcases Nat.eq_zero_or_pos k with rfl | h0
          · have h1 := HTT.out
            rw [← HC.out, List.takeWhile_cons, hd] at h1
            have h2 := congrArg List.length h1
            rw [toList_len, ByteArray.size_extract] at h2
            simp at h2
          · exact h0
        have hex : (s.extract 0 k).size = k := by rw [ByteArray.size_extract]; omega
        have HO := Lib.hid (one_dig s k hp hd HTT.out hkp hex)
        have H59 := Lib.hid (show ∀ W, Calls Tryz.prog 61 #[.string (s.extract 0 k)] W (Tells (s.extract 0 k).toList W) from fun W => value_any _ W (by rw [hex]; unfold maxLen; omega) (by rw [HTT.out]; exact takeWhile_ok _ _))
        clear hex hs
        rcases Bool.eq_false_or_eq_true ((s[0].toNat : Int) == 48) with z | z
        · by_cases h1 : 1 < k
          · have h1' : decide ((1 : Int) < k) = true := by simp; omega
            go_wp2_with (first | (go_at_call 60; refine (refDigit_any _ _).mono ?_; rintro e w' ⟨rfl, rfl⟩) | (go_at_call 61; refine (H59.out _).mono ?_; rintro e w1 ⟨n, rfl, hn, rfl⟩))
            rw [HO.out.1 ⟨h1, (eq_cast _ _).2 (by simpa using z)⟩ p w]
            exact bodyPost_ret (v := .tuple #[.agg #[.int .i64 0, .string ⟨#[]⟩, .int .i64 0], .int .i64 2]) (by simp [results, Tryz.results33, go_sem]) rfl ⟨rfl, (Below.refl _ _).alloc (Nat.le_refl _) _⟩
          · have h1' : decide ((1 : Int) < k) = false := by simp; omega
            go_wp2_with (first | (go_at_call 60; refine (refDigit_any _ _).mono ?_; rintro e w' ⟨rfl, rfl⟩) | (go_at_call 61; refine (H59.out _).mono ?_; rintro e w1 ⟨n, rfl, hn, rfl⟩))
            · have hb : 2147483647 < val (s.extract 0 k).toList := by assumption
              rw [HO.out.2.1 hb p w]
              exact bodyPost_ret (v := .tuple #[.agg #[.int .i64 0, .string ⟨#[]⟩, .int .i64 0], .int .i64 2]) (by simp [results, Tryz.results33, go_sem]) rfl ⟨rfl, (Below.refl _ _).alloc (Nat.le_refl _) _⟩
            · have hb : ¬ 2147483647 < val (s.extract 0 k).toList := by assumption
              rw [HO.out.2.2 (fun e => h1 e.1) hb p w]
              exact bodyPost_ret (v := .tuple #[.agg #[.int .i64 2, .string (s.extract 0 k), .int .i64 p], .int .i64 0]) (by simp [results, Tryz.results33, go_sem]) rfl ⟨by rw [str_of], (Below.refl _ _).alloc (Nat.le_refl _) _⟩
        · have z' : (s[0] : UInt8) ≠ 48 := by intro e; rw [e] at z; simp at z
          by_cases h1 : 1 < k
          · have h1' : decide ((1 : Int) < k) = true := by simp; omega
            go_wp2_with (first | (go_at_call 60; refine (refDigit_any _ _).mono ?_; rintro e w' ⟨rfl, rfl⟩) | (go_at_call 61; refine (H59.out _).mono ?_; rintro e w1 ⟨n, rfl, hn, rfl⟩))
            · have hb : 2147483647 < val (s.extract 0 k).toList := by assumption
              rw [HO.out.2.1 hb p w]
              exact bodyPost_ret (v := .tuple #[.agg #[.int .i64 0, .string ⟨#[]⟩, .int .i64 0], .int .i64 2]) (by simp [results, Tryz.results33, go_sem]) rfl ⟨rfl, (Below.refl _ _).alloc (Nat.le_refl _) _⟩
            · have hb : ¬ 2147483647 < val (s.extract 0 k).toList := by assumption
              rw [HO.out.2.2 (fun e => z' e.2) hb p w]
              exact bodyPost_ret (v := .tuple #[.agg #[.int .i64 2, .string (s.extract 0 k), .int .i64 p], .int .i64 0]) (by simp [results, Tryz.results33, go_sem]) rfl ⟨by rw [str_of], (Below.refl _ _).alloc (Nat.le_refl _) _⟩
          · have h1' : decide ((1 : Int) < k) = false := by simp; omega
            go_wp2_with (first | (go_at_call 60; refine (refDigit_any _ _).mono ?_; rintro e w' ⟨rfl, rfl⟩) | (go_at_call 61; refine (H59.out _).mono ?_; rintro e w1 ⟨n, rfl, hn, rfl⟩))
            · have hb : 2147483647 < val (s.extract 0 k).toList := by assumption
              rw [HO.out.2.1 hb p w]
              exact bodyPost_ret (v := .tuple #[.agg #[.int .i64 0, .string ⟨#[]⟩, .int .i64 0], .int .i64 2]) (by simp [results, Tryz.results33, go_sem]) rfl ⟨rfl, (Below.refl _ _).alloc (Nat.le_refl _) _⟩
            · have hb : ¬ 2147483647 < val (s.extract 0 k).toList := by assumption
              rw [HO.out.2.2 (fun e => z' e.2) hb p w]
              exact bodyPost_ret (v := .tuple #[.agg #[.int .i64 2, .string (s.extract 0 k), .int .i64 p], .int .i64 0]) (by simp [results, Tryz.results33, go_sem]) rfl ⟨by rw [str_of], (Below.refl _ _).alloc (Nat.le_refl _) _⟩
    · have HTT := Lib.hid (show (s.extract 0 k).toList = s.toList.takeWhile digitB from row_end s digitB 0 k (Nat.zero_le _) hk hs (fun h => absurd h hlt))
      have hkp : 0 < k := by
        rcases Nat.eq_zero_or_pos k with rfl | h0
        · have h1 := HTT.out
          rw [← HC.out, List.takeWhile_cons, hd] at h1
          have h2 := congrArg List.length h1
          rw [toList_len, ByteArray.size_extract] at h2
          simp at h2
        · exact h0
      have hex : (s.extract 0 k).size = k := by rw [ByteArray.size_extract]; omega
      have HO := Lib.hid (one_dig s k hp hd HTT.out hkp hex)
      have H59 := Lib.hid (show ∀ W, Calls Tryz.prog 61 #[.string (s.extract 0 k)] W (Tells (s.extract 0 k).toList W) from fun W => value_any _ W (by rw [hex]; unfold maxLen; omega) (by rw [HTT.out]; exact takeWhile_ok _ _))
      clear hex hs
      rcases Bool.eq_false_or_eq_true ((s[0].toNat : Int) == 48) with z | z
      · by_cases h1 : 1 < k
        · have h1' : decide ((1 : Int) < k) = true := by simp; omega
          go_wp2_with (first | (go_at_call 60; refine (refDigit_any _ _).mono ?_; rintro e w' ⟨rfl, rfl⟩) | (go_at_call 61; refine (H59.out _).mono ?_; rintro e w1 ⟨n, rfl, hn, rfl⟩))
          rw [HO.out.1 ⟨h1, (eq_cast _ _).2 (by simpa using z)⟩ p w]
          exact bodyPost_ret (v := .tuple #[.agg #[.int .i64 0, .string ⟨#[]⟩, .int .i64 0], .int .i64 2]) (by simp [results, Tryz.results33, go_sem]) rfl ⟨rfl, (Below.refl _ _).alloc (Nat.le_refl _) _⟩
        · have h1' : decide ((1 : Int) < k) = false := by simp; omega
          go_wp2_with (first | (go_at_call 60; refine (refDigit_any _ _).mono ?_; rintro e w' ⟨rfl, rfl⟩) | (go_at_call 61; refine (H59.out _).mono ?_; rintro e w1 ⟨n, rfl, hn, rfl⟩))
          · have hb : 2147483647 < val (s.extract 0 k).toList := by assumption
            rw [HO.out.2.1 hb p w]
            exact bodyPost_ret (v := .tuple #[.agg #[.int .i64 0, .string ⟨#[]⟩, .int .i64 0], .int .i64 2]) (by simp [results, Tryz.results33, go_sem]) rfl ⟨rfl, (Below.refl _ _).alloc (Nat.le_refl _) _⟩
          · have hb : ¬ 2147483647 < val (s.extract 0 k).toList := by assumption
            rw [HO.out.2.2 (fun e => h1 e.1) hb p w]
            exact bodyPost_ret (v := .tuple #[.agg #[.int .i64 2, .string (s.extract 0 k), .int .i64 p], .int .i64 0]) (by simp [results, Tryz.results33, go_sem]) rfl ⟨by rw [str_of], (Below.refl _ _).alloc (Nat.le_refl _) _⟩
      · have z' : (s[0] : UInt8) ≠ 48 := by intro e; rw [e] at z; simp at z
        by_cases h1 : 1 < k
        · have h1' : decide ((1 : Int) < k) = true := by simp; omega
          go_wp2_with (first | (go_at_call 60; refine (refDigit_any _ _).mono ?_; rintro e w' ⟨rfl, rfl⟩) | (go_at_call 61; refine (H59.out _).mono ?_; rintro e w1 ⟨n, rfl, hn, rfl⟩))
          · have hb : 2147483647 < val (s.extract 0 k).toList := by assumption
            rw [HO.out.2.1 hb p w]
            exact bodyPost_ret (v := .tuple #[.agg #[.int .i64 0, .string ⟨#[]⟩, .int .i64 0], .int .i64 2]) (by simp [results, Tryz.results33, go_sem]) rfl ⟨rfl, (Below.refl _ _).alloc (Nat.le_refl _) _⟩
          · have hb : ¬ 2147483647 < val (s.extract 0 k).toList := by assumption
            rw [HO.out.2.2 (fun e => z' e.2) hb p w]
            exact bodyPost_ret (v := .tuple #[.agg #[.int .i64 2, .string (s.extract 0 k), .int .i64 p], .int .i64 0]) (by simp [results, Tryz.results33, go_sem]) rfl ⟨by rw [str_of], (Below.refl _ _).alloc (Nat.le_refl _) _⟩
        · have h1' : decide ((1 : Int) < k) = false := by simp; omega
          go_wp2_with (first | (go_at_call 60; refine (refDigit_any _ _).mono ?_; rintro e w' ⟨rfl, rfl⟩) | (go_at_call 61; refine (H59.out _).mono ?_; rintro e w1 ⟨n, rfl, hn, rfl⟩))
          · have hb : 2147483647 < val (s.extract 0 k).toList := by assumption
            rw [HO.out.2.1 hb p w]
            exact bodyPost_ret (v := .tuple #[.agg #[.int .i64 0, .string ⟨#[]⟩, .int .i64 0], .int .i64 2]) (by simp [results, Tryz.results33, go_sem]) rfl ⟨rfl, (Below.refl _ _).alloc (Nat.le_refl _) _⟩
          · have hb : ¬ 2147483647 < val (s.extract 0 k).toList := by assumption
            rw [HO.out.2.2 (fun e => z' e.2) hb p w]
            exact bodyPost_ret (v := .tuple #[.agg #[.int .i64 2, .string (s.extract 0 k), .int .i64 p], .int .i64 0]) (by simp [results, Tryz.results33, go_sem]) rfl ⟨by rw [str_of], (Below.refl _ _).alloc (Nat.le_refl _) _⟩

end Go.Proofs.YtgohhnbdicdenaaGreatDoor.Lx

/- The document's answer 'one' of layer lex returns what the plain function one says. Conditions: a text that is not empty, its length within a machine's. -/
namespace Go.Proofs.YtgohhnbdicdenaaGreatDoor.Lx
open Go.ChangeShapes Go.WideShapes Go.ChangeAt Go.RowKit
set_option linter.unusedVariables false

theorem letM_zero (T : Bytes) (h : (letM T).2 ≠ 0) : (letM T).1 = 0 := by
  unfold letM at *
  cases hw : wordB T with
  | true => simp [hw] at h
  | false =>
    cases hn : nameB T with
    | true => simp [hw, hn] at h
    | false => simp
theorem one_word (s : ByteArray) (k : Nat) (hp : 0 < s.size) (hd : letterB s[0] = true) (hT : (s.extract 0 k).toList = s.toList.takeWhile ofNameB) (p : Int) (W : World) :
    oneTok s.toList p W = wordTok (s.extract 0 k).toList p W := by
  have ho : one s.toList = ((s.extract 0 k).toList, letM (s.extract 0 k).toList) := by
    unfold one; rw [head_get s hp, if_neg (by rw [letter_no_digit _ hd]; simp), if_pos (by rw [ofName_eq, hd]; rfl), hT]
  unfold oneTok wordTok
  rw [ho]
  by_cases h : (letM (s.extract 0 k).toList).2 = 0
  · simp only [h, if_true]
  · simp only [h, if_false, letM_zero _ h]
theorem word_new {w w1 : World} {c : Array Value} (hb : Below (w.alloc (.cells c 54)).heap.size (w.alloc (.cells c 54)) w1) :
    Below w.heap.size w w1 ∧ w1.heap[w.heap.size]? = some (.cells c 54 (0, 0)) := by
  refine ⟨((Below.refl _ _).alloc (Nat.le_refl _) _).trans (hb.mono (by simp)), ?_⟩
  rw [hb.block _ (by simp)]; exact heap_alloc_new w _

set_option maxRecDepth 100000 in
set_option maxHeartbeats 4000000 in
theorem refOneName_any (s : ByteArray) (p : Int) (w : World) (h : s.size ≤ maxLen) (hp : 0 < s.size) (hd : letterB s[0] = true) :
    Calls Tryz.prog 33 #[.string s, .int .i64 p] w (oneTok s.toList p w) := by
  unfold maxLen at h
  have hnd := letter_no_digit _ hd
  go_enter Tryz.func33, Tryz.ntmps33
  go_wp2_with (first | (go_at_call 60; refine (refDigit_any _ _).mono ?_; rintro e w' ⟨rfl, rfl⟩) | (go_at_call 58; refine (refLetter_any _ _).mono ?_; rintro e w' ⟨rfl, rfl⟩))
  go_loop [6] (fun i => ∃ k : Nat, k ≤ s.size ∧ i = .int .i64 k ∧ ((s.toList.drop 0).take (k - 0)).all ofNameB = true) (fun i => s.size - (intOf i).toNat)
  case atStart => exact ⟨0, Nat.zero_le _, rfl, by simp⟩
  case round =>
    obtain ⟨k, hk, rfl, hs⟩ := hrel
    have tail : (∀ hh : k < s.size, ofNameB s[k] = false) → ∃ K T P E, Hid (∀ W, Calls Tryz.prog 62 #[.string (s.extract 0 k), .int .i64 p] W (GivesTok W K T P E)) ∧ Hid (oneTok s.toList p w = GivesTok w K T P E) := fun hstop => by
      have h1 := row_end s ofNameB 0 k (Nat.zero_le _) hk hs hstop
      refine ⟨_, _, _, _, Lib.hid fun W => ?_, Lib.hid (one_word s k hp hd h1 p w)⟩
      have := refWord_any (s.extract 0 k).toList p W (by rw [toList_len, ByteArray.size_extract]; unfold maxLen; omega)
      rw [str_of] at this; exact this
    by_cases hlt : k < s.size
    · rcases Bool.eq_false_or_eq_true (letterB s[k]) with g1 | g1
      · have HN := Lib.hid (row_more s ofNameB 0 k (Nat.zero_le _) hlt hs (by rw [ofName_eq, g1]; rfl))
        clear hs tail
        go_wp2_with (first | (go_at_call 60; refine (refDigit_any _ _).mono ?_; rintro e w' ⟨rfl, rfl⟩) | (go_at_call 58; refine (refLetter_any _ _).mono ?_; rintro e w' ⟨rfl, rfl⟩))
        go_round
        case rel => exact ⟨k + 1, by omega, by go_num, HN.out⟩
        case measure => simp [intOf]; omega
      · rcases Bool.eq_false_or_eq_true (digitB s[k]) with g2 | g2
        · have HN := Lib.hid (row_more s ofNameB 0 k (Nat.zero_le _) hlt hs (by rw [ofName_eq, g1, g2]; rfl))
          clear hs tail
          go_wp2_with (first | (go_at_call 60; refine (refDigit_any _ _).mono ?_; rintro e w' ⟨rfl, rfl⟩) | (go_at_call 58; refine (refLetter_any _ _).mono ?_; rintro e w' ⟨rfl, rfl⟩))
          go_round
          case rel => exact ⟨k + 1, by omega, by go_num, HN.out⟩
          case measure => simp [intOf]; omega
        · obtain ⟨K, T, P, E, H60, HT⟩ := tail (fun _ => by rw [ofName_eq, g1, g2]; rfl)
          clear hs tail
          go_wp2_with (first | (go_at_call 60; refine (refDigit_any _ _).mono ?_; rintro e w' ⟨rfl, rfl⟩) | (go_at_call 58; refine (refLetter_any _ _).mono ?_; rintro e w' ⟨rfl, rfl⟩))
          refine (H60.out _).mono ?_
          rintro e w1 ⟨rfl, hb⟩
          obtain ⟨hB, b0⟩ := word_new hb
          have z0 := lt_of_block b0
          have c00 : w1.cell? ⟨w.heap.size, 0, none⟩ = some (.int .i64 0) := by simp [World.cell?, b0]
          have c01 : w1.cell? ⟨w.heap.size, 1, none⟩ = some (.string ⟨#[]⟩) := by simp [World.cell?, b0]
          have c02 : w1.cell? ⟨w.heap.size, 2, none⟩ = some (.int .i64 0) := by simp [World.cell?, b0]
          have f00 : w1.frozen? ⟨w.heap.size, 0, none⟩ = false := by simp [World.frozen?, b0]
          have f01 : w1.frozen? ⟨w.heap.size, 1, none⟩ = false := by simp [World.frozen?, b0]
          have f02 : w1.frozen? ⟨w.heap.size, 2, none⟩ = false := by simp [World.frozen?, b0]
          have HB := Lib.hid hB
          clear hB hb b0
          go_wp2
          rw [HT.out]
          exact bodyPost_ret (v := .tuple #[.agg #[.int .i64 K, .string (str T), .int .i64 P], .int .i64 E]) (by simp [results, Tryz.results33, go_sem, c00, c01, c02]) rfl ⟨rfl, ((HB.out.setCell (Nat.le_refl _) _).setCell (Nat.le_refl _) _).setCell (Nat.le_refl _) _⟩
    · obtain ⟨K, T, P, E, H60, HT⟩ := tail (fun hh => absurd hh hlt)
      clear hs tail
      go_wp2_with fail
      refine (H60.out _).mono ?_
      rintro e w1 ⟨rfl, hb⟩
      obtain ⟨hB, b0⟩ := word_new hb
      have z0 := lt_of_block b0
      have c00 : w1.cell? ⟨w.heap.size, 0, none⟩ = some (.int .i64 0) := by simp [World.cell?, b0]
      have c01 : w1.cell? ⟨w.heap.size, 1, none⟩ = some (.string ⟨#[]⟩) := by simp [World.cell?, b0]
      have c02 : w1.cell? ⟨w.heap.size, 2, none⟩ = some (.int .i64 0) := by simp [World.cell?, b0]
      have f00 : w1.frozen? ⟨w.heap.size, 0, none⟩ = false := by simp [World.frozen?, b0]
      have f01 : w1.frozen? ⟨w.heap.size, 1, none⟩ = false := by simp [World.frozen?, b0]
      have f02 : w1.frozen? ⟨w.heap.size, 2, none⟩ = false := by simp [World.frozen?, b0]
      have HB := Lib.hid hB
      clear hB hb b0
      go_wp2
      rw [HT.out]
      exact bodyPost_ret (v := .tuple #[.agg #[.int .i64 K, .string (str T), .int .i64 P], .int .i64 E]) (by simp [results, Tryz.results33, go_sem, c00, c01, c02]) rfl ⟨rfl, ((HB.out.setCell (Nat.le_refl _) _).setCell (Nat.le_refl _) _).setCell (Nat.le_refl _) _⟩

theorem one_sign (s : ByteArray) (hp : 0 < s.size) (hd : digitB s[0] = false) (hl : letterB s[0] = false) (p : Int) (W : World) :
    (signOf s.toList = [] → oneTok s.toList p W = GivesTok W 0 [] 0 5) ∧ (signOf s.toList ≠ [] → oneTok s.toList p W = GivesTok W 4 (signOf s.toList) p 0) := by
  have ho : one s.toList = (signOf s.toList, sigM (signOf s.toList)) := by
    unfold one; rw [head_get s hp, if_neg (by rw [hd]; simp), if_neg (by rw [ofName_eq, hd, hl]; simp)]
  refine ⟨fun h => ?_, fun h => ?_⟩
  · rw [h] at ho; exact oneTok_bad ho (by decide) p W
  · rw [show sigM (signOf s.toList) = (4, 0) from by unfold sigM; rw [if_neg h]] at ho; exact oneTok_ok ho p W
set_option maxRecDepth 100000 in
set_option maxHeartbeats 4000000 in
theorem refOneSign_any (s : ByteArray) (p : Int) (w : World) (h : s.size ≤ maxLen) (hp : 0 < s.size) (hd : digitB s[0] = false) (hl : letterB s[0] = false) :
    Calls Tryz.prog 33 #[.string s, .int .i64 p] w (oneTok s.toList p w) := by
  have H61 := Lib.hid (fun W => refSign_any s W h hp)
  have HO := Lib.hid (one_sign s hp hd hl p w)
  revert H61 HO
  generalize signOf s.toList = T
  intro H61 HO
  unfold maxLen at h
  have hst := str_toList T
  cases T with
  | nil =>
    have hq : ((str []).toList == []) = true := by rw [str_toList]; rfl
    go_enter Tryz.func33, Tryz.ntmps33
    go_wp2_with (first | (go_at_call 60; refine (refDigit_any _ _).mono ?_; rintro e w' ⟨rfl, rfl⟩) | (go_at_call 58; refine (refLetter_any _ _).mono ?_; rintro e w' ⟨rfl, rfl⟩))
    refine (H61.out _).mono ?_
    rintro e w1 ⟨rfl, hb⟩
    obtain ⟨hB, b0⟩ := word_new hb
    have z0 := lt_of_block b0
    have c00 : w1.cell? ⟨w.heap.size, 0, none⟩ = some (.int .i64 0) := by simp [World.cell?, b0]
    have c01 : w1.cell? ⟨w.heap.size, 1, none⟩ = some (.string ⟨#[]⟩) := by simp [World.cell?, b0]
    have c02 : w1.cell? ⟨w.heap.size, 2, none⟩ = some (.int .i64 0) := by simp [World.cell?, b0]
    have f00 : w1.frozen? ⟨w.heap.size, 0, none⟩ = false := by simp [World.frozen?, b0]
    have f01 : w1.frozen? ⟨w.heap.size, 1, none⟩ = false := by simp [World.frozen?, b0]
    have f02 : w1.frozen? ⟨w.heap.size, 2, none⟩ = false := by simp [World.frozen?, b0]
    have HB := Lib.hid hB
    clear hB hb b0
    go_wp2
    rw [HO.out.1 (by trivial)]
    exact bodyPost_ret (v := .tuple #[.agg #[.int .i64 0, .string ⟨#[]⟩, .int .i64 0], .int .i64 5]) (by simp [results, Tryz.results33, go_sem, c00, c01, c02]) rfl ⟨rfl, ((HB.out.setCell (Nat.le_refl _) _).setCell (Nat.le_refl _) _).setCell (Nat.le_refl _) _⟩
  | cons a r =>
    have hq : ((str (a :: r)).toList == []) = false := by rw [str_toList]; rfl
    go_enter Tryz.func33, Tryz.ntmps33
    go_wp2_with (first | (go_at_call 60; refine (refDigit_any _ _).mono ?_; rintro e w' ⟨rfl, rfl⟩) | (go_at_call 58; refine (refLetter_any _ _).mono ?_; rintro e w' ⟨rfl, rfl⟩))
    refine (H61.out _).mono ?_
    rintro e w1 ⟨rfl, hb⟩
    obtain ⟨hB, b0⟩ := word_new hb
    have z0 := lt_of_block b0
    have c00 : w1.cell? ⟨w.heap.size, 0, none⟩ = some (.int .i64 0) := by simp [World.cell?, b0]
    have c01 : w1.cell? ⟨w.heap.size, 1, none⟩ = some (.string ⟨#[]⟩) := by simp [World.cell?, b0]
    have c02 : w1.cell? ⟨w.heap.size, 2, none⟩ = some (.int .i64 0) := by simp [World.cell?, b0]
    have f00 : w1.frozen? ⟨w.heap.size, 0, none⟩ = false := by simp [World.frozen?, b0]
    have f01 : w1.frozen? ⟨w.heap.size, 1, none⟩ = false := by simp [World.frozen?, b0]
    have f02 : w1.frozen? ⟨w.heap.size, 2, none⟩ = false := by simp [World.frozen?, b0]
    have HB := Lib.hid hB
    clear hB hb b0
    go_wp2
    rw [HO.out.2 (by simp)]
    exact bodyPost_ret (v := .tuple #[.agg #[.int .i64 4, .string (str (a :: r)), .int .i64 p], .int .i64 0]) (by simp [results, Tryz.results33, go_sem, c00, c01, c02]) rfl ⟨rfl, ((HB.out.setCell (Nat.le_refl _) _).setCell (Nat.le_refl _) _).setCell (Nat.le_refl _) _⟩

theorem refOne_any (s : ByteArray) (p : Int) (w : World) (h : s.size ≤ maxLen) (hp : 0 < s.size) : Calls Tryz.prog 33 #[.string s, .int .i64 p] w (oneTok s.toList p w) := by
  rcases Bool.eq_false_or_eq_true (digitB s[0]) with hd | hd
  · exact refOneDigit_any s p w h hp hd
  · rcases Bool.eq_false_or_eq_true (letterB s[0]) with hl | hl
    · exact refOneName_any s p w h hp hl
    · exact refOneSign_any s p w h hp hd hl
end Go.Proofs.YtgohhnbdicdenaaGreatDoor.Lx

