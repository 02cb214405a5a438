/- The words of a line, by the program and by the document; a word by the document. Conditions: lengths within a machine's. -/
import Derived.Test.YtgngdkbcndldfaaDoorFaE
namespace Go.Proofs.YtgngdkbcndldfaaDoor.Fr
open Go.ChangeShapes Go.WideShapes Go.ChangeAt Go.RowKit Go.Proofs.YtgngdkbcndldfaaDoor.Tr
set_option linter.unusedVariables false
set_option linter.unusedSimpArgs false

theorem blank_any (x : Nat) (hx : x ≤ 1114111) (W : World) : Calls Tryd.prog 32 #[.int .i32 (x : Int)] W (fun e w' => e = .returned (.bool (is32 x)) ∧ ∃ q, w' = W.drewN q) := by
  have hb : ((x : Int) == 32) = is32 x := by unfold is32; rw [Bool.eq_iff_iff]; simp only [beq_iff_eq]; omega
  go_enter Tryd.func32, Tryd.ntmps32
  go_wp2
  go_ret
  exact ⟨rfl, 0, rfl⟩
theorem fields_strs (S : Bs) : (Lib.goFieldsP is32 (bs S)).map Value.string = strsOf (wordsM S) := by
  have h := fields_words (bs S)
  rw [bs_data] at h
  rw [← h]
  unfold strsOf
  rw [List.map_map]
  exact List.map_congr_left (fun x _ => by simp [bs_of])
theorem fields_len (S : Bs) : (Lib.goFieldsP is32 (bs S)).length = (wordsM S).length := by
  have h := congrArg List.length (fields_words (bs S))
  rw [bs_data, List.length_map] at h
  exact h
/-- A row of texts that was told. -/
def StrPost (l : List Bs) (w : World) (e : Ending) (w' : World) : Prop := ∃ v, e = .returned v ∧ Strs w' v l ∧ Below w.heap.size w w'
theorem fields_any (w : World) (S : Bs) (hS : S.length ≤ 1000000) : Calls Tryd.prog 31 #[.string (bs S), .func (.func 32) #[] #[]] w (StrPost (wordsM S) w) := by
  refine (Tryd.strings_FieldsFunc_runes 32 #[] (Go.Proofs.enters_of Tryd.func32 (by kernel_rfl) rfl) is32 (bs S) w (by rw [bs_size]; omega) (fun W x hx hb => ?_)).mono ?_
  · exact blank_any x (by omega) W
  · rintro e w' ⟨A, rfl, -, hown, hb⟩
    refine ⟨_, rfl, ?_, hb⟩
    rw [fields_strs, fields_len] at hown
    rw [fields_len]
    exact Strs.of_own hown
set_option maxRecDepth 100000 in
theorem words_any (w : World) (S : Bs) (hS : S.length ≤ 1000000) : Calls Tryd.prog 17 #[.string (bs S)] w (StrPost (wordsM S) w) := by
  have HA := Lib.hid (fields_any w S hS)
  go_enter Tryd.func17, Tryd.ntmps17
  go_wp2_with fail
  refine HA.out.mono ?_
  rintro e w1 ⟨v, rfl, hs, hb⟩
  have HE := Lib.hid (And.intro hs hb)
  clear hs hb
  go_wp2_with fail
  refine bodyPost_ret (v := v) (by simp [results, Tryd.results17, go_sem]) rfl ⟨v, rfl, HE.out.1, HE.out.2⟩

theorem intD_neg {S : Bs} (h : S.head? = some 45) : intM S = if (decide (0 < sizeM S.tail) && fitsM (-(sizeM S.tail))) = true then some (-(sizeM S.tail)) else none := by
  rw [intM_intD]; unfold intD; rw [if_pos h]
theorem intD_pos {S : Bs} (h : S.head? ≠ some 45) : intM S = if (decide (0 ≤ sizeM S) && fitsM (sizeM S)) = true then some (sizeM S) else none := by
  rw [intM_intD]; unfold intD; rw [if_neg h]
theorem digitsM_lo : ∀ (S : Bs) (m : Nat), -1 ≤ digitsM m S
  | [], m => by simp only [digitsM]; omega
  | c :: r, m => by
    simp only [digitsM]
    split
    · exact digitsM_lo r _
    · omega
theorem digitsM_hi : ∀ (S : Bs) (m : Nat), digitsM m S < ((m + 1) * 10 ^ S.length : Nat)
  | [], m => by simp only [digitsM, List.length_nil]; omega
  | c :: r, m => by
    simp only [digitsM]
    split
    · rename_i h
      have := digitsM_hi r (10 * m + (c.toNat - 48))
      have h2 : (10 * m + (c.toNat - 48) + 1) * 10 ^ r.length ≤ (m + 1) * 10 ^ (r.length + 1) := by
        rw [Nat.pow_succ, Nat.mul_comm (10 ^ r.length) 10, ← Nat.mul_assoc]
        exact Nat.mul_le_mul_right _ (by omega)
      rw [List.length_cons]
      omega
    · have : (0 : Int) ≤ ((m + 1) * 10 ^ (c :: r).length : Nat) := Int.natCast_nonneg _
      omega
theorem sizeM_range (S : Bs) : -1 ≤ sizeM S ∧ sizeM S < 10000000000 := by
  unfold sizeM
  split
  · omega
  · rename_i h
    have h1 := digitsM_hi S 0
    have hl : S.length ≤ 10 := Nat.le_of_not_lt (fun l => h (.inr (.inl l)))
    have h2 : (0 + 1) * 10 ^ S.length ≤ 10 ^ 10 := by rw [Nat.one_mul]; exact Nat.pow_le_pow_right (by omega) hl
    have h3 : (10 : Nat) ^ 10 = 10000000000 := by decide
    have := digitsM_lo S 0
    omega
set_option maxRecDepth 100000 in
set_option maxHeartbeats 2000000 in
theorem dword_any (w : World) (t : Int) (S : Bs) (hS : S.length ≤ 1000000) : Calls Tryd.prog 34 #[.int .i64 t, .string (bs S)] w (NumPost t S w) := by
  have hl := bs_list S
  by_cases h1 : t = 1
  · subst h1
    have HM := Lib.hid (num_true S)
    by_cases ht : S = trueB
    · subst ht
      have HP : Hid (NumPost 1 trueB w (.returned (.tuple #[.int .i64 1, .bool true])) w) := Lib.hid ⟨1, true, rfl, by decide, Below.refl _ _⟩
      have hq : (bs trueB).toList == [116, 114, 117, 101] := by rw [bs_list]; decide
      go_enter Tryd.func34, Tryd.ntmps34
      go_wp2
      refine bodyPost_ret (v := .tuple #[.int .i64 1, .bool true]) (by simp [results, Tryd.results34, go_sem]) rfl HP.out
    · have hq : ((bs S).toList == [116, 114, 117, 101]) = false := by rw [bs_list]; exact beq_eq_false_iff_ne.2 ht
      obtain ⟨b, hb⟩ : ∃ b, ((bs S).toList == [102, 97, 108, 115, 101]) = b := ⟨_, rfl⟩
      have HP : Hid (NumPost 1 S w (.returned (.tuple #[.int .i64 0, .bool b])) w) := Lib.hid ⟨0, b, rfl, by
        rw [HM.out, if_neg ht]
        rw [hl] at hb
        cases b with
        | true => rw [if_pos (show S = falseB from eq_of_beq hb)]; rfl
        | false => rw [if_neg (show S ≠ falseB from fun e => by rw [e] at hb; revert hb; decide)]; rfl, Below.refl _ _⟩
      clear hl ht
      go_enter Tryd.func34, Tryd.ntmps34
      go_wp2
      refine bodyPost_ret (v := .tuple #[.int .i64 0, .bool b]) (by simp [results, Tryd.results34, go_sem, hb]) rfl HP.out
  have h1b : (t == 1) = false := beq_eq_false_iff_ne.2 h1
  by_cases h2 : t = 2
  · subst h2
    have HM := Lib.hid (num_int S)
    by_cases h45 : S.head? = some 45
    · obtain ⟨R, rfl⟩ : ∃ R, S = 45 :: R := by
        cases S with
        | nil => simp at h45
        | cons a b => simp at h45; exact ⟨b, by rw [h45]⟩
      have HI : Hid (intM (45 :: R) = if (decide (0 < sizeM R) && fitsM (-(sizeM R))) = true then some (-(sizeM R)) else none) := Lib.hid (intD_neg (S := 45 :: R) rfl)
      have HS := Lib.hid (dsize_any w R (by simp at hS; omega))
      obtain ⟨n, hn⟩ : ∃ n, R.length = n := ⟨_, rfl⟩
      have hsz : (bs (45 :: R)).size = n + 1 := by rw [bs_size, List.length_cons, hn]
      have hex : (bs (45 :: R)).extract 1 (n + 1) = bs R := by
        rw [bs_cut]; congr 1; unfold pieceF; simp [← hn]
      have he : (bs (45 :: R)).toList.isEmpty = false := by rw [hl]; rfl
      have hlt0 : 0 < (bs (45 :: R)).size := by rw [hsz]; omega
      have hc : ((((bs (45 :: R))[0]'hlt0).toNat : Int)) = 45 := rfl
      obtain ⟨x, hx⟩ : ∃ x, sizeM R = x := ⟨_, rfl⟩
      have hr := sizeM_range R
      rw [hx] at HS HI hr
      have hxw : wrap64 (-x) = -x := by unfold wrap64; omega
      have hS' : n ≤ 1000000 := by simp at hS; omega
      obtain ⟨hr1, hr2⟩ := hr
      clear hl hx hn hS h45
      by_cases h0 : 0 < x
      · have HFF := Lib.hid (dfits_any (-x) w)
        have HP : Hid (NumPost 2 (45 :: R) w (.returned (.tuple #[.int .i64 (-x), .bool (fitsM (-x))])) w) := Lib.hid ⟨-x, fitsM (-x), rfl, by rw [HM.out, HI.out, decide_eq_true h0, Bool.true_and], Below.refl _ _⟩
        obtain ⟨f, hf⟩ : ∃ f, fitsM (-x) = f := ⟨_, rfl⟩
        rw [hf] at HFF HP
        go_enter Tryd.func34, Tryd.ntmps34
        go_wp2_with fail
        refine HS.out.mono ?_
        rintro e w1 ⟨rfl, rfl⟩
        go_wp2_with fail
        refine HFF.out.mono ?_
        rintro e w2 ⟨rfl, rfl⟩
        go_wp2_with fail
        refine bodyPost_ret (v := .tuple #[.int .i64 (-x), .bool f]) (by simp [results, Tryd.results34, go_sem, hxw]) rfl HP.out
      · have HP : Hid (NumPost 2 (45 :: R) w (.returned (.tuple #[.int .i64 (-x), .bool false])) w) := Lib.hid ⟨-x, false, rfl, by rw [HM.out, HI.out, decide_eq_false h0, Bool.false_and], Below.refl _ _⟩
        go_enter Tryd.func34, Tryd.ntmps34
        go_wp2_with fail
        refine HS.out.mono ?_
        rintro e w1 ⟨rfl, rfl⟩
        go_wp2_with fail
        refine bodyPost_ret (v := .tuple #[.int .i64 (-x), .bool false]) (by simp [results, Tryd.results34, go_sem, hxw]) rfl HP.out
    · have HI := Lib.hid (intD_pos h45)
      have HS := Lib.hid (dsize_any w S hS)
      obtain ⟨x, hx⟩ : ∃ x, sizeM S = x := ⟨_, rfl⟩
      have hr := sizeM_range S
      rw [hx] at HS HI hr
      obtain ⟨hr1, hr2⟩ := hr
      have hgo : ∀ (Q : Prop), ((bs S).toList.isEmpty = true → Q) → ((bs S).toList.isEmpty = false → ∀ (h : 0 < (bs S).size), ((((bs S)[0]'h).toNat : Int) == 45) = false → Q) → Q := by
        intro Q q1 q2
        cases S with
        | nil => exact q1 (by rw [hl]; rfl)
        | cons a b =>
          refine q2 (by rw [hl]; rfl) (by rw [bs_size]; simp) ?_
          rw [bs_at (a :: b) 0 _ (by simp)]
          have := byte_is a 45
          rw [show ((45 : UInt8).toNat : Int) = 45 from rfl] at this
          show ((a.toNat : Int) == 45) = false
          rw [this]
          exact decide_eq_false (fun e => h45 (by rw [e]; rfl))
      by_cases h0 : 0 ≤ x
      · have HFF := Lib.hid (dfits_any x w)
        have HP : Hid (NumPost 2 S w (.returned (.tuple #[.int .i64 x, .bool (fitsM x)])) w) := Lib.hid ⟨x, fitsM x, rfl, by rw [HM.out, HI.out, decide_eq_true h0, Bool.true_and], Below.refl _ _⟩
        obtain ⟨f, hf⟩ : ∃ f, fitsM x = f := ⟨_, rfl⟩
        rw [hf] at HFF HP
        clear hl hx hS h45
        refine hgo _ (fun he => ?_) (fun he hn hc => ?_)
        all_goals
          clear hgo
          go_enter Tryd.func34, Tryd.ntmps34
          go_wp2_with fail
          refine HS.out.mono ?_
          rintro e w1 ⟨rfl, rfl⟩
          go_wp2_with fail
          refine HFF.out.mono ?_
          rintro e w2 ⟨rfl, rfl⟩
          go_wp2_with fail
          refine bodyPost_ret (v := .tuple #[.int .i64 x, .bool f]) (by simp [results, Tryd.results34, go_sem]) rfl HP.out
      · have HP : Hid (NumPost 2 S w (.returned (.tuple #[.int .i64 x, .bool false])) w) := Lib.hid ⟨x, false, rfl, by rw [HM.out, HI.out, decide_eq_false h0, Bool.false_and], Below.refl _ _⟩
        clear hl hx hS h45
        refine hgo _ (fun he => ?_) (fun he hn hc => ?_)
        all_goals
          clear hgo
          go_enter Tryd.func34, Tryd.ntmps34
          go_wp2_with fail
          refine HS.out.mono ?_
          rintro e w1 ⟨rfl, rfl⟩
          go_wp2_with fail
          refine bodyPost_ret (v := .tuple #[.int .i64 x, .bool false]) (by simp [results, Tryd.results34, go_sem]) rfl HP.out
  · have h2b : (t == 2) = false := beq_eq_false_iff_ne.2 h2
    have HP : Hid (NumPost t S w (.returned (.tuple #[.int .i64 0, .bool false])) w) := Lib.hid ⟨0, false, rfl, by rw [num_other h1 h2]; rfl, Below.refl _ _⟩
    clear hl h1 h2
    go_enter Tryd.func34, Tryd.ntmps34
    go_wp2
    refine bodyPost_ret (v := .tuple #[.int .i64 0, .bool false]) (by simp [results, Tryd.results34, go_sem]) rfl HP.out
end Go.Proofs.YtgngdkbcndldfaaDoor.Fr
