/- Plain facts on the plain functions of LexM. Conditions: none. -/
import Derived.Test.YtgligmdkikbdoaaLexM
namespace Go.Proofs.Ytgligmdkikbdoaa.Lx

theorem takeWhile_le (f : UInt8 → Bool) (l : Bytes) : (l.takeWhile f).length ≤ l.length := (List.takeWhile_sublist f).length_le
theorem sign_le (l : Bytes) : (signOf l).length ≤ l.length := by
  unfold signOf; split
  · exact List.length_take_le' _ _
  · split
    · exact List.length_take_le' _ _
    · simp
theorem one_le (l : Bytes) : (one l).1.length ≤ l.length := by
  unfold one; split
  · exact takeWhile_le _ _
  · split
    · exact takeWhile_le _ _
    · exact sign_le _
theorem one_pos (c : UInt8) (r : Bytes) (h : (one (c :: r)).2.2 = 0) : 0 < (one (c :: r)).1.length := by
  by_cases h1 : digitB c = true
  · have e : (one (c :: r)).1 = (c :: r).takeWhile digitB := by unfold one; rw [List.headD_cons, if_pos h1]
    rw [e, List.takeWhile_cons, h1]; simp
  · by_cases h2 : ofNameB c = true
    · have e : (one (c :: r)).1 = (c :: r).takeWhile ofNameB := by unfold one; rw [List.headD_cons, if_neg h1, if_pos h2]
      rw [e, List.takeWhile_cons, h2]; simp
    · have e : one (c :: r) = (signOf (c :: r), sigM (signOf (c :: r))) := by unfold one; rw [List.headD_cons, if_neg h1, if_neg h2]
      rw [e] at h ⊢
      rcases Nat.eq_zero_or_pos (signOf (c :: r)).length with h0 | h0
      · simp only [sigM, List.length_eq_zero_iff.1 h0] at h; simp at h
      · exact h0
theorem skipF_le (b : Bool) (l : Bytes) : skip b l ≤ l.length := by
  induction l generalizing b with
  | nil => cases b <;> simp [skip]
  | cons c r ih =>
    cases b
    · simp only [skip, List.length_cons]
      split
      · have := ih false; omega
      · split
        · have := ih true; omega
        · omega
    · simp only [skip, List.length_cons]
      split
      · have := ih false; omega
      · have := ih true; omega

theorem lexF_fuel (f g : Nat) (l : Bytes) (p : Nat) (hf : l.length < f) (hg : l.length < g) : lexF f l p = lexF g l p := by
  induction f generalizing g l p with
  | zero => omega
  | succ f ih =>
    cases g with
    | zero => omega
    | succ g =>
      cases l with
      | nil => rfl
      | cons c r =>
        simp only [lexF]
        split
        · rfl
        · rename_i h
          have h0 : (one (c :: r)).2.2 = 0 := by simpa using h
          have hp := one_pos c r h0
          congr 1
          apply ih
          · simp only [List.length_drop, List.length_cons] at *; omega
          · simp only [List.length_drop, List.length_cons] at *; omega

/-- The tokens of a text from a place on, whatever the fuel. -/
def lexL (l : Bytes) (p : Nat) : Res := lexF (l.length + 1) l p
theorem lexL_nil (p : Nat) : lexL [] p = .ok [] := rfl
theorem lexL_bad (c : UInt8) (r : Bytes) (p : Nat) (h : (one (c :: r)).2.2 ≠ 0) : lexL (c :: r) p = .bad (one (c :: r)).2.2 p := by
  unfold lexL; simp only [lexF]; rw [if_pos h]
theorem lexL_cons (c : UInt8) (r : Bytes) (p : Nat) (h : (one (c :: r)).2.2 = 0) :
    lexL (c :: r) p = Res.cons ⟨(one (c :: r)).2.1, (one (c :: r)).1, p⟩
      (lexL (((c :: r).drop (one (c :: r)).1.length).drop (skip false ((c :: r).drop (one (c :: r)).1.length))) (p + (one (c :: r)).1.length + skip false ((c :: r).drop (one (c :: r)).1.length))) := by
  have hp := one_pos c r h
  have e := fun (x : Res) => (show (if (one (c :: r)).2.2 ≠ 0 then Res.bad (one (c :: r)).2.2 p else x) = x from if_neg (by rw [h]; simp))
  unfold lexL; simp only [lexF]; rw [e]
  congr 1
  apply lexF_fuel
  · simp only [List.length_drop, List.length_cons] at *; omega
  · omega
theorem lexM_eq (l : Bytes) (h : ¬ 100000 < l.length) : lexM l = lexL (l.drop (skip false l)) (skip false l) := by
  unfold lexM lexL; rw [if_neg h]
  apply lexF_fuel
  · simp only [List.length_drop]; omega
  · omega

theorem skip_blank' (r : Bytes) : skip false (32 :: r) = 1 + skip false r := by simp [skip, blankB]
theorem skip_letter (c : UInt8) (r : Bytes) (h : ofNameB c = true) : skip false (c :: r) = 0 := by
  have hb : blankB c = false := by
    cases hb : blankB c with
    | false => rfl
    | true =>
      simp [blankB] at hb
      rcases hb with ((rfl | rfl) | rfl) | rfl <;> simp [ofNameB, digitB] at h
  have h2 : c ≠ 45 := by rintro rfl; simp [ofNameB, digitB] at h
  simp [skip, hb, h2]
theorem takeWhile_all (f : UInt8 → Bool) (l : Bytes) (h : l.all f = true) : l.takeWhile f = l := by
  induction l with
  | nil => rfl
  | cons c r ih =>
    simp only [List.all_cons, Bool.and_eq_true] at h
    rw [List.takeWhile_cons, h.1, ih h.2]; rfl
theorem name_len (l : Bytes) (h : nameB l = true) : l.length ≤ 40 := by simp [nameB] at h; omega
theorem name_no_word (l : Bytes) (h : nameB l = true) : wordB l = false := by simp [nameB] at h; simpa using h.1.2
theorem name_lex (l : Bytes) (h : nameB l = true) : lexM l = .ok [⟨1, l, 0⟩] := by
  have hl := name_len l h
  have hw := name_no_word l h
  cases l with
  | nil => simp [nameB] at h
  | cons c r =>
    have hn := h
    simp only [nameB, Bool.and_eq_true] at h
    obtain ⟨⟨⟨⟨_, _⟩, hd⟩, _⟩, ha⟩ := h
    have hd' : digitB c = false := by simpa using hd
    have ha' := takeWhile_all ofNameB (c :: r) ha
    have hc : ofNameB c = true := by simp only [List.all_cons, Bool.and_eq_true] at ha; exact ha.1
    have ho : one (c :: r) = (c :: r, 1, 0) := by
      unfold one; rw [List.headD_cons, if_neg (by rw [hd']; simp), if_pos hc, ha']
      simp [letM, hw, hn]
    rw [lexM_eq _ (by omega), skip_letter c r hc, List.drop_zero, lexL_cons _ _ _ (by rw [ho]), ho]
    simp only [List.drop_length]
    rw [show skip false [] = 0 from rfl, List.drop_zero, lexL_nil]; rfl
theorem word_lex_all : ∀ w ∈ words, lexM w = .ok [⟨3, w, 0⟩] := by decide +kernel
theorem word_lex (l : Bytes) (h : wordB l = true) : lexM l = .ok [⟨3, l, 0⟩] := word_lex_all l (by simpa [wordB] using h)

theorem digM_kind (l : Bytes) (h : (digM l).2 = 0) : (digM l).1 = 2 := by
  unfold digM at *; split at h
  · simp at h
  · rename_i h1
    rw [if_neg h1]; split at h
    · simp at h
    · rename_i h2; rw [if_neg h2]
theorem sigM_kind (l : Bytes) (h : (sigM l).2 = 0) : (sigM l).1 = 4 := by
  unfold sigM at *; split at h
  · simp at h
  · rename_i h1; rw [if_neg h1]
theorem letM_kind (l : Bytes) (h : (letM l).2 = 0) : (letM l).1 = 3 ∧ wordB l = true ∨ (letM l).1 = 1 ∧ wordB l = false ∧ nameB l = true := by
  unfold letM at *
  cases hw : wordB l with
  | true => left; simp
  | false =>
    cases hn : nameB l with
    | true => right; simp
    | false => simp [hw, hn] at h
theorem one_kind (l : Bytes) (h : (one l).2.2 = 0) :
    (one l).2.1 = 2 ∨ (one l).2.1 = 4 ∨ (one l).2.1 = 3 ∧ wordB (one l).1 = true ∨ (one l).2.1 = 1 ∧ nameB (one l).1 = true := by
  by_cases h1 : digitB (l.headD 0) = true
  · have e : one l = (l.takeWhile digitB, digM (l.takeWhile digitB)) := by unfold one; rw [if_pos h1]
    rw [e] at h ⊢; exact .inl (digM_kind _ h)
  · by_cases h2 : ofNameB (l.headD 0) = true
    · have e : one l = (l.takeWhile ofNameB, letM (l.takeWhile ofNameB)) := by unfold one; rw [if_neg h1, if_pos h2]
      rw [e] at h ⊢
      rcases letM_kind _ h with h3 | h3
      · exact .inr (.inr (.inl h3))
      · exact .inr (.inr (.inr ⟨h3.1, h3.2.2⟩))
    · have e : one l = (signOf l, sigM (signOf l)) := by unfold one; rw [if_neg h1, if_neg h2]
      rw [e] at h ⊢; exact .inr (.inl (sigM_kind _ h))
/-- The first token of a text. -/
theorem first_tok (l : Bytes) (p : Nat) (t : Tok) (r : List Tok) (h : (lexL l p).toks = t :: r) :
    ∃ c d, l = c :: d ∧ (one l).2.2 = 0 ∧ t = ⟨(one l).2.1, (one l).1, p⟩ := by
  cases l with
  | nil => simp [lexL_nil, Res.toks] at h
  | cons c d =>
    by_cases h0 : (one (c :: d)).2.2 = 0
    · refine ⟨c, d, rfl, h0, ?_⟩
      rw [lexL_cons c d p h0] at h
      revert h
      generalize lexL _ _ = x
      cases x with
      | ok l => intro h; simp [Res.cons, Res.toks] at h; exact h.1.symm
      | bad a b => intro h; simp [Res.cons, Res.toks] at h
    · rw [lexL_bad c d p h0] at h; simp [Res.toks] at h
theorem one_tok (l : Bytes) (hl : l.length ≤ 100000) (t : Tok) (h : (lexM l).toks = [t]) (ht : t.text = l) : t.kind = 2 ∨ t.kind = 4 ∨ wordB l = true ∨ nameB l = true := by
  rw [lexM_eq l (by omega)] at h
  obtain ⟨c, d, _, h0, rfl⟩ := first_tok _ _ _ _ h
  simp only at ht ⊢
  have := one_kind _ h0
  rw [ht] at this
  rcases this with h1 | h1 | h1 | h1
  · exact .inl h1
  · exact .inr (.inl h1)
  · exact .inr (.inr (.inl h1.2))
  · exact .inr (.inr (.inr h1.2))

theorem takeWhile_prefix (f : UInt8 → Bool) (l : Bytes) : l.take (l.takeWhile f).length = l.takeWhile f :=
  (List.prefix_iff_eq_take.1 (List.takeWhile_prefix f)).symm
theorem take_take_len (l : Bytes) (n : Nat) : l.take (l.take n).length = l.take n := by
  rw [List.length_take, Nat.min_def]; split
  · rfl
  · rw [List.take_of_length_le (Nat.le_refl _), List.take_of_length_le (by omega)]
theorem sign_prefix (l : Bytes) : l.take (signOf l).length = signOf l := by
  unfold signOf; split
  · exact take_take_len _ _
  · split
    · exact take_take_len _ _
    · rfl
theorem one_prefix (l : Bytes) : l.take (one l).1.length = (one l).1 := by
  by_cases h1 : digitB (l.headD 0) = true
  · have e : one l = (l.takeWhile digitB, digM (l.takeWhile digitB)) := by unfold one; rw [if_pos h1]
    rw [e]; exact takeWhile_prefix _ _
  · by_cases h2 : ofNameB (l.headD 0) = true
    · have e : one l = (l.takeWhile ofNameB, letM (l.takeWhile ofNameB)) := by unfold one; rw [if_neg h1, if_pos h2]
      rw [e]; exact takeWhile_prefix _ _
    · have e : one l = (signOf l, sigM (signOf l)) := by unfold one; rw [if_neg h1, if_neg h2]
      rw [e]; exact sign_prefix _

/-- Each token stands where it says, behind the one ahead of it. -/
def Chain (l : Bytes) : Nat → List Tok → Prop
  | _, [] => True
  | p, t :: r => p ≤ t.at_ ∧ 0 < t.text.length ∧ t.at_ + t.text.length ≤ l.length ∧ (l.drop t.at_).take t.text.length = t.text ∧ Chain l (t.at_ + t.text.length) r
theorem Chain.less {l : Bytes} {p q : Nat} {r : List Tok} (h : Chain l p r) (hq : q ≤ p) : Chain l q r := by
  cases r with
  | nil => trivial
  | cons t r => exact ⟨Nat.le_trans hq h.1, h.2⟩
theorem lexL_chain (l : Bytes) (n p : Nat) (hp : p ≤ l.length) (hn : l.length - p ≤ n) :
    Chain l p (lexL (l.drop p) p).toks ∧ ((lexL (l.drop p) p).code ≠ 0 → (p : Int) ≤ (lexL (l.drop p) p).at_ ∧ (lexL (l.drop p) p).at_ < l.length) := by
  induction n generalizing p with
  | zero =>
    rw [List.drop_eq_nil_of_le (by omega), lexL_nil]; simp [Res.toks, Res.code, Chain]
  | succ n ih =>
    cases hd : l.drop p with
    | nil => rw [lexL_nil]; simp [Res.toks, Res.code, Chain]
    | cons c d =>
      have hlt : p < l.length := by
        have := congrArg List.length hd
        rw [List.length_drop, List.length_cons] at this; omega
      by_cases h0 : (one (c :: d)).2.2 = 0
      · have hpos := one_pos c d h0
        have hle := one_le (c :: d)
        have hpre := one_prefix (c :: d)
        have hl : (c :: d).length = l.length - p := by rw [← hd, List.length_drop]
        have hsk := skipF_le false ((c :: d).drop (one (c :: d)).1.length)
        rw [List.length_drop, hl] at hsk
        rw [hl] at hle
        rw [lexL_cons c d p h0]
        have hdd : ((c :: d).drop (one (c :: d)).1.length).drop (skip false ((c :: d).drop (one (c :: d)).1.length)) = l.drop (p + (one (c :: d)).1.length + skip false ((c :: d).drop (one (c :: d)).1.length)) := by
          rw [List.drop_drop, ← hd, List.drop_drop, Nat.add_assoc]
        rw [hdd]
        obtain ⟨i1, i2⟩ := ih (p + (one (c :: d)).1.length + skip false ((c :: d).drop (one (c :: d)).1.length)) (by omega) (by omega)
        revert i1 i2
        generalize lexL _ _ = x
        intro i1 i2
        have hc : Chain l p (⟨(one (c :: d)).2.1, (one (c :: d)).1, p⟩ :: x.toks) := ⟨Nat.le_refl _, hpos, by show p + (one (c :: d)).1.length ≤ _; omega, by rw [hd]; exact hpre, i1.less (by show p + (one (c :: d)).1.length ≤ _; omega)⟩
        cases x with
        | ok r => exact ⟨hc, fun h => absurd rfl h⟩
        | bad a b => exact ⟨trivial, fun h => ⟨by have := (i2 h).1; simp only [Res.at_, Res.cons] at this ⊢; omega, (i2 h).2⟩⟩
      · rw [lexL_bad c d p h0]
        exact ⟨trivial, fun _ => ⟨Int.le_refl _, by show (p : Int) < _; omega⟩⟩
theorem lexM_chain (l : Bytes) (h : l.length ≤ 100000) : Chain l 0 (lexM l).toks ∧ ((lexM l).code ≠ 0 → 0 ≤ (lexM l).at_ ∧ (lexM l).at_ < l.length) := by
  rw [lexM_eq l (by omega)]
  have hk := skipF_le false l
  obtain ⟨h1, h2⟩ := lexL_chain l l.length (skip false l) hk (by omega)
  exact ⟨h1.less (Nat.zero_le _), fun h => ⟨by have := (h2 h).1; omega, (h2 h).2⟩⟩
end Go.Proofs.Ytgligmdkikbdoaa.Lx
