/- Plain facts: tokens that are joined are the same ones again; their texts together are not long. Conditions: none. -/
import Derived.Test.YtgligmdkikbdoaaLexN
import Derived.Lib.Join
namespace Go.Proofs.Ytgligmdkikbdoaa.Lx

def joinM (l : List Tok) : Bytes := Lib.join (l.map (·.text)) [32]
theorem joinM_nil : joinM [] = [] := rfl
theorem joinM_one (t : Tok) : joinM [t] = t.text := by simp [joinM, Lib.join, List.intercalate]
theorem joinM_more (t u : Tok) (r : List Tok) : joinM (t :: u :: r) = t.text ++ 32 :: joinM (u :: r) := by
  simp [joinM, Lib.join, List.intercalate]

theorem joinM_len (l : Bytes) (p : Nat) (r : List Tok) (h : Chain l p r) (hp : p ≤ l.length) : (joinM r).length ≤ 2 * (l.length - p) ∧ r.length ≤ l.length - p := by
  induction r generalizing p with
  | nil => simp [joinM_nil]
  | cons t r ih =>
    obtain ⟨h1, h2, h3, h4, h5⟩ := h
    obtain ⟨i1, i2⟩ := ih _ h5 h3
    cases r with
    | nil => rw [joinM_one]; constructor; omega; simp; omega
    | cons u r => rw [joinM_more, List.length_append, List.length_cons]; constructor; omega; rw [List.length_cons]; omega

def signTexts : List Bytes := signs2 ++ signs1.map (fun c => [c])
/-- A text that is a token of its kind. -/
def Good (K : Int) (T : Bytes) : Prop :=
  (T.all digitB = true ∧ T ≠ [] ∧ digM T = (K, 0)) ∨ (T.all ofNameB = true ∧ T ≠ [] ∧ digitB (T.headD 0) = false ∧ letM T = (K, 0)) ∨ (T ∈ signTexts ∧ K = 4)

theorem takeWhile_ok (f : UInt8 → Bool) (l : Bytes) : (l.takeWhile f).all f = true := by
  induction l with
  | nil => rfl
  | cons c r ih =>
    rw [List.takeWhile_cons]
    cases h : f c with
    | true => simp [h, ih]
    | false => rfl
theorem sign_text (l : Bytes) (h : signOf l ≠ []) : signOf l ∈ signTexts := by
  unfold signOf at *
  split
  · rename_i h2; unfold signTexts; exact List.mem_append_left _ (by simpa using h2)
  · rename_i h2; rw [if_neg h2] at h
    split
    · rename_i h3
      cases l with
      | nil => simp at h
      | cons c r =>
        unfold signTexts
        refine List.mem_append_right _ (List.mem_map.2 ⟨c, by simpa using h3, rfl⟩)
    · rename_i h3; rw [if_neg h3] at h; exact absurd rfl h
theorem one_good (c : UInt8) (r : Bytes) (h : (one (c :: r)).2.2 = 0) : Good (one (c :: r)).2.1 (one (c :: r)).1 := by
  have hp := one_pos c r h
  have hne : (one (c :: r)).1 ≠ [] := by intro e; rw [e] at hp; simp at hp
  by_cases h1 : digitB c = true
  · have e : one (c :: r) = ((c :: r).takeWhile digitB, digM ((c :: r).takeWhile digitB)) := by unfold one; rw [List.headD_cons, if_pos h1]
    rw [e] at h hne ⊢
    exact .inl ⟨takeWhile_ok _ _, hne, by simp only at h ⊢; rw [← h]⟩
  · by_cases h2 : ofNameB c = true
    · have e : one (c :: r) = ((c :: r).takeWhile ofNameB, letM ((c :: r).takeWhile ofNameB)) := by unfold one; rw [List.headD_cons, if_neg h1, if_pos h2]
      rw [e] at h hne ⊢
      refine .inr (.inl ⟨takeWhile_ok _ _, hne, ?_, by simp only at h ⊢; rw [← h]⟩)
      rw [List.takeWhile_cons, h2]; simpa using h1
    · have e : one (c :: r) = (signOf (c :: r), sigM (signOf (c :: r))) := by unfold one; rw [List.headD_cons, if_neg h1, if_neg h2]
      rw [e] at h hne ⊢
      exact .inr (.inr ⟨sign_text _ hne, sigM_kind _ h⟩)
theorem lexL_good (n : Nat) (l : Bytes) (p : Nat) (hn : l.length ≤ n) : ∀ t ∈ (lexL l p).toks, Good t.kind t.text := by
  induction n generalizing l p with
  | zero => rw [List.length_eq_zero_iff.1 (Nat.le_zero.1 hn), lexL_nil]; simp [Res.toks]
  | succ n ih =>
    cases l with
    | nil => rw [lexL_nil]; simp [Res.toks]
    | cons c d =>
      by_cases h0 : (one (c :: d)).2.2 = 0
      · have hpos := one_pos c d h0
        have hg := one_good c d h0
        rw [lexL_cons c d p h0]
        have hi := ih (((c :: d).drop (one (c :: d)).1.length).drop (skip false ((c :: d).drop (one (c :: d)).1.length))) (p + (one (c :: d)).1.length + skip false ((c :: d).drop (one (c :: d)).1.length)) (by simp only [List.length_drop, List.length_cons] at *; omega)
        revert hi
        generalize lexL _ _ = x
        intro hi
        cases x with
        | ok r =>
          intro t ht
          simp only [Res.cons, Res.toks, List.mem_cons] at ht
          rcases ht with rfl | ht
          · exact hg
          · exact hi t ht
        | bad a b => intro t ht; simp [Res.cons, Res.toks] at ht
      · rw [lexL_bad c d p h0]; simp [Res.toks]
theorem lexM_good (l : Bytes) (h : l.length ≤ 100000) : ∀ t ∈ (lexM l).toks, Good t.kind t.text := by
  rw [lexM_eq l (by omega)]; exact lexL_good _ _ _ (Nat.le_refl _)

/-- What may stand behind a token: nothing, or a blank. -/
def Tail (r : Bytes) : Prop := r = [] ∨ ∃ d, r = 32 :: d
theorem takeWhile_tail (f : UInt8 → Bool) (T r : Bytes) (h : T.all f = true) (h32 : f 32 = false) (hr : Tail r) : (T ++ r).takeWhile f = T := by
  rw [List.takeWhile_append_of_pos (by intro a ha; exact List.all_eq_true.1 h a ha)]
  rcases hr with rfl | ⟨d, rfl⟩
  · simp
  · rw [List.takeWhile_cons, h32]; simp
theorem sign_tail : ∀ T ∈ signTexts, ∀ r, Tail r → one (T ++ r) = (T, 4, 0) ∧ skip false (T ++ r) = 0 := by
  intro T hT r hr
  simp only [signTexts, signs2, signs1, List.map_cons, List.map_nil, List.cons_append, List.nil_append, List.mem_cons, List.not_mem_nil, or_false] at hT
  rcases hr with rfl | ⟨d, rfl⟩
  · rcases hT with rfl | rfl | rfl | rfl | rfl | rfl | rfl | rfl | rfl | rfl | rfl | rfl | rfl | rfl | rfl | rfl <;> exact ⟨rfl, rfl⟩
  · rcases hT with rfl | rfl | rfl | rfl | rfl | rfl | rfl | rfl | rfl | rfl | rfl | rfl | rfl | rfl | rfl | rfl <;> exact ⟨rfl, rfl⟩
theorem good_tail (K : Int) (T r : Bytes) (h : Good K T) (hr : Tail r) : one (T ++ r) = (T, K, 0) ∧ skip false (T ++ r) = 0 ∧ T ≠ [] := by
  rcases h with ⟨h1, h2, h3⟩ | ⟨h1, h2, h3, h4⟩ | ⟨h1, rfl⟩
  · cases T with
    | nil => exact absurd rfl h2
    | cons c d =>
      have hc : digitB c = true := by simp only [List.all_cons, Bool.and_eq_true] at h1; exact h1.1
      refine ⟨?_, skip_letter _ _ (by simp [ofNameB, hc]), h2⟩
      have e := takeWhile_tail digitB (c :: d) r h1 (by decide) hr
      unfold one
      rw [List.cons_append, List.headD_cons, if_pos hc, ← List.cons_append, e, h3]
  · cases T with
    | nil => exact absurd rfl h2
    | cons c d =>
      have hc : ofNameB c = true := by simp only [List.all_cons, Bool.and_eq_true] at h1; exact h1.1
      refine ⟨?_, skip_letter _ _ hc, h2⟩
      have e := takeWhile_tail ofNameB (c :: d) r h1 (by decide) hr
      rw [List.headD_cons] at h3
      unfold one
      rw [List.cons_append, List.headD_cons, if_neg (by rw [h3]; simp), if_pos hc, ← List.cons_append, e, h4]
  · have := sign_tail T h1 r hr
    refine ⟨this.1, this.2, ?_⟩
    rintro rfl
    simp [signTexts, signs2, signs1] at h1

/-- The same tokens, but for where they stand. -/
def Alike (a b : List Tok) : Prop := a.length = b.length ∧ ∀ (i : Nat) (t u : Tok), a[i]? = some t → b[i]? = some u → t.kind = u.kind ∧ t.text = u.text
theorem Alike.cons {a b : List Tok} {t u : Tok} (h : Alike a b) (hk : t.kind = u.kind) (ht : t.text = u.text) : Alike (t :: a) (u :: b) := by
  refine ⟨by simp [h.1], fun i x y hx hy => ?_⟩
  cases i with
  | zero => simp at hx hy; subst hx; subst hy; exact ⟨hk, ht⟩
  | succ i => simp at hx hy; exact h.2 i x y hx hy
theorem join_skip (L : List Tok) (h : ∀ t ∈ L, Good t.kind t.text) : skip false (joinM L) = 0 := by
  cases L with
  | nil => rfl
  | cons t r =>
    cases r with
    | nil => rw [joinM_one]; have := (good_tail t.kind t.text [] (h t (by simp)) (.inl rfl)).2.1; rwa [List.append_nil] at this
    | cons u r => rw [joinM_more]; exact (good_tail t.kind t.text _ (h t (by simp)) (.inr ⟨_, rfl⟩)).2.1
theorem join_back (L : List Tok) (p : Nat) (h : ∀ t ∈ L, Good t.kind t.text) : ∃ M, lexL (joinM L) p = .ok M ∧ Alike L M := by
  induction L generalizing p with
  | nil => exact ⟨[], rfl, rfl, fun i t u h => by simp at h⟩
  | cons t r ih =>
    have hg := h t (by simp)
    cases r with
    | nil =>
      rw [joinM_one]
      obtain ⟨h1, h2, h3⟩ := good_tail t.kind t.text [] hg (.inl rfl)
      rw [List.append_nil] at h1
      cases ht : t.text with
      | nil => exact absurd ht h3
      | cons c d =>
        rw [ht] at h1
        refine ⟨[⟨t.kind, c :: d, p⟩], ?_, Alike.cons ⟨rfl, fun i t u h => by simp at h⟩ rfl ht⟩
        rw [lexL_cons c d p (by rw [h1]), h1]
        simp only [List.drop_length]
        rw [show skip false [] = 0 from rfl, List.drop_zero, lexL_nil]; rfl
    | cons u r =>
      rw [joinM_more]
      obtain ⟨h1, h2, h3⟩ := good_tail t.kind t.text (32 :: joinM (u :: r)) hg (.inr ⟨_, rfl⟩)
      have hs := join_skip (u :: r) (fun x hx => h x (by simp at hx ⊢; exact .inr hx))
      cases ht : t.text with
      | nil => exact absurd ht h3
      | cons c d =>
        rw [ht] at h1
        rw [List.cons_append] at h1 ⊢
        rw [lexL_cons c _ p (by rw [h1]), h1]
        simp only
        rw [← List.cons_append, List.drop_left, skip_blank' _, hs, Nat.add_zero, List.drop_succ_cons, List.drop_zero]
        obtain ⟨M, hM, hA⟩ := ih (p + (c :: d).length + 1) (fun x hx => h x (by simp at hx ⊢; exact .inr hx))
        rw [hM]
        exact ⟨⟨t.kind, c :: d, p⟩ :: M, rfl, hA.cons rfl ht⟩
theorem back (l : Bytes) (h : l.length ≤ 1000) : (joinM (lexM l).toks).length ≤ 2000 ∧ (lexM l).toks.length ≤ 1000 ∧ ∃ M, lexM (joinM (lexM l).toks) = .ok M ∧ Alike (lexM l).toks M := by
  obtain ⟨h1, h2⟩ := joinM_len l 0 _ (lexM_chain l (by omega)).1 (Nat.zero_le _)
  have hg := lexM_good l (by omega)
  refine ⟨by omega, by omega, ?_⟩
  obtain ⟨M, hM, hA⟩ := join_back _ 0 hg
  exact ⟨M, by rw [lexM_eq _ (by omega), join_skip _ hg, List.drop_zero]; exact hM, hA⟩
end Go.Proofs.Ytgligmdkikbdoaa.Lx
