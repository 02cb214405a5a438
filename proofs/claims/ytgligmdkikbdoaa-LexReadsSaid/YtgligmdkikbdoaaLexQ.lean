/- Plain facts: the tokens of two texts with a line's end between them; tokens that are shifted; blanks. Conditions: none. -/
import Derived.Test.YtgligmdkikbdoaaLexN
namespace Go.Proofs.Ytgligmdkikbdoaa.Lx

/-- The tokens of a text, what is passed ahead of them too, from a place on. -/
def lexS (l : Bytes) (p : Nat) : Res := lexL (l.drop (skip false l)) (p + skip false l)
theorem lexM_S (l : Bytes) (h : l.length ≤ 100000) : lexM l = lexS l 0 := by rw [lexM_eq l (by omega)]; unfold lexS; rw [Nat.zero_add]

def Tok.shift (k : Nat) (t : Tok) : Tok := ⟨t.kind, t.text, t.at_ + k⟩
def Res.shift (k : Nat) : Res → Res
  | .ok l => .ok (l.map (Tok.shift k))
  | .bad c a => .bad c (a + k)
theorem lexL_shift (n : Nat) (l : Bytes) (p k : Nat) (hn : l.length ≤ n) : lexL l (p + k) = Res.shift k (lexL l p) := by
  induction n generalizing l p with
  | zero => rw [List.length_eq_zero_iff.1 (Nat.le_zero.1 hn), lexL_nil, lexL_nil]; rfl
  | succ n ih =>
    cases l with
    | nil => rw [lexL_nil, lexL_nil]; rfl
    | cons c d =>
      by_cases h0 : (one (c :: d)).2.2 = 0
      · have hpos := one_pos c d h0
        rw [lexL_cons c d _ h0, lexL_cons c d p h0]
        have hi := ih (((c :: d).drop (one (c :: d)).1.length).drop (skip false ((c :: d).drop (one (c :: d)).1.length))) (p + (one (c :: d)).1.length + skip false ((c :: d).drop (one (c :: d)).1.length)) (by simp only [List.length_drop, List.length_cons] at *; omega)
        rw [show p + k + (one (c :: d)).1.length + skip false ((c :: d).drop (one (c :: d)).1.length) = p + (one (c :: d)).1.length + skip false ((c :: d).drop (one (c :: d)).1.length) + k from by omega, hi]
        generalize lexL _ _ = x
        cases x <;> rfl
      · rw [lexL_bad c d _ h0, lexL_bad c d p h0]; simp [Res.shift]
theorem lexS_shift (l : Bytes) (p k : Nat) : lexS l (p + k) = Res.shift k (lexS l p) := by
  unfold lexS
  rw [show p + k + skip false l = p + skip false l + k from by omega]
  exact lexL_shift _ _ _ _ (Nat.le_refl _)

theorem skip_fb (c : UInt8) (r : Bytes) (h : blankB c = true) : skip false (c :: r) = 1 + skip false r := by simp [skip, h]
theorem skip_fr (c : UInt8) (r : Bytes) (h : ¬ blankB c = true) (h2 : c = 45 ∧ r.head? = some 45) : skip false (c :: r) = 1 + skip true r := by simp only [skip]; rw [if_neg h, if_pos h2]
theorem skip_fs (c : UInt8) (r : Bytes) (h : ¬ blankB c = true) (h2 : ¬ (c = 45 ∧ r.head? = some 45)) : skip false (c :: r) = 0 := by simp only [skip]; rw [if_neg h, if_neg h2]
theorem skip_tn (c : UInt8) (r : Bytes) (h : c = 10) : skip true (c :: r) = 1 + skip false r := by simp only [skip]; rw [if_pos h]
theorem skip_to (c : UInt8) (r : Bytes) (h : ¬ c = 10) : skip true (c :: r) = 1 + skip true r := by simp only [skip]; rw [if_neg h]
theorem skip_line (m : Bool) (a b : Bytes) : (skip m a = a.length → skip m (a ++ 10 :: b) = a.length + 1 + skip false b) ∧ (skip m a ≠ a.length → skip m (a ++ 10 :: b) = skip m a) := by
  induction a generalizing m with
  | nil => cases m <;> simp [skip, blankB]
  | cons c r ih =>
    have step : ∀ (m m' : Bool), skip m (c :: r) = 1 + skip m' r → skip m (c :: r ++ 10 :: b) = 1 + skip m' (r ++ 10 :: b) →
        (skip m (c :: r) = (c :: r).length → skip m (c :: r ++ 10 :: b) = (c :: r).length + 1 + skip false b) ∧ (skip m (c :: r) ≠ (c :: r).length → skip m (c :: r ++ 10 :: b) = skip m (c :: r)) := by
      intro m m' h1 h2
      rw [h1, h2, List.length_cons]
      exact ⟨fun h => by rw [(ih m').1 (by omega)]; omega, fun h => by rw [(ih m').2 (by omega)]⟩
    cases m
    · by_cases hb : blankB c = true
      · exact step false false (skip_fb _ _ hb) (skip_fb _ _ hb)
      · have hh : (r ++ 10 :: b).head? = some 45 ↔ r.head? = some 45 := by cases r <;> simp
        by_cases h2 : c = 45 ∧ r.head? = some 45
        · exact step false true (skip_fr _ _ hb h2) (skip_fr _ _ hb ⟨h2.1, hh.2 h2.2⟩)
        · have e1 := skip_fs c r hb h2
          have e2 := skip_fs c (r ++ 10 :: b) hb (fun h => h2 ⟨h.1, hh.1 h.2⟩)
          exact ⟨fun h => by rw [e1] at h; simp at h, fun _ => by rw [e1]; exact e2⟩
    · by_cases hc : c = 10
      · exact step true false (skip_tn _ _ hc) (skip_tn _ _ hc)
      · exact step true true (skip_to _ _ hc) (skip_to _ _ hc)

theorem takeWhile_line (f : UInt8 → Bool) (h10 : f 10 = false) (a b : Bytes) : (a ++ 10 :: b).takeWhile f = a.takeWhile f := by
  induction a with
  | nil => simp [h10]
  | cons c r ih =>
    rw [List.cons_append, List.takeWhile_cons, List.takeWhile_cons, ih]
theorem sign_line (c : UInt8) (r b : Bytes) : signOf (c :: r ++ 10 :: b) = signOf (c :: r) := by
  cases r with
  | nil =>
    have h1 : signs2.contains ((c :: [] ++ 10 :: b).take 2) = false := by
      show signs2.contains [c, 10] = false
      simp [signs2]
    have h2 : signs2.contains ((c :: ([] : Bytes)).take 2) = false := by
      show signs2.contains [c] = false
      simp [signs2]
    unfold signOf; rw [h1, h2]; simp
  | cons d r =>
    unfold signOf; simp
theorem one_line (c : UInt8) (r b : Bytes) : one (c :: r ++ 10 :: b) = one (c :: r) := by
  unfold one
  rw [takeWhile_line digitB (by decide), takeWhile_line ofNameB (by decide), sign_line]; rfl

def Res.then (r : Res) (x : Res) : Res := match r with | .ok l => Res.glue l x | .bad c a => .bad c a
theorem Res.cons_then (t : Tok) (r x : Res) : (Res.cons t r).then x = Res.cons t (r.then x) := by
  cases r <;> cases x <;> rfl

theorem lex_line (n : Nat) (a b : Bytes) (p : Nat) (hn : a.length ≤ n) : lexS (a ++ 10 :: b) p = (lexS a p).then (lexS b (p + a.length + 1)) := by
  induction n generalizing a p with
  | zero =>
    rw [List.length_eq_zero_iff.1 (Nat.le_zero.1 hn)]
    show lexL _ _ = Res.glue [] _
    rw [List.nil_append, show skip false (10 :: b) = 1 + skip false b from by simp [skip, blankB]]
    unfold lexS
    rw [List.length_nil, Nat.add_zero, Nat.add_comm 1, List.drop_succ_cons, show p + (skip false b + 1) = p + 1 + skip false b from by omega]
    generalize lexL _ _ = x
    cases x <;> rfl
  | succ n ih =>
    have hs := skip_line false a b
    have hk := skipF_le false a
    by_cases h : skip false a = a.length
    · have hs := hs.1 h
      have e1 : lexS a p = .ok [] := by unfold lexS; rw [h, List.drop_length, lexL_nil]
      rw [e1]
      unfold lexS
      rw [hs]
      have e2 : (a ++ 10 :: b).drop (a.length + 1 + skip false b) = b.drop (skip false b) := by
        rw [List.drop_append, List.drop_eq_nil_of_le (by omega), List.nil_append, show a.length + 1 + skip false b - a.length = skip false b + 1 from by omega, List.drop_succ_cons]
      rw [e2, show p + (a.length + 1 + skip false b) = p + a.length + 1 + skip false b from by omega]
      generalize lexL _ _ = x
      cases x <;> rfl
    · have hs := hs.2 h
      have hlt : skip false a < a.length := by omega
      have ed : a.drop (skip false a) ≠ [] := by
        intro e; have := congrArg List.length e
        rw [List.length_drop] at this; simp at this; omega
      obtain ⟨c, d, hcd⟩ := List.exists_cons_of_ne_nil ed
      have hcl : (c :: d).length = a.length - skip false a := by rw [← hcd, List.length_drop]
      unfold lexS
      rw [hs, List.drop_append_of_le_length (by omega), hcd]
      by_cases h0 : (one (c :: d)).2.2 = 0
      · have hpos := one_pos c d h0
        have hle := one_le (c :: d)
        rw [lexL_cons c d _ h0, Res.cons_then, List.cons_append, lexL_cons c _ _ (by rw [← List.cons_append, one_line]; exact h0), ← List.cons_append, one_line]
        congr 1
        have e3 : (c :: d ++ 10 :: b).drop (one (c :: d)).1.length = (c :: d).drop (one (c :: d)).1.length ++ 10 :: b := List.drop_append_of_le_length hle
        rw [e3]
        have hi := ih ((c :: d).drop (one (c :: d)).1.length) (p + skip false a + (one (c :: d)).1.length) (by rw [List.length_drop, hcl]; omega)
        unfold lexS at hi
        rw [hi, show p + skip false a + (one (c :: d)).1.length + ((c :: d).drop (one (c :: d)).1.length).length + 1 = p + a.length + 1 from by rw [List.length_drop, hcl]; omega]
      · rw [lexL_bad c d _ h0, List.cons_append, lexL_bad c _ _ (by rw [← List.cons_append, one_line]; exact h0), ← List.cons_append, one_line]; rfl

theorem skip_blanks (x l : Bytes) (h : x.all blankB = true) : skip false (x ++ l) = x.length + skip false l := by
  induction x with
  | nil => simp
  | cons c r ih =>
    simp only [List.all_cons, Bool.and_eq_true] at h
    simp only [List.cons_append, skip, if_pos h.1, ih h.2, List.length_cons]; omega
theorem lexS_blanks (x l : Bytes) (p : Nat) (h : x.all blankB = true) : lexS (x ++ l) p = lexS l (p + x.length) := by
  unfold lexS
  rw [skip_blanks x l h, List.drop_append, List.drop_eq_nil_of_le (by omega), List.nil_append, show x.length + skip false l - x.length = skip false l from by omega, ← Nat.add_assoc]
theorem lexS_only (x : Bytes) (p : Nat) (h : x.all blankB = true) : lexS x p = .ok [] := by
  have := lexS_blanks x [] p h
  rw [List.append_nil] at this
  rw [this]; rfl
theorem lexL_code (n : Nat) (l : Bytes) (p : Nat) (hn : l.length ≤ n) (c a : Int) (h : lexL l p = .bad c a) : c ≠ 0 := by
  induction n generalizing l p with
  | zero => rw [List.length_eq_zero_iff.1 (Nat.le_zero.1 hn), lexL_nil] at h; cases h
  | succ n ih =>
    cases l with
    | nil => rw [lexL_nil] at h; cases h
    | cons x d =>
      by_cases h0 : (one (x :: d)).2.2 = 0
      · have hpos := one_pos x d h0
        have hi := ih (((x :: d).drop (one (x :: d)).1.length).drop (skip false ((x :: d).drop (one (x :: d)).1.length))) (p + (one (x :: d)).1.length + skip false ((x :: d).drop (one (x :: d)).1.length)) (by simp only [List.length_drop, List.length_cons] at *; omega)
        rw [lexL_cons x d p h0] at h
        revert hi h
        generalize lexL _ _ = r
        intro h hi
        cases r with
        | ok l => cases h
        | bad c' a' => cases h; exact hi rfl
      · rw [lexL_bad x d p h0] at h; cases h; exact h0
theorem lexM_code (l : Bytes) (h : l.length ≤ 100000) (c a : Int) (he : lexM l = .bad c a) : c ≠ 0 ∧ 0 ≤ a ∧ a < l.length := by
  have hc : c ≠ 0 := lexL_code _ _ _ (Nat.le_refl _) c a (by rw [← lexM_eq l (by omega)]; exact he)
  have := (lexM_chain l h).2
  rw [he] at this
  exact ⟨hc, this hc⟩
theorem chain_at {l : Bytes} {p : Nat} {r : List Tok} (h : Chain l p r) (i : Nat) (t : Tok) (ht : r[i]? = some t) : t.at_ ≤ l.length := by
  induction r generalizing p i with
  | nil => simp at ht
  | cons u r ih =>
    cases i with
    | zero => simp at ht; subst ht; have := h.2.2.1; omega
    | succ i => simp at ht; exact ih h.2.2.2.2 i ht
theorem chain_len {l : Bytes} {p : Nat} {r : List Tok} (h : Chain l p r) (hp : p ≤ l.length) : r.length ≤ l.length - p := by
  induction r generalizing p with
  | nil => simp
  | cons u r ih =>
    obtain ⟨h1, h2, h3, h4, h5⟩ := h
    have := ih h5 h3
    rw [List.length_cons]; omega
/-- Of two texts. -/
theorem lines (a b : Bytes) (h : (a ++ 10 :: b).length ≤ 100000) : lexM (a ++ 10 :: b) = (lexM a).then (Res.shift (a.length + 1) (lexM b)) := by
  have h' := h
  rw [List.length_append, List.length_cons] at h'
  rw [lexM_S _ h, lexM_S a (by omega), lexM_S b (by omega), lex_line _ a b 0 (Nat.le_refl _), ← lexS_shift, Nat.add_assoc]
/-- Blanks ahead and behind. -/
theorem blanks (x s y : Bytes) (hx : x.all blankB = true) (hy : y.all blankB = true) (h : (x ++ s ++ 10 :: y).length ≤ 100000) : lexM (x ++ s ++ 10 :: y) = Res.shift x.length (lexM s) := by
  have h' := h
  simp only [List.length_append, List.length_cons] at h'
  rw [lexM_S _ h, lexM_S s (by omega), List.append_assoc, lexS_blanks x _ 0 hx, lex_line _ s y _ (Nat.le_refl _), lexS_only y _ hy, lexS_shift]
  cases lexS s 0 <;> simp [Res.shift, Res.then, Res.glue]
end Go.Proofs.Ytgligmdkikbdoaa.Lx
