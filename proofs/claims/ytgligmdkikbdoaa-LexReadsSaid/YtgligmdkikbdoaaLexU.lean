/- Plain facts for the document's own answers of layer lex: the first sign that fits, numbers of digits, what is passed. Conditions: none. -/
import Derived.Test.YtgligmdkikbdoaaLexO
import Derived.Test.YtgligmdkikbdoaaLexQ
namespace Go.Proofs.Ytgligmdkikbdoaa.Lx

/-- Does a text begin with another one? -/
def fits_ (l x : Bytes) : Bool := decide (x.length ≤ l.length) && l.take x.length == x
theorem find_eq (L : List Bytes) (y : Bytes) : L.find? (fun x => y == x) = if L.contains y then some y else none := by
  induction L with
  | nil => rfl
  | cons a r ih =>
    rw [List.find?_cons, List.contains_cons]
    by_cases h : (y == a) = true
    · have : y = a := by simpa using h
      subst this; simp
    · have h' : (y == a) = false := by simpa using h
      rw [h', ih]; simp
theorem find_congr' {p q : Bytes → Bool} : ∀ {l : List Bytes}, (∀ x ∈ l, p x = q x) → l.find? p = l.find? q
  | [], _ => rfl
  | a :: l, h => by
    rw [List.find?_cons, List.find?_cons, h a (List.mem_cons_self ..), find_congr' fun x hx => h x (List.mem_cons_of_mem _ hx)]
theorem find_two (l : Bytes) : signs2.find? (fits_ l) = if signs2.contains (l.take 2) then some (l.take 2) else none := by
  rw [← find_eq]
  apply find_congr'
  intro x hx
  have h2 : x.length = 2 := (by decide : ∀ x ∈ signs2, x.length = 2) x hx
  unfold fits_
  rw [h2]
  by_cases h : l.take 2 = x
  · have : 2 ≤ l.length := by
      have := congrArg List.length h
      rw [List.length_take, h2] at this; omega
    simp [h, this]
  · have : (l.take 2 == x) = false := by simpa using h
    rw [this]; simp
theorem find_one (c : UInt8) (r : Bytes) (L : Bytes) : (L.map (fun x => [x])).find? (fits_ (c :: r)) = if L.contains c then some [c] else none := by
  induction L with
  | nil => rfl
  | cons a t ih =>
    rw [List.map_cons, List.find?_cons, ih, List.contains_cons]
    by_cases h : c = a
    · subst h; simp [fits_]
    · have h1 : fits_ (c :: r) [a] = false := by simp [fits_, h]
      have h2 : (c == a) = false := by simpa using h
      rw [h1, h2]; simp
theorem find_sign (l : Bytes) (h : l ≠ []) : signTexts.find? (fits_ l) = if signOf l = [] then none else some (signOf l) := by
  unfold signTexts
  rw [List.find?_append, find_two]
  unfold signOf
  by_cases h2 : signs2.contains (l.take 2) = true
  · rw [if_pos h2, if_pos h2]
    have : l.take 2 ≠ [] := by intro e; rw [e] at h2; simp [signs2] at h2
    rw [if_neg this]; rfl
  · rw [if_neg h2, if_neg h2]
    cases l with
    | nil => exact absurd rfl h
    | cons c r =>
      rw [find_one, List.headD_cons]
      by_cases h3 : signs1.contains c = true
      · rw [if_pos h3, if_pos h3]; simp
      · rw [if_neg h3, if_neg h3]; simp
theorem find_hit {L : List Bytes} {p : Bytes → Bool} {k : Nat} {x : Bytes} (h : (L.take k).find? p = none) (hx : L[k]? = some x) (hp : p x = true) : L.find? p = some x := by
  rw [← List.take_append_drop k L, List.find?_append, h]
  have : L.drop k = x :: L.drop (k + 1) := by
    obtain ⟨h1, h2⟩ := List.getElem?_eq_some_iff.1 hx
    rw [List.drop_eq_getElem_cons h1, h2]
  rw [this, List.find?_cons, hp]; rfl
theorem find_next {L : List Bytes} {p : Bytes → Bool} {k : Nat} {x : Bytes} (h : (L.take k).find? p = none) (hx : L[k]? = some x) (hp : p x = false) : (L.take (k + 1)).find? p = none := by
  rw [List.take_add_one, hx, List.find?_append, h]
  simp [hp]

/-- The number that a row of digits tells. -/
def val (l : Bytes) : Nat := l.foldl (fun n c => 10 * n + (c.toNat - 48)) 0
theorem val_snoc (l : Bytes) (c : UInt8) : val (l ++ [c]) = 10 * val l + (c.toNat - 48) := by simp [val, List.foldl_append]
theorem foldl_val (l : Bytes) (n : Nat) : l.foldl (fun n c => 10 * n + (c.toNat - 48)) n = n * 10 ^ l.length + val l := by
  induction l generalizing n with
  | nil => simp [val]
  | cons c r ih =>
    have h1 := ih (10 * n + (c.toNat - 48))
    have h2 := ih (10 * 0 + (c.toNat - 48))
    unfold val
    rw [List.foldl_cons, List.foldl_cons, h1, h2, List.length_cons, Nat.pow_succ]
    rw [Nat.add_mul, Nat.mul_zero, Nat.zero_add, Nat.mul_comm 10 n, Nat.mul_assoc, Nat.mul_comm 10 (10 ^ r.length), Nat.add_assoc]
theorem val_cons (c : UInt8) (r : Bytes) : val (c :: r) = (c.toNat - 48) * 10 ^ r.length + val r := by
  show (r.foldl _ _) = _
  rw [foldl_val]; simp
theorem digit_bd (c : UInt8) (h : digitB c = true) : 48 ≤ c.toNat ∧ c.toNat ≤ 57 := by
  simp only [digitB, Bool.and_eq_true, decide_eq_true_eq, UInt8.le_iff_toNat_le] at h
  exact h
theorem val_lt (l : Bytes) (h : l.all digitB = true) : val l < 10 ^ l.length := by
  induction l with
  | nil => simp [val]
  | cons c r ih =>
    simp only [List.all_cons, Bool.and_eq_true] at h
    obtain ⟨h1, h2⟩ := digit_bd c h.1
    have := ih h.2
    rw [val_cons, List.length_cons, Nat.pow_succ]
    have h3 : (c.toNat - 48) * 10 ^ r.length ≤ 9 * 10 ^ r.length := Nat.mul_le_mul_right _ (by omega)
    omega
theorem val_ge (c : UInt8) (r : Bytes) (h : digitB c = true) (h0 : c ≠ 48) : 10 ^ r.length ≤ val (c :: r) := by
  obtain ⟨h1, h2⟩ := digit_bd c h
  have : c.toNat ≠ 48 := by intro e; apply h0; rw [← UInt8.toNat_inj]; exact e
  rw [val_cons]
  have h3 : 1 * 10 ^ r.length ≤ (c.toNat - 48) * 10 ^ r.length := Nat.mul_le_mul_right _ (by omega)
  omega
theorem less_val (a b : Bytes) (h : a.length = b.length) (ha : a.all digitB = true) (hb : b.all digitB = true) : Op.bytesLess a b = decide (val a < val b) := by
  induction a generalizing b with
  | nil => cases b with
    | nil => simp [Op.bytesLess, val]
    | cons => simp at h
  | cons c x ih =>
    cases b with
    | nil => simp at h
    | cons d y =>
      simp only [List.length_cons, Nat.add_right_cancel_iff] at h
      simp only [List.all_cons, Bool.and_eq_true] at ha hb
      have i := ih y h ha.2 hb.2
      have hx := val_lt x ha.2
      have hy := val_lt y hb.2
      obtain ⟨c1, c2⟩ := digit_bd c ha.1
      obtain ⟨d1, d2⟩ := digit_bd d hb.1
      rw [val_cons, val_cons, h]
      rw [h] at hx
      simp only [Op.bytesLess, i]
      generalize 10 ^ y.length = P at hx hy
      have hcd : (c < d) ↔ c.toNat < d.toNat := UInt8.lt_iff_toNat_lt
      have hce : (c == d) = decide (c.toNat = d.toNat) := by rw [Bool.eq_iff_iff]; simp [UInt8.toNat_inj]
      rw [hce, Bool.eq_iff_iff]
      simp only [Bool.or_eq_true, Bool.and_eq_true, decide_eq_true_eq, hcd]
      rcases Nat.lt_trichotomy c.toNat d.toNat with hlt | heq | hgt
      · have : (c.toNat - 48 + 1) * P ≤ (d.toNat - 48) * P := Nat.mul_le_mul_right _ (by omega)
        rw [Nat.add_mul] at this
        constructor
        · intro _; omega
        · intro _; exact .inl hlt
      · rw [heq]; constructor
        · rintro (h1 | h1)
          · omega
          · have := h1.2; omega
        · intro h1; exact .inr ⟨rfl, by omega⟩
      · have : (d.toNat - 48 + 1) * P ≤ (c.toNat - 48) * P := Nat.mul_le_mul_right _ (by omega)
        rw [Nat.add_mul] at this
        constructor
        · rintro (h1 | h1) <;> omega
        · intro h1; omega
theorem val_inj (a b : Bytes) (h : a.length = b.length) (ha : a.all digitB = true) (hb : b.all digitB = true) (hv : val a = val b) : a = b := by
  induction a generalizing b with
  | nil => cases b with
    | nil => rfl
    | cons => simp at h
  | cons c x ih =>
    cases b with
    | nil => simp at h
    | cons d y =>
      simp only [List.length_cons, Nat.add_right_cancel_iff] at h
      simp only [List.all_cons, Bool.and_eq_true] at ha hb
      have hx := val_lt x ha.2
      have hy := val_lt y hb.2
      obtain ⟨c1, c2⟩ := digit_bd c ha.1
      obtain ⟨d1, d2⟩ := digit_bd d hb.1
      rw [val_cons, val_cons, h] at hv
      rw [h] at hx
      have hcd : c.toNat = d.toNat := by
        generalize 10 ^ y.length = P at *
        rcases Nat.lt_trichotomy c.toNat d.toNat with hlt | heq | hgt
        · have : (c.toNat - 48 + 1) * P ≤ (d.toNat - 48) * P := Nat.mul_le_mul_right _ (by omega)
          rw [Nat.add_mul] at this; omega
        · exact heq
        · have : (d.toNat - 48 + 1) * P ≤ (c.toNat - 48) * P := Nat.mul_le_mul_right _ (by omega)
          rw [Nat.add_mul] at this; omega
      rw [hcd] at hv
      rw [UInt8.toNat_inj.1 hcd, ih y h ha.2 hb.2 (by omega)]

theorem val_greatest : val greatest = 2147483647 := by decide +kernel
/-- A row of digits is over just if its number is, or it begins with a 0 that is not alone. -/
theorem digM_val (l : Bytes) (h : l.all digitB = true) (hp : l ≠ []) : digM l = if (1 < l.length ∧ l.headD 0 = 48) ∨ 2147483647 < val l then (0, 2) else (2, 0) := by
  cases l with
  | nil => exact absurd rfl hp
  | cons c r =>
    have hh := h
    simp only [List.all_cons, Bool.and_eq_true] at hh
    unfold digM
    rw [List.headD_cons]
    by_cases h0 : 1 < (c :: r).length ∧ c = 48
    · rw [if_pos (.inl h0), if_pos (.inl h0)]
    · have hv : 1 < (c :: r).length → 10 ^ r.length ≤ val (c :: r) := fun h1 => val_ge c r hh.1 (fun e => h0 ⟨h1, e⟩)
      have hlt := val_lt _ h
      by_cases h10 : 10 < (c :: r).length
      · have h1 := hv (by omega)
        have h2 : 10 ^ 10 ≤ 10 ^ r.length := Nat.pow_le_pow_right (by omega) (by simp at h10; omega)
        rw [if_pos (.inr h10), if_pos (.inr (by omega))]
      · rw [if_neg (fun e => e.elim h0 h10)]
        by_cases he : (c :: r).length = 10
        · have hl := less_val (c :: r) greatest he h (by decide)
          have hg : gtB (c :: r) = decide (2147483647 < val (c :: r)) := by
            unfold gtB
            rw [hl, val_greatest]
            by_cases hq : (c :: r) = greatest
            · rw [hq, val_greatest]; decide
            · have hq' : ((c :: r) == greatest) = false := by simpa using hq
              have hne : val (c :: r) ≠ 2147483647 := by
                intro e
                apply hq
                exact val_inj _ _ he h (by decide) (by rw [e, val_greatest])
              rw [hq', Bool.or_false, Bool.eq_iff_iff]
              simp; omega
          rw [hg]
          by_cases hb : 2147483647 < val (c :: r)
          · rw [if_pos ⟨he, by simpa using hb⟩, if_pos (.inr hb)]
          · rw [if_neg (by simp [hb]), if_neg (fun e => e.elim h0 hb)]
        · have h3 : 10 ^ (c :: r).length ≤ 10 ^ 9 := Nat.pow_le_pow_right (by omega) (by omega)
          rw [if_neg (fun e => he e.1), if_neg (fun e => e.elim h0 (by omega))]
def letterB (c : UInt8) : Bool := 97 ≤ c && c ≤ 122 || c == 95
theorem ofName_eq (c : UInt8) : ofNameB c = (letterB c || digitB c) := rfl
theorem letter_no_digit (c : UInt8) (h : letterB c = true) : digitB c = false := by
  cases hd : digitB c with
  | false => rfl
  | true =>
    obtain ⟨h1, h2⟩ := digit_bd c hd
    simp only [letterB, Bool.or_eq_true, Bool.and_eq_true, decide_eq_true_eq, UInt8.le_iff_toNat_le, beq_iff_eq] at h
    rcases h with h | rfl
    · have : (97 : UInt8).toNat = 97 := rfl
      omega
    · simp at h1 h2

/-- Lexing from a place on: blanks, remarks, tokens. -/
theorem lexS_blank (c : UInt8) (r : Bytes) (p : Nat) (h : blankB c = true) : lexS (c :: r) p = lexS r (p + 1) := by
  unfold lexS
  rw [skip_fb c r h, Nat.add_comm 1, List.drop_succ_cons, show p + (skip false r + 1) = p + 1 + skip false r from by omega]
theorem lexS_nil (p : Nat) : lexS [] p = .ok [] := rfl
/-- How many bytes there are up to the line's end. -/
def upto : Bytes → Nat
  | [] => 0
  | c :: r => if c = 10 then 0 else 1 + upto r
theorem skip_upto (l : Bytes) : skip true l = upto l + skip false (l.drop (upto l)) := by
  induction l with
  | nil => rfl
  | cons c r ih =>
    by_cases h : c = 10
    · subst h; simp [skip, upto, blankB]
    · rw [skip_to c r h, ih]
      simp only [upto, if_neg h]
      rw [Nat.add_comm 1 (upto r), List.drop_succ_cons]; omega
theorem lexS_remark (r : Bytes) (p : Nat) : lexS (45 :: 45 :: r) p = lexS ((45 :: 45 :: r).drop (upto (45 :: 45 :: r))) (p + upto (45 :: 45 :: r)) := by
  have e : skip false (45 :: 45 :: r) = skip true (45 :: 45 :: r) := by
    rw [skip_fr 45 _ (by decide) ⟨rfl, rfl⟩, skip_to 45 (45 :: r) (by decide)]
  unfold lexS
  rw [e, skip_upto, ← List.drop_drop, Nat.add_assoc]
theorem lexS_bad (c : UInt8) (r : Bytes) (p : Nat) (hb : ¬ blankB c = true) (hr : ¬ (c = 45 ∧ r.head? = some 45)) (h : (one (c :: r)).2.2 ≠ 0) : lexS (c :: r) p = .bad (one (c :: r)).2.2 p := by
  unfold lexS; rw [skip_fs c r hb hr, List.drop_zero, Nat.add_zero, lexL_bad c r p h]
theorem lexS_cons (c : UInt8) (r : Bytes) (p : Nat) (hb : ¬ blankB c = true) (hr : ¬ (c = 45 ∧ r.head? = some 45)) (h : (one (c :: r)).2.2 = 0) :
    lexS (c :: r) p = Res.cons ⟨(one (c :: r)).2.1, (one (c :: r)).1, p⟩ (lexS ((c :: r).drop (one (c :: r)).1.length) (p + (one (c :: r)).1.length)) := by
  unfold lexS; rw [skip_fs c r hb hr, List.drop_zero, Nat.add_zero, lexL_cons c r p h]
end Go.Proofs.Ytgligmdkikbdoaa.Lx
