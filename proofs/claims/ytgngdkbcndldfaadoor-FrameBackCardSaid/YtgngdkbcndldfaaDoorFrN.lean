import Derived.Test.YtgngdkbcndldfaaDoorFrM
set_option linter.unusedVariables false
set_option linter.unusedSimpArgs false
set_option linter.unnecessarySimpa false
namespace Go.Proofs.YtgngdkbcndldfaaDoor.Fr
open Go.Lib

/- Numbers as words. -/
def fitsM (n : Int) : Bool := decide (-2147483648 ≤ n ∧ n ≤ 2147483647)
theorem fitsM_iff (n : Int) : fitsM n = true ↔ -2147483648 ≤ n ∧ n ≤ 2147483647 := by unfold fitsM; simp

def intM (w : Bs) : Option Int :=
  match atoiAll w with
  | .ok n => if fitsM n = true ∧ itoa n = w then some n else none
  | _ => none

theorem dig_byte (d : Nat) (h : d < 10) : (UInt8.ofNat (48 + d)).toNat = 48 + d := by
  rw [UInt8.toNat_ofNat']; omega

theorem parse_dec : ∀ (u acc : Nat) (rest : Bs), acc * 10 ^ nDigits u + u < 1844674407370955162 →
    parseUint10 acc (decDigits u ++ rest) = parseUint10 (acc * 10 ^ nDigits u + u) rest := by
  intro u
  induction u using Nat.strongRecOn with
  | _ u ih =>
    intro acc rest h
    by_cases hu : u < 10
    · rw [decDigits_one hu, nDigits_small hu] at *
      have hb := dig_byte u hu
      simp only [List.cons_append, List.nil_append, parseUint10, hb]
      rw [if_pos (by omega), if_neg (by omega), if_neg (by omega)]
      congr 1
      omega
    · rw [nDigits_big hu, Nat.pow_succ] at *
      have hm : 1 ≤ 10 ^ nDigits (u / 10) := Nat.one_le_pow _ _ (by decide)
      have e : acc * (10 ^ nDigits (u / 10) * 10) = (acc * 10 ^ nDigits (u / 10)) * 10 := by rw [Nat.mul_assoc]
      rw [e] at h ⊢
      rw [decDigits, dif_neg hu, List.append_assoc, ih (u / 10) (by omega) acc _ (by omega)]
      have hb := dig_byte (u % 10) (by omega)
      simp only [List.cons_append, List.nil_append, parseUint10, hb]
      rw [if_pos (by omega), if_neg (by omega), if_neg (by omega)]
      congr 1
      omega

theorem dec_head (u : Nat) : ∃ c r, decDigits u = c :: r ∧ 48 ≤ c.toNat ∧ c.toNat ≤ 57 := by
  induction u using Nat.strongRecOn with
  | _ u ih =>
    by_cases hu : u < 10
    · exact ⟨_, [], decDigits_one hu, by rw [dig_byte u hu]; omega, by rw [dig_byte u hu]; omega⟩
    · obtain ⟨c, r, e, h1, h2⟩ := ih (u / 10) (by omega)
      refine ⟨c, r ++ [UInt8.ofNat (48 + u % 10)], ?_, h1, h2⟩
      rw [decDigits, dif_neg hu, e]
      rfl

theorem dec_ne (u : Nat) : decDigits u ≠ [] := by
  obtain ⟨c, r, e, _⟩ := dec_head u
  rw [e]; simp

theorem mag_dec (u : Nat) (h : u < 1844674407370955162) : parseMag (decDigits u) = .ok u := by
  unfold parseMag
  rw [if_neg (dec_ne u)]
  have := parse_dec u 0 [] (by omega)
  simpa [parseUint10] using this

theorem atoi_itoa (n : Int) (h : fitsM n = true) : atoiAll (itoa n) = .ok n := by
  rw [fitsM_iff] at h
  unfold itoa
  by_cases hn : n < 0
  · rw [if_pos hn]
    unfold atoiAll
    simp only [show (45 : UInt8).toNat = 45 from rfl, or_true, if_true, true_and, not_true, false_and, if_false]
    rw [mag_dec n.natAbs (by omega)]
    simp only
    rw [if_neg (by omega)]
    congr 1
    omega
  · rw [if_neg hn]
    obtain ⟨c, r, e, h1, h2⟩ := dec_head n.toNat
    have hm := mag_dec n.toNat (by omega)
    rw [e] at hm ⊢
    unfold atoiAll
    simp only
    rw [if_neg (show ¬ (c.toNat = 43 ∨ c.toNat = 45) by omega), hm]
    simp only
    rw [if_neg (by omega), if_neg (by omega), if_neg (by omega)]
    congr 1
    omega

theorem intM_iff (w : Bs) (n : Int) : intM w = some n ↔ fitsM n = true ∧ itoa n = w := by
  constructor
  · intro h
    unfold intM at h
    split at h
    · split at h
      · rename_i h1; cases h; exact h1
      · cases h
    · cases h
  · rintro ⟨h1, rfl⟩
    unfold intM
    rw [atoi_itoa n h1]
    simp [h1]

/- The document's way to a number. -/
def digitsM : Nat → Bs → Int
  | n, [] => n
  | n, c :: r => if 48 ≤ c.toNat ∧ c.toNat ≤ 57 then digitsM (10 * n + (c.toNat - 48)) r else -1
def sizeM (w : Bs) : Int := if w = [] ∨ 10 < w.length ∨ (w.head? = some 48 ∧ 1 < w.length) then -1 else digitsM 0 w
def intD (w : Bs) : Int × Bool :=
  if w.head? = some 45 then (-(sizeM w.tail), decide (0 < sizeM w.tail) && fitsM (-(sizeM w.tail))) else (sizeM w, decide (0 ≤ sizeM w) && fitsM (sizeM w))

theorem digitsM_dec : ∀ (u acc : Nat) (rest : Bs), digitsM acc (decDigits u ++ rest) = digitsM (acc * 10 ^ nDigits u + u) rest := by
  intro u
  induction u using Nat.strongRecOn with
  | _ u ih =>
    intro acc rest
    by_cases hu : u < 10
    · rw [decDigits_one hu, nDigits_small hu]
      have hb := dig_byte u hu
      simp only [List.cons_append, List.nil_append, digitsM, hb]
      rw [if_pos (by omega)]
      congr 1
      omega
    · rw [nDigits_big hu, Nat.pow_succ]
      have e : acc * (10 ^ nDigits (u / 10) * 10) = (acc * 10 ^ nDigits (u / 10)) * 10 := by rw [Nat.mul_assoc]
      rw [e, decDigits, dif_neg hu, List.append_assoc, ih (u / 10) (by omega) acc _]
      have hb := dig_byte (u % 10) (by omega)
      simp only [List.cons_append, List.nil_append, digitsM, hb]
      rw [if_pos (by omega)]
      congr 1
      omega

theorem digitsM_snoc : ∀ (w : Bs) (acc : Nat) (c : UInt8), digitsM acc (w ++ [c]) = if 0 ≤ digitsM acc w ∧ 48 ≤ c.toNat ∧ c.toNat ≤ 57 then 10 * digitsM acc w + (c.toNat - 48 : Nat) else -1
  | [], acc, c => by
    have e : digitsM acc ([] : Bs) = (acc : Int) := rfl
    rw [e, List.nil_append]
    simp only [digitsM]
    by_cases h : 48 ≤ c.toNat ∧ c.toNat ≤ 57
    · rw [if_pos h, if_pos ⟨by omega, h⟩]; push_cast; omega
    · rw [if_neg h, if_neg (fun x => h x.2)]
  | b :: w, acc, c => by
    simp only [List.cons_append, digitsM]
    split
    · exact digitsM_snoc w _ c
    · simp

theorem digitsM_back (w : Bs) : w ≠ [] → (w.head? = some 48 → w.length = 1) → 0 ≤ digitsM 0 w → decDigits (digitsM 0 w).toNat = w := by
  intro hne h0 hp
  generalize hk : w.length = k
  induction k generalizing w with
  | zero => exact absurd (List.length_eq_zero_iff.1 hk) hne
  | succ k ih =>
    obtain ⟨w', c, rfl⟩ : ∃ w' c, w = w' ++ [c] := ⟨w.dropLast, w.getLast hne, (List.dropLast_concat_getLast hne).symm⟩
    rw [digitsM_snoc] at hp ⊢
    by_cases hc : 0 ≤ digitsM 0 w' ∧ 48 ≤ c.toNat ∧ c.toNat ≤ 57
    · rw [if_pos hc]
      obtain ⟨hc1, hc2, hc3⟩ := hc
      by_cases hw : w' = []
      · subst hw
        have hz : digitsM 0 ([] : Bs) = 0 := rfl
        rw [hz]
        have e : (10 * (0 : Int) + ((c.toNat - 48 : Nat) : Int)).toNat = c.toNat - 48 := by omega
        rw [e, decDigits_one (by omega)]
        simp only [List.nil_append]
        congr 1
        apply UInt8.toNat_inj.1
        rw [dig_byte _ (by omega)]
        omega
      · have hh : (w' ++ [c]).head? = w'.head? := by
          cases w' with
          | nil => exact absurd rfl hw
          | cons a b => rfl
        have hl : (w' ++ [c]).length ≠ 1 := by
          have : 1 ≤ w'.length := List.length_pos_iff.2 hw
          simp; omega
        have hz : w'.head? ≠ some 48 := fun e => hl (h0 (by rw [hh]; exact e))
        have hd := ih w' hw (fun e => absurd e hz) hc1 (by simpa using hk)
        have hn0 : (digitsM 0 w').toNat ≠ 0 := by
          intro e
          rw [e, decDigits_one (by omega)] at hd
          apply hz
          rw [← hd]
          rfl
        have e : (10 * digitsM 0 w' + ((c.toNat - 48 : Nat) : Int)).toNat = 10 * (digitsM 0 w').toNat + (c.toNat - 48) := by omega
        rw [e, decDigits, dif_neg (by omega), show (10 * (digitsM 0 w').toNat + (c.toNat - 48)) / 10 = (digitsM 0 w').toNat by omega, hd,
          show (10 * (digitsM 0 w').toNat + (c.toNat - 48)) % 10 = c.toNat - 48 by omega]
        congr 2
        apply UInt8.toNat_inj.1
        rw [dig_byte _ (by omega)]
        omega
    · rw [if_neg hc] at hp
      omega

theorem sizeM_back (w : Bs) (h : 0 ≤ sizeM w) : decDigits (sizeM w).toNat = w := by
  unfold sizeM at h ⊢
  split at h
  · omega
  · rename_i hc
    rw [if_neg hc]
    refine digitsM_back w (fun e => hc (.inl e)) (fun e => ?_) h
    have h1 : ¬ 1 < w.length := fun l => hc (.inr (.inr ⟨e, l⟩))
    have h2 : 1 ≤ w.length := List.length_pos_iff.2 (fun e => hc (.inl e))
    omega

theorem dec_head0 (u : Nat) (h : 1 < (decDigits u).length) : (decDigits u).head? ≠ some 48 := by
  induction u using Nat.strongRecOn with
  | _ u ih =>
    by_cases hu : u < 10
    · rw [decDigits_one hu] at h; simp at h
    · rw [decDigits, dif_neg hu] at h ⊢
      have hh : (decDigits (u / 10) ++ [UInt8.ofNat (48 + u % 10)]).head? = (decDigits (u / 10)).head? := by
        obtain ⟨c, r, e, _⟩ := dec_head (u / 10)
        rw [e]; rfl
      rw [hh]
      by_cases hv : u / 10 < 10
      · rw [decDigits_one hv]
        simp only [List.head?_cons, ne_eq, Option.some.injEq]
        intro e
        have := congrArg UInt8.toNat e
        rw [dig_byte _ hv] at this
        have : (48 : UInt8).toNat = 48 := rfl
        omega
      · refine ih (u / 10) (by omega) ?_
        rw [decDigits_length, nDigits_big hv]
        have := nDigits_pos (u / 10 / 10)
        omega

theorem sizeM_dec (u : Nat) (h : u < 10000000000) : sizeM (decDigits u) = u := by
  have hl : (decDigits u).length ≤ 10 := by
    rw [decDigits_length]
    by_cases h1 : nDigits u ≤ 10
    · exact h1
    · exfalso
      have : ∀ k v, k < nDigits v → 10 ^ k ≤ v ∨ k = 0 := by
        intro k
        induction k with
        | zero => intro v _; exact .inr rfl
        | succ k ih =>
          intro v hv
          by_cases hv0 : v < 10
          · rw [nDigits_small hv0] at hv; omega
          · rw [nDigits_big hv0] at hv
            left
            rcases ih (v / 10) (by omega) with h' | h'
            · rw [Nat.pow_succ]; omega
            · subst h'; simp; omega
      rcases this 10 u (by omega) with h' | h'
      · have : (10 : Nat) ^ 10 = 10000000000 := by decide
        omega
      · omega
  unfold sizeM
  rw [if_neg]
  · have := digitsM_dec u 0 []
    simp only [List.append_nil, Nat.zero_mul, Nat.zero_add] at this
    rw [this]
    rfl
  · rintro (e | e | ⟨e, l⟩)
    · exact dec_ne u e
    · omega
    · exact dec_head0 u l e

theorem intM_intD (w : Bs) : intM w = if (intD w).2 = true then some (intD w).1 else none := by
  have key : ∀ n : Int, (intD w).2 = true ∧ (intD w).1 = n ↔ fitsM n = true ∧ itoa n = w := by
    intro n
    unfold intD
    split
    · rename_i hh
      simp only [Bool.and_eq_true, decide_eq_true_eq]
      obtain ⟨r, rfl⟩ : ∃ r, w = 45 :: r := by
        cases w with
        | nil => simp at hh
        | cons a b => simp at hh; exact ⟨b, by rw [hh]⟩
      simp only [List.tail_cons]
      constructor
      · rintro ⟨⟨h1, h2⟩, rfl⟩
        refine ⟨h2, ?_⟩
        have := sizeM_back r (by omega)
        unfold itoa
        rw [if_pos (by omega), Int.natAbs_neg, show (sizeM r).natAbs = (sizeM r).toNat by omega, this]
      · rintro ⟨h1, h2⟩
        unfold itoa at h2
        split at h2
        · rename_i hn
          injection h2 with _ h2
          have hf := (fitsM_iff n).1 h1
          have := sizeM_dec n.natAbs (by omega)
          rw [h2] at this
          rw [this]
          have e : -((n.natAbs : Nat) : Int) = n := by omega
          rw [e]
          exact ⟨⟨by omega, h1⟩, rfl⟩
        · exfalso
          obtain ⟨c, r', e, h3, h4⟩ := dec_head n.toNat
          rw [e] at h2
          injection h2 with h2 _
          rw [h2] at h3
          exact absurd h3 (by decide)
    · rename_i hh
      simp only [Bool.and_eq_true, decide_eq_true_eq]
      constructor
      · rintro ⟨⟨h1, h2⟩, rfl⟩
        refine ⟨h2, ?_⟩
        unfold itoa
        rw [if_neg (by omega)]
        exact sizeM_back w h1
      · rintro ⟨h1, h2⟩
        have hf := (fitsM_iff n).1 h1
        unfold itoa at h2
        split at h2
        · exact absurd (by rw [← h2]; rfl) hh
        · have := sizeM_dec n.toNat (by omega)
          rw [h2] at this
          rw [this]
          have e : ((n.toNat : Nat) : Int) = n := by omega
          rw [e]
          exact ⟨⟨by omega, h1⟩, rfl⟩
  by_cases h : (intD w).2 = true
  · rw [if_pos h]
    exact (intM_iff w _).2 ((key _).1 ⟨h, rfl⟩)
  · rw [if_neg h]
    cases e : intM w with
    | none => rfl
    | some n => exact absurd ((key n).2 ((intM_iff w n).1 e)).1 h
end Go.Proofs.YtgngdkbcndldfaaDoor.Fr
