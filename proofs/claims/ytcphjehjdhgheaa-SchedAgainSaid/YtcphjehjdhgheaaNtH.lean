/- Lists of numbers that are heaps, as plain facts. Conditions: none. -/
import GoSem.Op.String
namespace Go.Proofs.Ytcphjehjdhgheaa.Nt
set_option linter.unusedVariables false
set_option linter.unusedSimpArgs false

/-- The number at a place, 0 behind the end. -/
def gd (l : List Int) (k : Nat) : Int := l.getD k 0
/-- Two numbers change places. -/
def sw (l : List Int) (i j : Nat) : List Int := (l.set i (gd l j)).set j (gd l i)
/-- The first n are a heap. -/
def Hp (l : List Int) (n : Nat) : Prop := ∀ k, 0 < k → k < n → gd l ((k - 1) / 2) ≤ gd l k
/-- A heap but for what is at j and ahead of it. -/
def HpUp (l : List Int) (n j : Nat) : Prop := (∀ k, 0 < k → k < n → k ≠ j → gd l ((k - 1) / 2) ≤ gd l k) ∧ (∀ k, 0 < k → k < n → (k - 1) / 2 = j → 0 < j → gd l ((j - 1) / 2) ≤ gd l k)
/-- A heap but for what is at i and behind it. -/
def HpDn (l : List Int) (n i : Nat) : Prop := (∀ k, 0 < k → k < n → (k - 1) / 2 ≠ i → gd l ((k - 1) / 2) ≤ gd l k) ∧ (∀ k, 0 < k → k < n → (k - 1) / 2 = i → 0 < i → gd l ((i - 1) / 2) ≤ gd l k)
theorem sw_len (l : List Int) (i j : Nat) : (sw l i j).length = l.length := by unfold sw; simp
theorem gd_eq {l : List Int} {i : Nat} (h : i < l.length) : gd l i = l[i] := by unfold gd; simp [List.getD, h]
theorem sw_perm {l : List Int} {i j : Nat} (hi : i < l.length) (hj : j < l.length) : (sw l i j).Perm l := by
  unfold sw; rw [gd_eq hi, gd_eq hj]; exact List.set_set_perm hi hj
theorem gd_sw {l : List Int} {i j : Nat} (hi : i < l.length) (hj : j < l.length) (k : Nat) : gd (sw l i j) k = if k = j then gd l i else if k = i then gd l j else gd l k := by
  unfold sw gd
  simp only [List.getD, List.getElem?_set, List.length_set]
  by_cases h1 : k = j
  · subst h1; simp [hj]
  · by_cases h2 : k = i
    · subst h2; simp [Ne.symm h1, hi, h1]
    · simp [h1, h2, Ne.symm h1, Ne.symm h2]
theorem up_step {l : List Int} {n j : Nat} (h : HpUp l n j) (h0 : 0 < j) (hj : j < n) (hn : n ≤ l.length) (hlt : gd l j < gd l ((j - 1) / 2)) : HpUp (sw l ((j - 1) / 2) j) n ((j - 1) / 2) := by
  have hi : (j - 1) / 2 < l.length := by omega
  have hjl : j < l.length := by omega
  have hij : (j - 1) / 2 ≠ j := by omega
  refine ⟨fun k k0 kn kj => ?_, fun k k0 kn kj i0 => ?_⟩
  · rw [gd_sw hi hjl, gd_sw hi hjl]
    by_cases e : k = j
    · subst e; simp only [if_true, if_neg hij]; omega
    · rw [if_neg e, if_neg kj]
      by_cases e2 : (k - 1) / 2 = j
      · rw [if_pos e2]; exact h.2 k k0 kn e2 h0
      · rw [if_neg e2]
        by_cases e3 : (k - 1) / 2 = (j - 1) / 2
        · rw [if_pos e3]; have := h.1 k k0 kn e; rw [e3] at this; omega
        · rw [if_neg e3]; exact h.1 k k0 kn e
  · have hp : gd l (((j - 1) / 2 - 1) / 2) ≤ gd l ((j - 1) / 2) := h.1 _ i0 (by omega) hij
    rw [gd_sw hi hjl, gd_sw hi hjl]
    rw [if_neg (show ((j - 1) / 2 - 1) / 2 ≠ j by omega), if_neg (show ((j - 1) / 2 - 1) / 2 ≠ (j - 1) / 2 by omega)]
    by_cases e : k = j
    · rw [if_pos e]; exact hp
    · rw [if_neg e, if_neg (show k ≠ (j - 1) / 2 by omega)]
      have := h.1 k k0 kn e; rw [kj] at this; omega
theorem up_done {l : List Int} {n j : Nat} (h : HpUp l n j) (hd : j = 0 ∨ gd l ((j - 1) / 2) ≤ gd l j) : Hp l n := by
  intro k k0 kn
  by_cases e : k = j
  · subst e; rcases hd with e | e
    · omega
    · exact e
  · exact h.1 k k0 kn e
theorem up_begin {l : List Int} {n : Nat} (h : Hp l n) (x : Int) (hn : n = l.length) : HpUp (l ++ [x]) (n + 1) n := by
  subst hn
  have ha : ∀ k, k < l.length → gd (l ++ [x]) k = gd l k := fun k hk => by unfold gd; simp [List.getD, List.getElem?_append_left hk]
  refine ⟨fun k k0 kn kj => ?_, fun k k0 kn kj _ => by omega⟩
  rw [ha _ (by omega), ha _ (by omega)]; exact h k k0 (by omega)
theorem dn_step {l : List Int} {n i j : Nat} (h : HpDn l n i) (hn : n ≤ l.length) (hj : j < n) (hji : j = 2 * i + 1 ∨ j = 2 * i + 2) (hmin : ∀ k, k < n → (k = 2 * i + 1 ∨ k = 2 * i + 2) → gd l j ≤ gd l k) (hlt : gd l j < gd l i) : HpDn (sw l i j) n j := by
  have hi : i < l.length := by omega
  have hjl : j < l.length := by omega
  refine ⟨fun k k0 kn kj => ?_, fun k k0 kn kj j0 => ?_⟩
  · rw [gd_sw hi hjl, gd_sw hi hjl]
    rw [if_neg kj]
    by_cases e : k = j
    · subst e; rw [if_pos (show (k - 1) / 2 = i by omega)]; simp only [if_true]; omega
    · rw [if_neg e]
      by_cases e2 : (k - 1) / 2 = i
      · rw [if_pos e2, if_neg (by omega)]; exact hmin k kn (by omega)
      · rw [if_neg e2]
        by_cases e3 : k = i
        · rw [if_pos e3]; subst e3; exact h.2 j (by omega) hj (by omega) k0
        · rw [if_neg e3]; exact h.1 k k0 kn e2
  · have e : (j - 1) / 2 = i := by omega
    rw [gd_sw hi hjl, gd_sw hi hjl, e, if_neg (show i ≠ j by omega), if_pos rfl, if_neg (show k ≠ j by omega), if_neg (show k ≠ i by omega)]
    have := h.1 k k0 kn (by omega)
    rw [kj] at this; exact this
theorem dn_done {l : List Int} {n i : Nat} (h : HpDn l n i) (hd : ∀ k, k < n → (k = 2 * i + 1 ∨ k = 2 * i + 2) → gd l i ≤ gd l k) : Hp l n := by
  intro k k0 kn
  by_cases e : (k - 1) / 2 = i
  · rw [e]; exact hd k kn (by omega)
  · exact h.1 k k0 kn e
theorem dn_begin {l : List Int} {n : Nat} (h : Hp l (n + 1)) (hn : l.length = n + 1) : HpDn (sw l 0 n) n 0 := by
  refine ⟨fun k k0 kn kj => ?_, fun k _ _ _ i0 => by omega⟩
  rw [gd_sw (by omega) (by omega), gd_sw (by omega) (by omega)]
  rw [if_neg (by omega), if_neg kj, if_neg (by omega), if_neg (by omega)]
  exact h k k0 (by omega)
theorem hp_min {l : List Int} {n : Nat} (h : Hp l n) : ∀ k, k < n → gd l 0 ≤ gd l k := by
  intro k
  induction k using Nat.strongRecOn with
  | _ k ih =>
    intro kn
    by_cases e : k = 0
    · subst e; exact Int.le_refl _
    · exact Int.le_trans (ih ((k - 1) / 2) (by omega) (by omega)) (h k (by omega) kn)
theorem hp_take {l : List Int} {n : Nat} (h : Hp l n) (hn : n ≤ l.length) : Hp (l.take n) n := by
  have ha : ∀ k, k < n → gd (l.take n) k = gd l k := fun k hk => by unfold gd; simp [List.getD, List.getElem?_take, hk]
  intro k k0 kn; rw [ha _ (by omega), ha _ kn]; exact h k k0 kn
end Go.Proofs.Ytcphjehjdhgheaa.Nt
