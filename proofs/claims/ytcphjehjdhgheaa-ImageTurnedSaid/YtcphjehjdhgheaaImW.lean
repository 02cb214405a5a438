/- What a reader tells is one of two faults, or none; as plain functions. Conditions: none. -/
import Derived.Test.YtcphjehjdhgheaaImRm
namespace Go.Proofs.Ytcphjehjdhgheaa.Nt
set_option linter.unusedVariables false
set_option linter.unusedSimpArgs false

def FOK (f : Int) : Prop := f = 0 ∨ f = 15 ∨ f = 16
theorem failF {f e : Int} (h : FOK f) (he : FOK e) : FOK (failM f e) := by unfold failM; split; exact he; exact h
theorem nextF {s : Rst} (h : FOK s.2) : FOK (nextM s).2.2 := by
  unfold nextM
  split
  · exact failF h (.inr (.inr rfl))
  · exact h
theorem numRF : ∀ (k : Nat) (n p : Int) (s : Rst), FOK s.2 → FOK (numR k n p s).2.2 := by
  intro k
  induction k with
  | zero => intro n p s h; exact failF h (.inr (.inl rfl))
  | succ k ih =>
    intro n p s h
    unfold numR
    simp only
    obtain ⟨s2, hs2⟩ : ∃ s2, (if 4294967295 < n + (nextM s).1 % 128 * p then ((nextM s).2.1, failM (nextM s).2.2 15) else (nextM s).2) = s2 := ⟨_, rfl⟩
    have h2 : FOK s2.2 := by
      rw [← hs2]
      split
      · exact failF (nextF h) (.inr (.inl rfl))
      · exact nextF h
    rw [hs2]
    split
    · exact h2
    · split
      · exact h2
      · exact ih _ _ _ h2
theorem numberF {s : Rst} (h : FOK s.2) : FOK (numberR s).2.2 := numRF 6 0 1 s h
theorem listF : ∀ (k : Nat) (acc : List Int) (s : Rst), FOK s.2 → FOK (listR k acc s).2.2 := by
  intro k
  induction k with
  | zero => intro acc s h; exact h
  | succ k ih =>
    intro acc s h
    unfold listR
    split
    · exact ih _ _ (numberF h)
    · exact h
theorem numbersF {s : Rst} (h : FOK s.2) : FOK (numbersR s).2.2 := listF _ _ _ (numberF h)
theorem fillF : ∀ (l : List Nat) (s : Ins6 × Rst), FOK s.2.2 → FOK (fillR l s).2.2 := by
  intro l
  induction l with
  | nil => intro s h; exact h
  | cons k r ih => intro s h; exact ih _ (numberF h)
theorem instF {s : Rst} (h : FOK s.2) : FOK (instR s).2.2 := by
  unfold instR
  simp only
  obtain ⟨s2, hs2⟩ : ∃ s2, (if (regsK (numberR s).1).length = 0 then ((numberR s).2.1, failM (numberR s).2.2 15) else (numberR s).2) = s2 := ⟨_, rfl⟩
  have h2 : FOK s2.2 := by
    rw [← hs2]
    split
    · exact failF (numberF h) (.inr (.inl rfl))
    · exact numberF h
  rw [hs2]
  split
  · exact numberF (fillF _ _ h2)
  · exact fillF _ _ h2
theorem inssF : ∀ (k : Nat) (acc : List Ins6) (s : Rst), FOK s.2 → FOK (inssR k acc s).2.2 := by
  intro k
  induction k with
  | zero => intro acc s h; exact h
  | succ k ih =>
    intro acc s h
    unfold inssR
    split
    · exact ih _ _ (instF h)
    · exact h
theorem codeF {s : Rst} (h : FOK s.2) : FOK (codeR s).2.2 := by
  unfold codeR
  exact numbersF (inssF _ _ _ (numberF (numbersF (numberF (numberF h)))))
theorem decF (s : List UInt8) : FOK (decM s).2 := by
  unfold decM
  split
  · simp only
    split
    · exact .inr (.inr rfl)
    · exact .inr (.inl rfl)
  · split
    · exact codeF (.inl rfl)
    · split
      · exact .inr (.inl rfl)
      · exact .inl rfl
end Go.Proofs.Ytcphjehjdhgheaa.Nt
