/- A reader of bytes, as plain functions. Conditions: none. -/
import Derived.Test.YtcphjehjdhgheaaImC
namespace Go.Proofs.Ytcphjehjdhgheaa.Nt
set_option linter.unusedVariables false
set_option linter.unusedSimpArgs false

abbrev Rst := List UInt8 × Int
def failM (f e : Int) : Int := if f = 0 then e else f
def nextM (s : Rst) : Int × Rst := match s.1 with
  | [] => (0, ([], failM s.2 16))
  | b :: r => ((b.toNat : Int), (r, s.2))
def numR : Nat → Int → Int → Rst → Int × Rst
  | 0, _, _, s => (0, (s.1, failM s.2 15))
  | k + 1, n, p, s =>
    let b := (nextM s).1
    let s1 := (nextM s).2
    let n1 := n + b % 128 * p
    let s2 := if 4294967295 < n1 then (s1.1, failM s1.2 15) else s1
    if s2.2 ≠ 0 then (0, s2) else if b < 128 then (n1, s2) else numR k n1 (p * 128) s2
def numberR (s : Rst) : Int × Rst := numR 6 0 1 s
def listR : Nat → List Int → Rst → List Int × Rst
  | 0, acc, s => (acc, s)
  | k + 1, acc, s => if s.2 = 0 then listR k (acc ++ [(numberR s).1]) (numberR s).2 else (acc, s)
def numbersR (s : Rst) : List Int × Rst := listR (numberR s).1.toNat [] (numberR s).2
def unsM (n : Int) : Int := if n % 2 = 1 then -((n + 1) / 2) else n / 2
def setF (x : Ins6) (k : Nat) (v : Int) : Ins6 := if k = 1 then { x with d := v } else if k = 2 then { x with a := v } else if k = 3 then { x with b := v } else if k = 4 then { x with c := v } else if k = 5 then { x with n := v } else x
def fillR : List Nat → Ins6 × Rst → Ins6 × Rst
  | [], s => s
  | k :: r, s => fillR r (setF s.1 k (numberR s.2).1, (numberR s.2).2)
def instR (s : Rst) : Ins6 × Rst :=
  let op := (numberR s).1
  let s1 := (numberR s).2
  let s2 := if (regsK op).length = 0 then (s1.1, failM s1.2 15) else s1
  let t := fillR (regsK op) (⟨op, 0, 0, 0, 0, 0⟩, s2)
  if hasNB op = true then (setF t.1 5 (unsM (numberR t.2).1), (numberR t.2).2) else t
def inssR : Nat → List Ins6 → Rst → List Ins6 × Rst
  | 0, acc, s => (acc, s)
  | k + 1, acc, s => if s.2 = 0 then inssR k (acc ++ [(instR s).1]) (instR s).2 else (acc, s)
def codeR (s : Rst) : Cod × Rst :=
  let s1 := (numberR s).2
  let s2 := (numberR s1).2
  let s3 := (numbersR s2).2
  let s4 := (numberR s3).2
  let s5 := (inssR (numberR s3).1.toNat [] s4).2
  (⟨(inssR (numberR s3).1.toNat [] s4).1, (numberR s).1, (numberR s1).1, (numbersR s5).1, (numbersR s2).1⟩, (numbersR s5).2)
def decM (s : List UInt8) : Cod × Int :=
  if Lib.hasPrefix s bail = false then (emptyC, if Lib.hasPrefix bail s = true then 16 else 15)
  else if (codeR (Lib.trimPrefix s bail, 0)).2.2 ≠ 0 then (emptyC, (codeR (Lib.trimPrefix s bail, 0)).2.2)
  else if encF (codeR (Lib.trimPrefix s bail, 0)).1 ≠ 0 ∨ encM (codeR (Lib.trimPrefix s bail, 0)).1 ≠ s then (emptyC, 15)
  else ((codeR (Lib.trimPrefix s bail, 0)).1, 0)

/-! ### Bounds -/
theorem next_bnd (s : Rst) : 0 ≤ (nextM s).1 ∧ (nextM s).1 < 256 := by
  unfold nextM
  split
  · exact ⟨by omega, by omega⟩
  · rename_i b r _
    have := b.toNat_lt
    exact ⟨by simp, by simp; omega⟩
theorem next_len (s : Rst) : (nextM s).2.1.length ≤ s.1.length := by
  unfold nextM
  split
  · simp
  · rename_i h; rw [h]; simp
theorem next_less (s : Rst) (h : (nextM s).2.2 = 0) : (nextM s).2.1.length + 1 = s.1.length := by
  unfold nextM at h ⊢
  split
  · rename_i h0
    rw [h0] at h
    simp only at h
    unfold failM at h
    split at h <;> omega
  · rename_i h0; rw [h0]; simp
theorem numR_bnd : ∀ (k : Nat) (n p : Int) (s : Rst), 0 ≤ n → 0 ≤ p → 0 ≤ (numR k n p s).1 ∧ (numR k n p s).1 ≤ 4294967295 := by
  intro k
  induction k with
  | zero => intro n p s _ _; exact ⟨by simp [numR], by simp [numR]⟩
  | succ k ih =>
    intro n p s hn hp
    have hb := next_bnd s
    have hm : 0 ≤ (nextM s).1 % 128 * p := Int.mul_nonneg (by omega) hp
    unfold numR
    simp only
    obtain ⟨s2, hs2⟩ : ∃ s2, (if 4294967295 < n + (nextM s).1 % 128 * p then ((nextM s).2.1, failM (nextM s).2.2 15) else (nextM s).2) = s2 := ⟨_, rfl⟩
    have e2 : s2.2 = 0 → ¬ 4294967295 < n + (nextM s).1 % 128 * p := by
      rw [← hs2]
      split
      · intro h
        simp only at h
        unfold failM at h
        split at h <;> omega
      · rename_i h; exact fun _ => h
    rw [hs2]
    split
    · exact ⟨Int.le_refl _, by show (0 : Int) ≤ 4294967295; omega⟩
    · rename_i h
      have h3 := e2 (by omega)
      split
      · exact ⟨by show 0 ≤ n + (nextM s).1 % 128 * p; omega, by show n + (nextM s).1 % 128 * p ≤ 4294967295; omega⟩
      · exact ih _ _ _ (by omega) (by omega)
theorem number_bnd (s : Rst) : 0 ≤ (numberR s).1 ∧ (numberR s).1 ≤ 4294967295 := numR_bnd 6 0 1 s (by omega) (by omega)
theorem numR_len : ∀ (k : Nat) (n p : Int) (s : Rst), (numR k n p s).2.1.length ≤ s.1.length ∧ ((numR k n p s).2.2 = 0 → (numR k n p s).2.1.length + 1 ≤ s.1.length) := by
  intro k
  induction k with
  | zero =>
    intro n p s
    unfold numR
    refine ⟨Nat.le_refl _, fun h => ?_⟩
    simp only at h
    unfold failM at h
    split at h <;> omega
  | succ k ih =>
    intro n p s
    have hl := next_len s
    unfold numR
    simp only
    obtain ⟨s2, hs2⟩ : ∃ s2, (if 4294967295 < n + (nextM s).1 % 128 * p then ((nextM s).2.1, failM (nextM s).2.2 15) else (nextM s).2) = s2 := ⟨_, rfl⟩
    have e1 : s2.1 = (nextM s).2.1 := by rw [← hs2]; split <;> rfl
    have e2 : s2.2 = 0 → (nextM s).2.2 = 0 := by
      rw [← hs2]
      split
      · intro h
        simp only at h
        unfold failM at h
        split at h <;> omega
      · exact id
    rw [hs2]
    split
    · rename_i h; exact ⟨by rw [e1]; exact hl, fun h2 => absurd h2 h⟩
    · rename_i h
      have h3 := next_less s (e2 (by omega))
      split
      · exact ⟨by simp only; rw [e1]; omega, fun _ => by simp only; rw [e1]; omega⟩
      · obtain ⟨i1, i2⟩ := ih (n + (nextM s).1 % 128 * p) (p * 128) s2
        rw [e1] at i1 i2
        exact ⟨by omega, fun h4 => by have := i2 h4; omega⟩
theorem listR_len : ∀ (k : Nat) (acc : List Int) (s : Rst), (listR k acc s).1.length ≤ acc.length + s.1.length + 1 ∧ (listR k acc s).2.1.length ≤ s.1.length := by
  intro k
  induction k with
  | zero => intro acc s; exact ⟨by show acc.length ≤ _; omega, Nat.le_refl _⟩
  | succ k ih =>
    intro acc s
    unfold listR
    split
    · obtain ⟨i1, i2⟩ := ih (acc ++ [(numberR s).1]) (numberR s).2
      obtain ⟨j1, j2⟩ := numR_len 6 0 1 s
      rw [List.length_append, List.length_singleton] at i1
      refine ⟨?_, Nat.le_trans i2 j1⟩
      by_cases h0 : (numberR s).2.2 = 0
      · have := j2 h0
        have e : (numR 6 0 1 s).2.1.length = (numberR s).2.1.length := rfl
        omega
      · have e : (listR k (acc ++ [(numberR s).1]) (numberR s).2).1 = acc ++ [(numberR s).1] := by
          cases k with
          | zero => rfl
          | succ k => unfold listR; rw [if_neg h0]
        rw [e, List.length_append, List.length_singleton]
        omega
    · exact ⟨by show acc.length ≤ _; omega, Nat.le_refl _⟩
theorem listR_all : ∀ (k : Nat) (acc : List Int) (s : Rst), (∀ x ∈ acc, 0 ≤ x ∧ x ≤ 4294967295) → ∀ x ∈ (listR k acc s).1, 0 ≤ x ∧ x ≤ 4294967295 := by
  intro k
  induction k with
  | zero => intro acc s h; exact h
  | succ k ih =>
    intro acc s h
    unfold listR
    split
    · refine ih _ _ (fun x hx => ?_)
      rcases List.mem_append.1 hx with hx | hx
      · exact h x hx
      · rw [List.mem_singleton.1 hx]; exact number_bnd s
    · exact h
theorem numbers_all (s : Rst) : ∀ x ∈ (numbersR s).1, 0 ≤ x ∧ x ≤ 4294967295 := listR_all _ [] _ (fun x hx => by simp at hx)
theorem numbers_len (s : Rst) : (numbersR s).1.length ≤ s.1.length + 1 ∧ (numbersR s).2.1.length ≤ s.1.length := by
  obtain ⟨h1, h2⟩ := listR_len (numberR s).1.toNat [] (numberR s).2
  have h3 := (numR_len 6 0 1 s).1
  have e : (numR 6 0 1 s).2.1.length = (numberR s).2.1.length := rfl
  unfold numbersR
  simp at h1
  exact ⟨by omega, by omega⟩
def InsS (x : Ins6) : Prop := (0 ≤ x.op ∧ x.op ≤ 4294967295) ∧ (0 ≤ x.d ∧ x.d ≤ 4294967295) ∧ (0 ≤ x.a ∧ x.a ≤ 4294967295) ∧ (0 ≤ x.b ∧ x.b ≤ 4294967295) ∧ (0 ≤ x.c ∧ x.c ≤ 4294967295) ∧ -4294967296 ≤ x.n ∧ x.n ≤ 4294967295
theorem setF_s {x : Ins6} {k : Nat} {v : Int} (h : InsS x) (hv : 0 ≤ v ∧ v ≤ 4294967295) : InsS (setF x k v) := by
  obtain ⟨h1, h2, h3, h4, h5, h6, h7⟩ := h
  unfold setF
  repeat' split
  all_goals exact ⟨by assumption, by first | assumption | exact hv, by first | assumption | exact hv, by first | assumption | exact hv, by first | assumption | exact hv, by first | assumption | (simp only; omega), by first | assumption | exact hv.2⟩
theorem fillR_s : ∀ (l : List Nat) (s : Ins6 × Rst), InsS s.1 → InsS (fillR l s).1 := by
  intro l
  induction l with
  | nil => intro s h; exact h
  | cons k r ih => intro s h; exact ih _ (setF_s h (number_bnd s.2))
theorem fillR_len : ∀ (l : List Nat) (s : Ins6 × Rst), (fillR l s).2.1.length ≤ s.2.1.length := by
  intro l
  induction l with
  | nil => intro s; exact Nat.le_refl _
  | cons k r ih => intro s; exact Nat.le_trans (ih _) (numR_len 6 0 1 s.2).1
theorem uns_bnd {n : Int} (h : 0 ≤ n ∧ n ≤ 4294967295) : -4294967296 ≤ unsM n ∧ unsM n ≤ 4294967295 := by
  unfold unsM
  split <;> omega
theorem inst_s (s : Rst) : InsS (instR s).1 := by
  unfold instR
  simp only
  have hb := number_bnd s
  have h0 : InsS ⟨(numberR s).1, 0, 0, 0, 0, 0⟩ := ⟨hb, by simp, by simp, by simp, by simp, by simp, by simp⟩
  obtain ⟨s2, hs2⟩ : ∃ s2, (if (regsK (numberR s).1).length = 0 then ((numberR s).2.1, failM (numberR s).2.2 15) else (numberR s).2) = s2 := ⟨_, rfl⟩
  rw [hs2]
  have ht := fillR_s (regsK (numberR s).1) (⟨(numberR s).1, 0, 0, 0, 0, 0⟩, s2) h0
  split
  · obtain ⟨h1, h2, h3, h4, h5, h6, h7⟩ := ht
    have hu := uns_bnd (number_bnd (fillR (regsK (numberR s).1) (⟨(numberR s).1, 0, 0, 0, 0, 0⟩, s2)).2)
    exact ⟨h1, h2, h3, h4, h5, hu.1, hu.2⟩
  · exact ht
theorem insr_len (s : Rst) : (instR s).2.1.length ≤ s.1.length := by
  unfold instR
  simp only
  obtain ⟨s2, hs2⟩ : ∃ s2, (if (regsK (numberR s).1).length = 0 then ((numberR s).2.1, failM (numberR s).2.2 15) else (numberR s).2) = s2 := ⟨_, rfl⟩
  have e1 : s2.1 = (numberR s).2.1 := by rw [← hs2]; split <;> rfl
  rw [hs2]
  have h1 := (numR_len 6 0 1 s).1
  have h2 := fillR_len (regsK (numberR s).1) (⟨(numberR s).1, 0, 0, 0, 0, 0⟩, s2)
  simp only [e1] at h2
  split
  · exact Nat.le_trans (numR_len 6 0 1 _).1 (Nat.le_trans h2 h1)
  · exact Nat.le_trans h2 h1
theorem inssR_s : ∀ (k : Nat) (acc : List Ins6) (s : Rst), (∀ x ∈ acc, InsS x) → (∀ x ∈ (inssR k acc s).1, InsS x) ∧ (inssR k acc s).2.1.length ≤ s.1.length := by
  intro k
  induction k with
  | zero => intro acc s h; exact ⟨h, Nat.le_refl _⟩
  | succ k ih =>
    intro acc s h
    unfold inssR
    split
    · obtain ⟨i1, i2⟩ := ih (acc ++ [(instR s).1]) (instR s).2 (fun x hx => by
        rcases List.mem_append.1 hx with hx | hx
        · exact h x hx
        · rw [List.mem_singleton.1 hx]; exact inst_s s)
      exact ⟨i1, Nat.le_trans i2 (insr_len s)⟩
    · exact ⟨h, Nat.le_refl _⟩
theorem code_s (s : Rst) : CodW (codeR s).1 ∧ (codeR s).1.inp.length ≤ s.1.length + 1 ∧ (codeR s).1.outs.length ≤ s.1.length + 1 := by
  unfold codeR
  simp only
  have a1 := (numR_len 6 0 1 s).1
  have a2 := (numR_len 6 0 1 (numberR s).2).1
  have a3 := numbers_len (numberR (numberR s).2).2
  have a4 := (numR_len 6 0 1 (numbersR (numberR (numberR s).2).2).2).1
  have a5 := inssR_s (numberR (numbersR (numberR (numberR s).2).2).2).1.toNat [] (numberR (numbersR (numberR (numberR s).2).2).2).2 (fun x hx => by simp at hx)
  have a6 := numbers_len (inssR (numberR (numbersR (numberR (numberR s).2).2).2).1.toNat [] (numberR (numbersR (numberR (numberR s).2).2).2).2).2
  have a7 := numbers_all (inssR (numberR (numbersR (numberR (numberR s).2).2).2).1.toNat [] (numberR (numbersR (numberR (numberR s).2).2).2).2).2
  change (numberR s).2.1.length ≤ _ at a1
  change (numberR (numberR s).2).2.1.length ≤ _ at a2
  change (numberR (numbersR (numberR (numberR s).2).2).2).2.1.length ≤ _ at a4
  refine ⟨⟨fun x hx => ?_, fun k hk => ?_⟩, by omega, by omega⟩
  · obtain ⟨h1, h2, h3, h4, h5, h6, h7⟩ := a5.1 x hx
    exact ⟨w64_of (by omega) (by omega), w64_of (by omega) (by omega), w64_of (by omega) (by omega), w64_of (by omega) (by omega), w64_of (by omega) (by omega)⟩
  · have := a7 k hk
    exact w64_of (by omega) (by omega)
/-- What is read, where all goes well, has just these bytes. -/
theorem dec_ok {s : List UInt8} (h : (decM s).2 = 0) : encF (decM s).1 = 0 ∧ bytesM (decM s).1 = s := by
  unfold decM at h ⊢
  by_cases h1 : Lib.hasPrefix s bail = false
  · rw [if_pos h1] at h
    simp only at h
    split at h <;> omega
  · rw [if_neg h1] at h ⊢
    by_cases h2 : (codeR (Lib.trimPrefix s bail, 0)).2.2 ≠ 0
    · rw [if_pos h2] at h; exact absurd h h2
    · rw [if_neg h2] at h ⊢
      by_cases h3 : encF (codeR (Lib.trimPrefix s bail, 0)).1 ≠ 0 ∨ encM (codeR (Lib.trimPrefix s bail, 0)).1 ≠ s
      · rw [if_pos h3] at h; simp at h
      · rw [if_neg h3] at h ⊢
        have h4 : encF (codeR (Lib.trimPrefix s bail, 0)).1 = 0 := Classical.not_not.1 (fun e => h3 (.inl e))
        have h5 : encM (codeR (Lib.trimPrefix s bail, 0)).1 = s := Classical.not_not.1 (fun e => h3 (.inr e))
        refine ⟨h4, ?_⟩
        unfold encM at h5
        rw [if_pos h4] at h5
        exact h5
end Go.Proofs.Ytcphjehjdhgheaa.Nt
