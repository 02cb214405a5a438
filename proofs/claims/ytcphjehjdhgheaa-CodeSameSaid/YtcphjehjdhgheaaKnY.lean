/- What code tells, of other streams; what a net tells has as many numbers as roots: as plain functions. Conditions: none. -/
import Derived.Test.YtcphjehjdhgheaaNkQ
namespace Go.Proofs.Ytcphjehjdhgheaa.Nt
set_option linter.unusedVariables false
set_option linter.unusedSimpArgs false

theorem fault_nil (N : Net) : faultC N [] = checkN N := by
  unfold faultC
  by_cases h : checkN N ≠ 0
  · rw [if_pos h]
  · rw [if_neg h, if_neg (by unfold toldB; simp)]; omega
theorem fault_both {N : Net} {told : List Int} (h : faultC N [] ≠ 0) : faultC N told = faultC N [] := by
  rw [fault_nil] at h ⊢
  unfold faultC
  rw [if_pos h]
theorem fault_none {N : Net} {told : List Int} (h : faultC N told = 0) : faultC N [] = 0 := by rw [fault_nil]; exact (fault_cases h).1
theorem goN_rows {N : Net} : ∀ (l : List (List Int)) (was : List Int) (out : List (List Int)), (∀ r ∈ out, r.length = N.roots.length) → ∀ r ∈ (goN N l was out).1, r.length = N.roots.length := by
  intro l
  induction l with
  | nil => intro was out h r hr; exact h r hr
  | cons row t ih =>
    intro was out h r hr
    unfold goN at hr
    split at hr
    · exact h r hr
    · split at hr
      · exact h r hr
      · refine ih _ _ (fun y hy => ?_) r hr
        rcases List.mem_append.1 hy with hy | hy
        · exact h y hy
        · rw [List.mem_singleton.1 hy]; unfold rowN; rw [List.length_map]
theorem run_rows (N : Net) (l : List (List Int)) : ∀ r ∈ (runN N l).1, r.length = N.roots.length := by
  unfold runN
  split
  · intro r hr; simp at hr
  · exact goN_rows l [] [] (fun r hr => by simp at hr)
theorem goN_len {N : Net} : ∀ (l : List (List Int)) (was : List Int) (out : List (List Int)), (goN N l was out).1.length ≤ out.length + l.length := by
  intro l
  induction l with
  | nil => intro was out; exact Nat.le_refl _
  | cons row t ih =>
    intro was out
    unfold goN
    split
    · exact Nat.le_add_right _ _
    · split
      · exact Nat.le_add_right _ _
      · have := ih (instN N row was).1 (out ++ [rowN N (instN N row was).1])
        simp at this ⊢
        omega
theorem run_len (N : Net) (l : List (List Int)) : (runN N l).1.length ≤ l.length := by
  unfold runN
  split
  · exact Nat.zero_le _
  · have := goN_len (N := N) l [] []
    simpa using this
/-- The error of the first told that is none of the roots. -/
def tldF (N : Net) (told : List Int) (i : Nat) : Int := if checkN N ≠ 0 then checkN N else if (told.take i).all (isOp N.roots.length) then 0 else 1
theorem tldF_zero (N : Net) (told : List Int) : tldF N told 0 = checkN N := by
  unfold tldF
  split
  · rfl
  · rename_i h; rw [List.take_zero]; simp; omega
theorem tldF_all (N : Net) (told : List Int) (n : Nat) (h : told.length = n) : tldF N told n = faultC N told := by
  unfold tldF faultC toldB
  rw [← h, List.take_length]
  by_cases h1 : checkN N ≠ 0
  · rw [if_pos h1, if_pos h1]
  · rw [if_neg h1, if_neg h1]
    cases told.all (isOp N.roots.length) <;> simp
theorem tldF_succ {N : Net} {told : List Int} {i : Nat} {x : Int} (h0 : tldF N told i = 0) (h : told[i]? = some x) : tldF N told (i + 1) = if isOp N.roots.length x = true then 0 else 1 := by
  unfold tldF at h0 ⊢
  by_cases h1 : checkN N ≠ 0
  · rw [if_pos h1] at h0; exact absurd h0 h1
  · rw [if_neg h1] at h0 ⊢
    rw [List.take_add_one, h, List.all_append]
    cases ha : (told.take i).all (isOp N.roots.length) with
    | false => rw [ha] at h0; simp at h0
    | true => simp
theorem tldF_stays {N : Net} {told : List Int} {i n : Nat} (h0 : tldF N told i ≠ 0) (hi : i ≤ n) : tldF N told n = tldF N told i := by
  unfold tldF at h0 ⊢
  by_cases h1 : checkN N ≠ 0
  · rw [if_pos h1, if_pos h1]
  · rw [if_neg h1] at h0
    rw [if_neg h1, if_neg h1]
    cases ha : (told.take i).all (isOp N.roots.length) with
    | true => rw [ha] at h0; simp at h0
    | false =>
      have : (told.take n).all (isOp N.roots.length) = false := by
        rw [List.all_eq_false] at ha ⊢
        obtain ⟨x, hx, hn⟩ := ha
        refine ⟨x, ?_, hn⟩
        have e : told.take i = (told.take n).take i := by rw [List.take_take, Nat.min_eq_left hi]
        rw [e] at hx
        exact List.mem_of_mem_take hx
      rw [this]
end Go.Proofs.Ytcphjehjdhgheaa.Nt
