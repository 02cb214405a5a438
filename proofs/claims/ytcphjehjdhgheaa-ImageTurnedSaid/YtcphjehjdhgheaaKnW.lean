/- Of code that may be: its first instructions, and more registers and slots, as plain functions. Conditions: none. Of code that may be each number has 64 bits. Conditions: none. -/
import Derived.Test.YtcphjehjdhgheaaKnP
namespace Go.Proofs.Ytcphjehjdhgheaa.Nt
set_option linter.unusedVariables false
set_option linter.unusedSimpArgs false

theorem numB_more {nin : Nat} {s s' : Int} (hs : s ≤ s') {x : Ins6} (h : numB nin s x = true) : numB nin s' x = true := by
  unfold numB at h ⊢
  split
  · rename_i e; rw [if_pos e] at h; exact h
  · rename_i e
    rw [if_neg e] at h
    split
    · rename_i e1; rw [if_pos e1] at h; exact h
    · rename_i e1
      rw [if_neg e1] at h
      split
      · rename_i e2; rw [if_pos e2] at h; exact h
      · rename_i e2
        rw [if_neg e2] at h
        split
        · rename_i e3
          rw [if_pos e3] at h
          simp only [Bool.and_eq_true, decide_eq_true_eq] at h ⊢
          omega
        · rename_i e3; rw [if_neg e3] at h; exact h
theorem okI_more {nin : Nat} {r r' s s' : Int} (hr : r ≤ r') (hs : s ≤ s') {st : List Int × List Int} {x : Ins6} (h : okI nin r s st x = true) : okI nin r' s' st x = true := by
  unfold okI at h ⊢
  simp only [Bool.and_eq_true] at h ⊢
  obtain ⟨⟨⟨⟨h1, h2⟩, h3⟩, h4⟩, h5⟩ := h
  refine ⟨⟨⟨⟨h1, h2⟩, numB_more hs h3⟩, h4⟩, ?_⟩
  split
  · rename_i e; rw [if_pos e] at h5; exact h5
  · rename_i e
    rw [if_neg e] at h5
    simp only [Bool.and_eq_true, decide_eq_true_eq] at h5 ⊢
    exact ⟨h5.1, by omega⟩
theorem goK_more {nin : Nat} {r r' s s' : Int} (hr : r ≤ r') (hs : s ≤ s') : ∀ (l : List Ins6) (st st' : List Int × List Int), goK nin r s l st = some st' → goK nin r' s' l st = some st' := by
  intro l
  induction l with
  | nil => intro st st' h; exact h
  | cons x t ih =>
    intro st st' h
    unfold goK at h ⊢
    by_cases hok : okI nin r s st x = true
    · rw [if_pos hok] at h
      rw [if_pos (okI_more hr hs hok)]
      exact ih _ _ h
    · rw [if_neg hok] at h; exact absurd h (by simp)
theorem check_parts {C : Cod} : checkK C = 0 ↔ sizedB C = true ∧ ∃ s, goK C.inp.length C.regs C.slots C.ins ([], []) = some s ∧ C.outs.all (fun k => s.1.contains k) = true := by
  unfold checkK
  cases hs : sizedB C with
  | false => simp
  | true =>
    cases hg : goK C.inp.length C.regs C.slots C.ins ([], []) with
    | none => simp
    | some s => cases ho : C.outs.all (fun k => s.1.contains k) <;> simp_all
theorem fewer_check {C : Cod} (h : checkK C = 0) (n : Nat) : checkK ⟨C.ins.take n, C.regs, C.slots, [], C.inp⟩ = 0 := by
  obtain ⟨h1, s, h2, h3⟩ := check_parts.1 h
  refine check_parts.2 ⟨?_, ?_⟩
  · unfold sizedB at h1 ⊢
    simp only [Bool.and_eq_true, decide_eq_true_eq] at h1 ⊢
    refine ⟨h1.1, ?_⟩
    have := h1.2
    simp only [List.length_take]
    omega
  · have e : C.ins = C.ins.take n ++ C.ins.drop n := (List.take_append_drop n C.ins).symm
    rw [e, goK_app] at h2
    cases hg : goK C.inp.length C.regs C.slots (C.ins.take n) ([], []) with
    | none => rw [hg] at h2; simp at h2
    | some t => exact ⟨t, rfl, rfl⟩
theorem more_check {C : Cod} (h : checkK C = 0) (more : Int) (h0 : 0 ≤ more) (hr : C.regs + more ≤ 100000) (hs : C.slots + more ≤ 100000) : checkK ⟨C.ins, C.regs + more, C.slots + more, C.outs, C.inp⟩ = 0 := by
  obtain ⟨h1, s, h2, h3⟩ := check_parts.1 h
  refine check_parts.2 ⟨?_, s, goK_more (show C.regs ≤ C.regs + more by omega) (show C.slots ≤ C.slots + more by omega) _ _ _ h2, h3⟩
  unfold sizedB at h1 ⊢
  simp only [Bool.and_eq_true, decide_eq_true_eq] at h1 ⊢
  omega
end Go.Proofs.Ytcphjehjdhgheaa.Nt

namespace Go.Proofs.Ytcphjehjdhgheaa.Nt
set_option linter.unusedVariables false
set_option linter.unusedSimpArgs false

theorem go_oks (nin : Nat) (regs slots : Int) : ∀ (l : List Ins6) (s s' : List Int × List Int), goK nin regs slots l s = some s' → ∀ x ∈ l, ∃ s0, okI nin regs slots s0 x = true := by
  intro l
  induction l with
  | nil => intro s s' h x hx; simp at hx
  | cons y t ih =>
    intro s s' h x hx
    unfold goK at h
    by_cases hok : okI nin regs slots s y = true
    · rw [if_pos hok] at h
      rcases List.mem_cons.1 hx with rfl | hx
      · exact ⟨s, hok⟩
      · exact ih _ _ h x hx
    · rw [if_neg hok] at h; exact absurd h (by simp)
theorem codw_of {c : Cod} (h : checkK c = 0) (hi : c.inp.length ≤ 100000) : CodW c := by
  have hF := check_fits h
  obtain ⟨h1, s, h2, h3⟩ := check_parts.1 h
  obtain ⟨r1, r2⟩ := hF.regs
  obtain ⟨r3, r4⟩ := hF.slots
  refine ⟨fun x hx => ?_, fun k hk => ?_⟩
  · have hr := hF.ins x hx
    obtain ⟨s0, ho⟩ := go_oks _ _ _ _ _ _ h2 x hx
    unfold okI at ho
    simp only [Bool.and_eq_true] at ho
    obtain ⟨⟨⟨⟨o1, o2⟩, o3⟩, o4⟩, o5⟩ := ho
    have all3 : ∀ k ∈ [x.a, x.b, x.c], W64 k := fun k hk => by
      have e : [x.a, x.b, x.c] = readsI x ++ [x.a, x.b, x.c].drop (nrd x.op).toNat := by unfold readsI; exact (List.take_append_drop _ _).symm
      rw [e] at hk
      rcases List.mem_append.1 hk with hk | hk
      · have := hr.fit.fld k hk
        exact w64_of (by omega) (by omega)
      · unfold restB at o2
        rw [List.all_eq_true] at o2
        have := o2 k hk
        have : k = 0 := by simpa using this
        subst this
        exact w64_of (by omega) (by omega)
    have hn : W64 x.n := by
      unfold numB at o3
      split at o3
      · simp only [Bool.and_eq_true, decide_eq_true_eq] at o3
        exact w64_of (by omega) (by omega)
      · split at o3
        · unfold fitsI at o3
          simp only [Bool.and_eq_true, decide_eq_true_eq] at o3
          exact w64_of (by omega) (by omega)
        · split at o3
          · simp only [Bool.and_eq_true, decide_eq_true_eq] at o3
            exact w64_of (by omega) (by omega)
          · split at o3
            · simp only [Bool.and_eq_true, decide_eq_true_eq] at o3
              exact w64_of (by omega) (by omega)
            · have : x.n = 0 := by simpa using o3
              rw [this]
              exact w64_of (by omega) (by omega)
    have hd : W64 x.d := by
      split at o5
      · simp only [Bool.and_eq_true] at o5
        have : x.d = 0 := by simpa using o5.1
        rw [this]
        exact w64_of (by omega) (by omega)
      · simp only [Bool.and_eq_true, decide_eq_true_eq] at o5
        exact w64_of (by omega) (by omega)
    exact ⟨all3 _ (by simp), all3 _ (by simp), all3 _ (by simp), hn, hd⟩
  · have := hF.outs k hk
    exact w64_of (by omega) (by omega)
theorem CodW.take {C : Cod} (h : CodW C) (n : Nat) : CodW ⟨C.ins.take n, C.regs, C.slots, [], C.inp⟩ := ⟨fun x hx => h.1 x (List.mem_of_mem_take hx), fun k hk => by simp at hk⟩
theorem CodW.more {C : Cod} (h : CodW C) (r s : Int) : CodW ⟨C.ins, r, s, C.outs, C.inp⟩ := h
end Go.Proofs.Ytcphjehjdhgheaa.Nt
