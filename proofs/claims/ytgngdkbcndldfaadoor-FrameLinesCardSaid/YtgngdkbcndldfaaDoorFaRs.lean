/- Parts of a row of rows. Conditions: none. -/
import Derived.Test.YtgngdkbcndldfaaDoorFaB
namespace Go.Proofs.YtgngdkbcndldfaaDoor.Fr
open Go.ChangeShapes Go.WideShapes Go.ChangeAt Go.RowKit Go.Proofs.YtgngdkbcndldfaaDoor.Tr
theorem RowsR.front {w : World} {A : Option Addr} {n c k d : Nat} {l m : List (List Int)} (h : RowsR w (.slice A n c) (l ++ m)) (hk : l.length = k) (hd : k ≤ d) (hm : d ≤ maxLen) : RowsR w (.slice A k d) l := by
  obtain ⟨A', c', e, h1, h2, h3⟩ := h
  simp only [Value.slice.injEq] at e
  obtain ⟨rfl, rfl, rfl⟩ := e
  subst hk
  refine ⟨A, d, rfl, hd, hm, fun i r hi => h3 i r ?_⟩
  rw [List.getElem?_append_left (List.getElem?_eq_some_iff.1 hi).1, hi]
theorem RowsR.back {w : World} {g o n c k j d : Nat} {l m : List (List Int)} (h : RowsR w (.slice (some ⟨g, o, none⟩) n c) (l ++ m)) (hk : l.length = k) (hj : m.length = j) (hd : j ≤ d) (hm : d ≤ maxLen) : RowsR w (.slice (some ⟨g, o + k, none⟩) j d) m := by
  obtain ⟨A', c', e, h1, h2, h3⟩ := h
  simp only [Value.slice.injEq] at e
  obtain ⟨e, rfl, rfl⟩ := e
  subst hk hj
  refine ⟨some ⟨g, o + l.length, none⟩, d, rfl, hd, hm, fun i r hi => ?_⟩
  obtain ⟨g', o', u, hg, hlt, hc, hI⟩ := h3 (l.length + i) r (by rw [List.getElem?_append_right (Nat.le_add_right _ _), Nat.add_sub_cancel_left, hi])
  subst e
  simp only [Option.some.injEq, Addr.mk.injEq, and_true] at hg
  obtain ⟨rfl, rfl⟩ := hg
  exact ⟨g, o + l.length, u, rfl, hlt, by rw [Nat.add_assoc]; exact hc, hI⟩
theorem rows_none {w : World} {A : Option Addr} {d : Nat} (hm : d ≤ maxLen) : RowsR w (.slice A 0 d) [] := ⟨A, d, rfl, Nat.zero_le _, hm, fun i r h => by simp at h⟩
def cutP (A : Option Addr) (c k : Nat) : Option Addr := if c = k then A else A.map (·.add k)
theorem cut_h (A : Option Addr) (n c k : Nat) (w : World) (h2 : (k : Int) ≤ (c : Int)) : (Instr.sliceAt 24 (.slice A n c) none (some (.int .i64 (k : Int))) none).run Tryd.prog w = .ok (.slice (cutP A c 0) k c) w := by
  simp [go_sem, h2, cutP]
theorem cut_l (A : Option Addr) (n c k : Nat) (w : World) (h2 : (k : Int) ≤ (n : Int)) : (Instr.sliceAt 24 (.slice A n c) (some (.int .i64 (k : Int))) none none).run Tryd.prog w = .ok (.slice (cutP A c k) (n - k) (c - k)) w := by
  simp [go_sem, h2, cutP]
theorem RowsR.lo {w : World} {A : Option Addr} {n c k : Nat} {l m : List (List Int)} (h : RowsR w (.slice A n c) (l ++ m)) (hk : l.length = k) : RowsR w (.slice (cutP A c 0) k c) l := by
  obtain ⟨_, c', e, h1, h2⟩ := h.form
  simp only [Value.slice.injEq] at e
  obtain ⟨-, rfl, rfl⟩ := e
  rw [List.length_append] at h1
  by_cases hk0 : k = 0
  · subst hk0
    obtain rfl := List.length_eq_zero_iff.1 hk
    exact rows_none h2
  · obtain ⟨r, hr⟩ : ∃ r, (l ++ m)[0]? = some r := ⟨_, List.getElem?_eq_getElem (by rw [List.length_append]; omega)⟩
    obtain ⟨g, o, B, d, rfl, _⟩ := h.at hr
    have e : cutP (some ⟨g, o, none⟩) c 0 = some ⟨g, o, none⟩ := by unfold cutP; split <;> rfl
    rw [e]
    exact h.front hk (by omega) h2
theorem RowsR.hi {w : World} {A : Option Addr} {n c k : Nat} {l m : List (List Int)} (h : RowsR w (.slice A n c) (l ++ m)) (hk : l.length = k) : RowsR w (.slice (cutP A c k) (n - k) (c - k)) m := by
  obtain ⟨_, c', e, h1, h2⟩ := h.form
  simp only [Value.slice.injEq] at e
  obtain ⟨-, rfl, rfl⟩ := e
  rw [List.length_append] at h1
  have hj : (l ++ m).length - k = m.length := by rw [List.length_append]; omega
  rw [hj]
  by_cases hm : m = []
  · subst hm
    exact rows_none (by omega)
  · have hm' := List.length_pos_iff.2 hm
    obtain ⟨r, hr⟩ : ∃ r, (l ++ m)[0]? = some r := ⟨_, List.getElem?_eq_getElem (by rw [List.length_append]; omega)⟩
    obtain ⟨g, o, B, d, rfl, _⟩ := h.at hr
    have e : cutP (some ⟨g, o, none⟩) c k = some ⟨g, o + k, none⟩ := by unfold cutP; rw [if_neg (by omega), Option.map_some]; congr 1; unfold Addr.add; split <;> simp_all
    rw [e]
    exact h.back hk rfl (by omega) (by omega)
end Go.Proofs.YtgngdkbcndldfaaDoor.Fr
