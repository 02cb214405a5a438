/- Names of what is joined; slices of expressions kept; nil slices among arguments. Conditions: none. -/
import Derived.Test.YtmggedjolocgdaaTreeT5
namespace Go.Proofs.Ytmggedjolocgdaa.Tr
open Go.ChangeShapes Go.WideShapes Go.ChangeAt Go.RowKit Go.Deep
set_option linter.unusedVariables false
set_option linter.unusedSimpArgs false

theorem pair_short (o : Int) {a b : List Nd} (ha : Short a) (hb : Short b) : Short (normB (pairM ⟨o, 0, []⟩ a b)) := by
  apply short_norm
  intro x hx
  unfold pairM at hx
  simp only [List.mem_append, List.mem_map, List.mem_singleton] at hx
  rcases hx with (hx | ⟨y, hy, rfl⟩) | rfl
  · exact ha x hx
  · exact hb y hy
  · have : (mkL ⟨o, 0, []⟩ [(a.length : Int) - 1, (a.length : Int) + (b.length : Int) - 1]).name = [] := by
      simp only [mkL]; split <;> rfl
    rw [this]; simp
theorem parts_below {w w' : World} {v : Value} {ls : List (List Nd)} (h : Parts w w.heap.size v ls) (hb : Below w.heap.size w w') : Parts w' w'.heap.size v ls := by
  obtain ⟨A, c, rfl, h1, h2, h3⟩ := h
  have hs := hb.size
  refine ⟨A, c, rfl, h1, h2, fun i l hi => ?_⟩
  obtain ⟨g, o, u, rfl, hgb, hg, c0, hu, hul⟩ := h3 i l hi
  exact ⟨g, o, u, rfl, by omega, by omega, (hb.cell (p := ⟨g, o + i, none⟩) hg).trans c0, hu.below hb (Nat.le_refl _), fun hp g o n c hh => by have := hul hp g o n c hh; omega⟩
/-- A nil slice among some has no room. -/
def NilZ (w : World) (v : Value) (ls : List (List Nd)) : Prop := ∀ (i g o n cap c : Nat), i < ls.length → v = .slice (some ⟨g, o, none⟩) n cap → w.cell? ⟨g, o + i, none⟩ = some (.slice none 0 c) → c = 0
theorem open_nilz {H : Type} {enc : TypeId × Value → H} {w : World} {base : Nat} {spare : Nat → Bool} {held : Bool} {r : Reach} {b0 : Nat} {v : Value} {d : DataW H} {p : List MemPlace} (hv : Value.okWide Try.prog w r b0 38 v) (h : DataW.Trod enc Try.prog w base spare held 38 v d p) (ls : List (List Nd)) (hl : ∀ A n c, v = .slice A n c → n = ls.length) : NilZ w v ls := by
  obtain ⟨a0, len, cap, rfl⟩ := okWide_slice Try.underlying38 hv
  have hle := hl _ _ _ rfl
  obtain ⟨fuel, hf⟩ := h
  intro i g o n cap' c hi hv' hc
  simp only [Value.slice.injEq] at hv'
  obtain ⟨rfl, rfl, rfl⟩ := hv'
  rcases open_slice Try.underlying38 hf with ⟨hcs, _⟩ | ⟨a, len', cap', m, n', D, Pl, hcs, hb, hl, hm, hmm, _, hi'⟩
  · simp [Value.cells] at hcs
  · simp [Value.cells] at hcs
    obtain ⟨rfl, rfl, rfl⟩ := hcs
    have hml : len ≤ m := by rw [hmm]; split <;> omega
    obtain ⟨cs', hcc, ht'⟩ := hi' i (by omega)
    obtain ⟨u, l, rfl, _, _, hz⟩ := trod_nodes Try.underlying23 ht'
    obtain ⟨_, hcl, hat⟩ := World.cells?_some hcc
    rw [cells23, Nat.mul_one] at hat
    have h0 := hat 0 (by omega)
    rw [Go.Deep.add_add, Nat.add_zero, add_none, hc] at h0
    simp at h0
    exact hz c h0.symm
end Go.Proofs.Ytmggedjolocgdaa.Tr
