/- Some answers that the document gives, as plain nodes; slices of slices that a call lays. Conditions: none. -/
import Derived.Test.YtmggedjolocgdaaTreePe
import Derived.Test.YtmggedjolocgdaaTreeF2
import Derived.Test.YtmggedjolocgdaaTreeCp
namespace Go.Proofs.Ytmggedjolocgdaa.Tr
open Go.ChangeShapes Go.WideShapes Go.ChangeAt Go.RowKit
set_option linter.unusedVariables false
set_option linter.unusedSimpArgs false

/-- What an expression in order is. -/
theorem flat_norm (t : T) (h : t.okB = true) (hr : t.lab.op ≠ 28) (hs : t.size ≤ 5000) (hd : t.depth ≤ 40) : mayB (t.flat 0) = true ∧ normB (t.flat 0) = t.flat 0 ∧ depthM (t.flat 0) = t.depth := by
  have hm := may_flat t h hr hs hd
  have hp := hm.pos
  have hroot := root_flat t h
  refine ⟨may_yes hm, ?_, ?_⟩
  · unfold normB subM
    rw [if_pos ⟨may_yes hm, by omega, by omega⟩, show (((t.flat 0).length : Int) - 1).toNat = (t.flat 0).length - 1 by omega]
    show (root (t.flat 0)).flat 0 = _
    rw [hroot]
  · rw [← hm.root_depth, hroot]
def la : Lab := ⟨3, 0, [97]⟩
def lb : Lab := ⟨1, 7, []⟩
def ea : List Nd := [mkL la []]
def eb : List Nd := [mkL lb []]
def te : T := .l2 ⟨13, 0, []⟩ (.l0 la) (.l0 lb)
def tc : T := .l1 ⟨27, 0, [102]⟩ (.l2 ⟨28, 0, []⟩ (.l1 ⟨28, 0, []⟩ (.l0 la)) te)
def ee : List Nd := te.flat 0
def ec : List Nd := tc.flat 0
theorem live_a : joinM 3 0 [97] [] = ea := by decide
theorem live_b : joinM 1 7 [] [] = eb := by decide
theorem live_e : joinM 13 0 [] [ea, eb] = ee := by decide
theorem live_c : joinM 27 0 [102] [ea, ee] = ec := by decide +kernel
theorem live_n : joinM 13 0 [] [ea] = [] := by decide
theorem live_ee : mayB ee = true ∧ normB ee = ee ∧ depthM ee = 2 := flat_norm te (by decide) (by decide) (by decide) (by decide)
theorem live_ec : mayB ec = true ∧ normB ec = ec ∧ depthM ec = 4 := flat_norm tc (by decide) (by decide) (by decide) (by decide)
theorem live_s : subM ec 4 = ee := by
  unfold subM
  rw [if_pos ⟨live_ec.1, by decide, by decide⟩]
  have : tree ec (4 : Int).toNat = te := by decide
  rw [this]; rfl
theorem live_v : varsM ec = [[97]] := by
  unfold varsM; rw [live_ec.2.1]; decide
theorem live_p : (putM ee [[97]] [ec]).length = 9 := by
  rw [putM_eq, live_ee.2.1, if_neg (by decide), if_pos (by decide), if_pos (by intro p hp; simp at hp; subst hp; rw [live_ec.2.1]; decide)]
  simp only [List.map_cons, List.map_nil, live_ec.2.1]
  decide +kernel
theorem live_room : roomOf (putP [[97]] ([ec].map normB)) (normB ee) ≤ 80000 := by
  simp only [List.map_cons, List.map_nil, live_ec.2.1, live_ee.2.1]
  decide +kernel
theorem parts_none (w : World) : Parts w w.heap.size (.slice none 0 0) [] := ⟨none, 0, rfl, by simp, by unfold maxLen; omega, fun i t h => by simp at h⟩
theorem nodes_low {w : World} {u : Value} {l : List Nd} (h : Nodes w u l) : 0 < l.length → ∀ g o n c, u = .slice (some ⟨g, o, none⟩) n c → g < w.heap.size := by
  intro hp g o n c hu
  obtain ⟨A', c', e1, _, _, hA⟩ := h
  obtain ⟨g2, o2, hA2, hlt, _⟩ := hA 0 _ (List.getElem?_eq_getElem hp)
  rw [e1, hA2] at hu
  simp only [Value.slice.injEq, Option.some.injEq, Addr.mk.injEq, and_true] at hu
  omega
theorem parts_two {w : World} {u v : Value} {l m : List Nd} (hu : Nodes w u l) (hv : Nodes w v m) : Parts (w.alloc (.cells #[u, v] 23)) (w.alloc (.cells #[u, v] 23)).heap.size (.slice (some ⟨w.heap.size, 0, none⟩) 2 2) [l, m] := by
  refine ⟨some ⟨w.heap.size, 0, none⟩, 2, rfl, by simp, by unfold maxLen; omega, fun i x hx => ?_⟩
  have hn := heap_alloc_new w (.cells #[u, v] 23)
  have hb := below_new w (.cells #[u, v] 23)
  match i, hx with
  | 0, hx =>
    simp at hx; subst hx
    have := hu.below hb (Nat.le_refl _)
    exact ⟨w.heap.size, 0, u, rfl, by simp, by simp, by unfold World.cell?; rw [hn]; rfl, this, nodes_low this⟩
  | 1, hx =>
    simp at hx; subst hx
    have := hv.below hb (Nat.le_refl _)
    exact ⟨w.heap.size, 0, v, rfl, by simp, by simp, by unfold World.cell?; rw [hn]; rfl, this, nodes_low this⟩
  | i + 2, hx => simp at hx
theorem parts_one {w : World} {u : Value} {l : List Nd} (hu : Nodes w u l) : Parts (w.alloc (.cells #[u] 23)) (w.alloc (.cells #[u] 23)).heap.size (.slice (some ⟨w.heap.size, 0, none⟩) 1 1) [l] := by
  refine ⟨some ⟨w.heap.size, 0, none⟩, 1, rfl, by simp, by unfold maxLen; omega, fun i x hx => ?_⟩
  have hn := heap_alloc_new w (.cells #[u] 23)
  have hb := below_new w (.cells #[u] 23)
  match i, hx with
  | 0, hx =>
    simp at hx; subst hx
    have := hu.below hb (Nat.le_refl _)
    exact ⟨w.heap.size, 0, u, rfl, by simp, by simp, by unfold World.cell?; rw [hn]; rfl, this, nodes_low this⟩
  | i + 1, hx => simp at hx
theorem strs_one (w : World) (s : Bytes) : Strs (w.alloc (.cells #[.string (str s)] 9)) (.slice (some ⟨w.heap.size, 0, none⟩) 1 1) [s] := by
  refine ⟨some ⟨w.heap.size, 0, none⟩, 1, rfl, by simp, by unfold maxLen; omega, fun i x hx => ?_⟩
  have hn := heap_alloc_new w (.cells #[.string (str s)] 9)
  match i, hx with
  | 0, hx =>
    simp at hx; subst hx
    exact ⟨w.heap.size, 0, rfl, by simp, by unfold World.cell?; rw [hn]; rfl⟩
  | i + 1, hx => simp at hx
/-- A row's nodes, by their cells. -/
theorem own_nd {w : World} {b : Nat} {v : Value} {l : List Nd} (h : w.ownsRow b 30 6 v l.length (ndsOf l)) {i : Nat} {x : Nd} (hx : l[i]? = some x) : ∃ g cap, v = .slice (some ⟨g, 0, none⟩) l.length cap ∧ l.length ≤ cap ∧ cap ≤ maxLen ∧ g < w.heap.size ∧ ∀ k, k < 6 → w.cell? ⟨g, i * 6 + k, none⟩ = (ndCells x)[k]? := by
  have hil := (List.getElem?_eq_some_iff.1 hx).1
  rcases h.2 with ⟨rfl, h0⟩ | ⟨g, cap, cur, rfl, hb, hh, hnc, hcm, hcs, hct⟩
  · omega
  · refine ⟨g, cap, rfl, hnc, hcm, lt_of_block hh, fun k hk => ?_⟩
    rw [h.cellAt _ (by omega), nds_at l i x hx k hk]
end Go.Proofs.Ytmggedjolocgdaa.Tr
