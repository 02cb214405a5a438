/- A draft's nodes are kept: new numbers; a node more in the store. Conditions: none. -/
import Derived.Test.YtfohjlepknnleaaBdZ
namespace Go.Proofs.Ytfohjlepknnleaa.Bd
open Go.ChangeShapes Go.WideShapes Go.ChangeAt Go.RowKit
set_option linter.unusedVariables false
set_option linter.unusedSimpArgs false

set_option maxRecDepth 100000 in
set_option maxHeartbeats 1600000 in
/-- A function's new number. -/
theorem to_any (w : World) (a nb g size m : Nat) (M : Nat → Bool) (ha : w.cell? ⟨a, 0, none⟩ = some (.int .i64 (size : Int))) (hn : w.cell? ⟨nb, 0, none⟩ = some (.slice (some ⟨g, 0, none⟩) m m)) (hg : w.heap[g]? = some (.cells (numL size M m).toArray 3 (0, 0)))
    (y : Nat) (hy : y < size + m) (hm : y < size ∨ M (y - size) = true) (hs : size ≤ 10000) (hmm : m ≤ 2097152) :
    Calls Try.prog 46 #[.int .i64 (y : Int), .pointer (some ⟨a, 0, none⟩), .pointer (some ⟨nb, 0, none⟩)] w (fun e w' => e = .returned (.int .i64 (toM size M y : Nat)) ∧ w' = w) := by
  by_cases c : y < size
  · have hd : decide ((y : Int) < (size : Int)) = true := decide_eq_true (by omega)
    have HT : Hid (toM size M y = y) := Lib.hid (by unfold toM; rw [if_pos c])
    clear hg hm
    go_enter Try.func46, Try.ntmps46
    go_wp2_with fail
    refine bodyPost_ret (v := .int .i64 (y : Int)) (by simp [results, Try.results46, go_sem]) rfl ⟨by rw [HT.out], rfl⟩
  · have hd : decide ((y : Int) < (size : Int)) = false := decide_eq_false (by omega)
    obtain ⟨j, rfl⟩ : ∃ j, y = size + j := ⟨y - size, by omega⟩
    rw [Nat.add_sub_cancel_left] at hm
    have hmj : M j = true := by
      rcases hm with h | h
      · omega
      · exact h
    obtain ⟨x, hx⟩ : ∃ x : Int, ((size + j : Nat) : Int) = x := ⟨_, rfl⟩
    have hsub : x - (size : Int) = (j : Int) := by omega
    have HT : Hid (toM size M (size + j) = size + rk M j) := Lib.hid (by unfold toM; rw [if_neg (by omega), Nat.add_sub_cancel_left])
    have hjm : j < m := by omega
    have hc : w.cell? ⟨g, j, none⟩ = some (.int .i64 ((size + rk M j : Nat) : Int)) := by
      unfold World.cell?
      rw [hg]
      show (numL size M m).toArray[j]? = _
      rw [List.getElem?_toArray]
      unfold numL
      rw [List.getElem?_map, List.getElem?_range hjm]
      simp [hmj]
    have hxb : 0 ≤ x ∧ x ≤ 4194304 := by omega
    obtain ⟨hxb1, hxb2⟩ := hxb
    rw [hx] at hd ⊢
    clear hg hm hmj hx
    go_enter Try.func46, Try.ntmps46
    go_wp2_with fail
    refine bodyPost_ret (v := .int .i64 ((size + rk M j : Nat) : Int)) (by simp [results, Try.results46, go_sem]) rfl ⟨by rw [HT.out], rfl⟩

/-- The store while nodes are put into it: what lay lies as it lay, but its own blocks. -/
structure KS (P : Dp) (wl w : World) (nv' : Value) (N : List Nd) : Prop where
  box : StBox w P.b P.vars P.budget nv' (.map (some P.pb))
  row : w.ownsRow P.B 59 3 nv' N.length (ndC N)
  map : ∃ f, MapK Try.prog 59 okN litN w P.pb N.length f ∧ Tells 2 0 N f
  keep : ∀ g, g < wl.heap.size → g ≠ P.b → g ≠ P.pb → P.nv.ownBlock ≠ some g → w.heap[g]? = wl.heap[g]?
  own : ∀ g, nv'.ownBlock = some g → P.nv.ownBlock = some g ∨ wl.heap.size ≤ g
  size : wl.heap.size ≤ w.heap.size
  os : w.os = wl.os
  tape : w.tape = wl.tape
  output : w.output = wl.output

theorem KS.start {P : Dp} {w : World} {fv : Value} {F : List Nd} (hD : Dr P w fv F) : KS P w w P.nv P.S := by
  have h := hD.stv
  exact ⟨h.box, h.row, h.map, fun _ _ _ _ _ => rfl, fun g hg => .inl hg, Nat.le_refl _, rfl, rfl, rfl⟩
theorem KS.kept {P : Dp} {wl w w' : World} {nv' : Value} {N : List Nd} (h : KS P wl w nv' N) (hb : Below w.heap.size w w') : KS P wl w' nv' N := by
  obtain ⟨f, h1, h2⟩ := h.map
  exact ⟨h.box.below hb h.box.lt, own_below h.row hb, ⟨f, h1.below hb h1.lt, h2⟩, fun g a b c d => (hb.block g (Nat.lt_of_lt_of_le a h.size)).trans (h.keep g a b c d), h.own, Nat.le_trans h.size hb.size, hb.os.trans h.os, hb.tape.trans h.tape, hb.output.trans h.output⟩
/-- What is written beside the store. -/
theorem KS.set {P : Dp} {wl w : World} {nv' : Value} {N : List Nd} (h : KS P wl w nv' N) {n k : Nat} {u : Value} (hn : wl.heap.size ≤ n) (h1 : P.b < wl.heap.size) (h2 : P.pb < wl.heap.size) (ho : nv'.ownBlock ≠ some n) : KS P wl (w.setCell ⟨n, k, none⟩ u) nv' N := by
  obtain ⟨f, k1, k2⟩ := h.map
  have K : ∀ g, g ≠ n → (w.setCell ⟨n, k, none⟩ u).heap[g]? = w.heap[g]? := fun g h => Below.heap_setCell _ _ _ _ h
  exact ⟨⟨(K _ (by omega)).trans h.box.cell⟩, own_keep h.row (fun g hg => K g (fun e => ho (by rw [← e]; exact hg))), ⟨f, k1.keep (K _ (by omega)), k2⟩, fun g a b c d => (K g (by omega)).trans (h.keep g a b c d), h.own, by simpa [World.setCell] using h.size, h.os, h.tape, h.output⟩

theorem KS.step {P : Dp} {wl w1 w2 w6 w7 : World} {nv' : Value} {N : List Nd} {t lo hi q gg cap : Nat} {kf : Nd → Option Value} (h : KS P wl w1 nv' N) (hlb : P.b < wl.heap.size) (hlp : P.pb < wl.heap.size) (h2N : 2 ≤ N.length)
    (hT : Tells 2 0 N kf) (hkm : MapK Try.prog 59 okN litN w1 P.pb N.length kf)
    (hm2 : MapK Try.prog 59 okN litN w2 P.pb (N.length + 1) (fun x => if x = (t, lo, hi) then some (.int .i64 (N.length : Int)) else kf x)) (hg2 : (w1.drewN q).grownBy w2 (some P.pb))
    (hb6 : Below w2.heap.size w2 w6) (hg7 : w6.grownBy w7 nv'.ownBlock) (hown : w7.ownsRow P.B 59 3 (.slice (some ⟨gg, 0, none⟩) (N.length + 1) cap) (N.length + 1) (ndC N ++ [.int .i64 (t : Int), .int .i64 (lo : Int), .int .i64 (hi : Int)]))
    (hat : nv'.ownBlock = some gg ∨ w2.heap.size ≤ gg) :
    KS P wl (w7.setCell ⟨P.b, 2, none⟩ (.slice (some ⟨gg, 0, none⟩) (N.length + 1) cap)) (.slice (some ⟨gg, 0, none⟩) (N.length + 1) cap) (N ++ [(t, lo, hi)]) := by
  have hbl := h.box.lt
  have hpl := hkm.lt
  have hs2 : w1.heap.size ≤ w2.heap.size := hg2.size
  have hs6 := hb6.size
  have hs7 := hg7.size
  have hs1 := h.size
  have e2 : ∀ g, g < w1.heap.size → g ≠ P.pb → w2.heap[g]? = w1.heap[g]? := fun g hg hne => hg2.block g hg (fun e => hne (by injection e))
  have e6 : ∀ g, g < w2.heap.size → w6.heap[g]? = w2.heap[g]? := fun g hg => hb6.block g hg
  have e7 : ∀ g, g < w6.heap.size → nv'.ownBlock ≠ some g → w7.heap[g]? = w6.heap[g]? := fun g hg hne => hg7.block g hg (fun e => hne e.symm)
  have E : ∀ g, g < w1.heap.size → g ≠ P.pb → nv'.ownBlock ≠ some g → w7.heap[g]? = w1.heap[g]? := fun g hg a b => by rw [e7 g (by omega) b, e6 g (by omega), e2 g hg a]
  have nk : P.b ≠ P.pb := map_ne hkm h.box.cell
  have nd : nv'.ownBlock ≠ some P.b := own_ne h.row h.box.cell (by decide)
  have nm : nv'.ownBlock ≠ some P.pb := own_nm h.row hkm
  have hbox7 : w7.heap[P.b]? = some (.cells #[.int .i64 (P.vars : Int), .int .i64 (P.budget : Int), nv', .map (some P.pb)] 63 (0, 0)) := (E _ hbl nk nd).trans h.box.cell
  have hgg : gg ≠ P.b := fun e => by
    obtain ⟨cs, h2⟩ := own_type hown (g := gg) rfl
    rw [e, hbox7] at h2
    injection h2 with h2
    injection h2 with _ h3 _
    exact absurd h3 (by decide)
  have hkk : (w7.setCell ⟨P.b, 2, none⟩ (.slice (some ⟨gg, 0, none⟩) (N.length + 1) cap)).heap[P.pb]? = w2.heap[P.pb]? := (Below.heap_setCell w7 ⟨P.b, 2, none⟩ _ P.pb (fun e => nk e.symm)).trans ((e7 P.pb (by omega) nm).trans (e6 P.pb (by omega)))
  refine ⟨⟨?_⟩, ?_, ⟨_, by rw [List.length_append, List.length_singleton]; exact hm2.keep hkk, ?_, ?_⟩, ?_, ?_, ?_, ?_, ?_, ?_⟩
  · simp [World.setCell, Array.getElem?_modify, hbox7]
  · rw [List.length_append, List.length_singleton, ndC_snoc]
    refine own_keep hown (fun g hg => ?_)
    have : g = gg := by simpa [Value.ownBlock] using hg.symm
    subst this
    exact Below.heap_setCell _ _ _ _ hgg
  · intro n hn i hi2 hh
    by_cases c : n = (t, lo, hi)
    · rw [if_pos c] at hn; cases hn
    · rw [if_neg c] at hn
      by_cases d : i < N.length
      · rw [List.getElem?_append_left d] at hh
        exact hT.no n hn i hi2 hh
      · have hl := (List.getElem?_eq_some_iff.mp hh).1
        rw [List.length_append, List.length_singleton] at hl
        obtain rfl : i = N.length := by omega
        rw [List.getElem?_append_right (Nat.le_refl _), Nat.sub_self] at hh
        exact c (by simpa using hh.symm)
  · intro n v hn
    by_cases c : n = (t, lo, hi)
    · rw [if_pos c] at hn
      injection hn with hn
      exact ⟨N.length, h2N, by rw [← hn, Nat.zero_add], by rw [List.getElem?_append_right (Nat.le_refl _), Nat.sub_self, c]; rfl⟩
    · rw [if_neg c] at hn
      obtain ⟨i, a, b, d⟩ := hT.yes n v hn
      exact ⟨i, a, b, by rw [List.getElem?_append_left (lt_of d)]; exact d⟩
  · intro g hg a1 a2 a3
    have hno : nv'.ownBlock ≠ some g := fun e => by
      rcases h.own g e with e1 | e1
      · exact a3 e1
      · omega
    rw [Below.heap_setCell _ _ _ _ a1, E g (by omega) a2 hno]
    exact h.keep g hg a1 a2 a3
  · intro g hg
    have : gg = g := by simpa [Value.ownBlock] using hg
    subst this
    rcases hat with e | e
    · exact h.own gg e
    · exact .inr (by omega)
  · simp [World.setCell]; omega
  · exact hg7.os.trans (hb6.os.trans (hg2.os.trans h.os))
  · exact hg7.tape.trans (hb6.tape.trans (hg2.tape.trans h.tape))
  · exact hg7.output.trans (hb6.output.trans (hg2.output.trans h.output))
end Go.Proofs.Ytfohjlepknnleaa.Bd
