/- Which nodes are needed: a node is marked. Conditions: none. -/
import Derived.Test.YtfohjlepknnleaaBdW
import Derived.Test.YtfohjlepknnleaaBdX
import Derived.Test.YtfohjlepknnleaaBdJ0
namespace Go.Proofs.Ytfohjlepknnleaa.Bd
open Go.ChangeShapes Go.WideShapes Go.ChangeAt Go.RowKit
set_option linter.unusedVariables false
set_option linter.unusedSimpArgs false

/-- The row of marks: 0 where there is one, else -1. -/
def mkL (M : Nat → Bool) (m : Nat) : List Value := (List.range m).map (fun i => Value.int .i64 (if M i then 0 else -1))
theorem mkL_len (M : Nat → Bool) (m : Nat) : (mkL M m).length = m := by unfold mkL; simp
theorem mkL_at {M : Nat → Bool} {m i : Nat} (h : i < m) : (mkL M m)[i]? = some (.int .i64 (if M i then 0 else -1)) := by
  unfold mkL; rw [List.getElem?_map, List.getElem?_range h]; rfl
theorem mkL_none (m : Nat) : mkL (fun _ => false) m = repL (-1) m m := by
  unfold mkL repL
  apply List.ext_getElem?
  intro i
  rw [List.getElem?_map]
  by_cases h : i < m
  · rw [List.getElem?_range h, List.getElem?_append_left (by simpa using h), List.getElem?_replicate, if_pos h]; rfl
  · rw [List.getElem?_eq_none (by simpa using h), List.getElem?_eq_none (by simp; omega)]; rfl
theorem mkL_mark {M : Nat → Bool} {m size x : Nat} (h : size ≤ x) (h2 : x - size < m) : (mkL M m).set (x - size) (.int .i64 0) = mkL (mark size x M) m := by
  apply List.ext_getElem?
  intro i
  by_cases hi : i < m
  · have hq : (mkL M m)[i]? = some (.int .i64 (if M i then 0 else -1)) := mkL_at hi
    rw [mkL_at hi, List.getElem?_set, hq, mkL_len]
    have hmk : mark size x M i = if size ≤ x ∧ i = x - size then true else M i := rfl
    rw [hmk]
    by_cases e : x - size = i
    · have : size ≤ x ∧ i = x - size := ⟨h, e.symm⟩
      rw [if_pos e, if_pos h2, if_pos this]
      rfl
    · have : ¬ (size ≤ x ∧ i = x - size) := fun hh => e hh.2.symm
      rw [if_neg e, if_neg this]
  · rw [List.getElem?_eq_none (by rw [List.length_set, mkL_len]; omega), List.getElem?_eq_none (by rw [mkL_len]; omega)]
theorem mark_less {M : Nat → Bool} {size x : Nat} (h : x < size) : mark size x M = M := by
  funext j; unfold mark; rw [if_neg (by omega)]
theorem row_set {w : World} {b k : Nat} {l : List Value} {T : TypeId} {u : Value} (h : w.heap[b]? = some (.cells l.toArray T (0, 0))) : (w.setCell ⟨b, k, none⟩ u).heap[b]? = some (.cells (l.set k u).toArray T (0, 0)) := by
  simp [World.setCell, Array.getElem?_modify, h]

/-- What a mark is put into: the box of the size, the box of the row, the row. -/
structure NeedAt (w : World) (a nb g size m : Nat) (M : Nat → Bool) : Prop where
  a0 : w.heap[a]? = some (.cells #[.int .i64 (size : Int)] 3 (0, 0))
  n0 : w.heap[nb]? = some (.cells #[.slice (some ⟨g, 0, none⟩) m m] 78 (0, 0))
  row : w.heap[g]? = some (.cells (mkL M m).toArray 3 (0, 0))
  ne : g ≠ a ∧ g ≠ nb
theorem NeedAt.ats {w : World} {a nb g size m : Nat} {M : Nat → Bool} (h : NeedAt w a nb g size m M) :
    w.cell? ⟨a, 0, none⟩ = some (.int .i64 (size : Int)) ∧ w.cell? ⟨nb, 0, none⟩ = some (.slice (some ⟨g, 0, none⟩) m m) ∧ (∀ i, i < m → w.cell? ⟨g, i, none⟩ = some (.int .i64 (if M i then 0 else -1))) ∧ ∀ i, w.frozen? ⟨g, i, none⟩ = false := by
  refine ⟨by unfold World.cell?; rw [h.a0]; rfl, by unfold World.cell?; rw [h.n0]; rfl, fun i hi => ?_, fun i => by unfold World.frozen?; rw [h.row]; rfl⟩
  unfold World.cell?
  rw [h.row]
  show (mkL M m).toArray[i]? = _
  rw [List.getElem?_toArray, mkL_at hi]

set_option maxRecDepth 100000 in
set_option maxHeartbeats 1600000 in
theorem need_any (w : World) (a nb g size m : Nat) (M : Nat → Bool) (h : NeedAt w a nb g size m M) (x : Int) (hx : x < (size : Int) + (m : Int)) (hx0 : -1 ≤ x) (hs : size ≤ 10000) (hm : m ≤ 2097152) :
    Calls Try.prog 56 #[.int .i64 x, .pointer (some ⟨a, 0, none⟩), .pointer (some ⟨nb, 0, none⟩)] w (fun e w' => e = .returned (.tuple #[]) ∧ NeedAt w' a nb g size m (if (size : Int) ≤ x then mark size x.toNat M else M) ∧ (w' = w ∨ ∃ k u, w' = w.setCell ⟨g, k, none⟩ u)) := by
  obtain ⟨y0, y1, y2, y3⟩ := h.ats
  have HH := Lib.hid h
  obtain ⟨M2, hM2⟩ : ∃ N, (if (size : Int) ≤ x then mark size x.toNat M else M) = N := ⟨_, rfl⟩
  rw [hM2]
  have HM2 := Lib.hid hM2
  clear h hM2
  by_cases c : (size : Int) ≤ x
  · have hd : decide ((size : Int) ≤ x) = true := decide_eq_true c
    obtain ⟨j, hj⟩ : ∃ j : Nat, x = (size : Int) + (j : Int) := ⟨(x - size).toNat, by omega⟩
    have hsub : x - (size : Int) = (j : Int) := by omega
    have hjm : j < m := by omega
    have z := y2 j hjm
    have zf := y3 j
    have HE : Hid (NeedAt (w.setCell ⟨g, j, none⟩ (.int .i64 0)) a nb g size m M2) := Lib.hid (by
      obtain ⟨n1, n2⟩ := HH.out.ne
      rw [← HM2.out, if_pos c]
      have ex : x.toNat = size + j := by omega
      refine ⟨(Below.heap_setCell _ _ _ _ (fun e => n1 e.symm)).trans HH.out.a0, (Below.heap_setCell _ _ _ _ (fun e => n2 e.symm)).trans HH.out.n0, ?_, ⟨n1, n2⟩⟩
      have h1 := row_set (k := j) (u := .int .i64 0) HH.out.row
      have h2 := mkL_mark (M := M) (m := m) (size := size) (x := size + j) (by omega) (by omega)
      rw [Nat.add_sub_cancel_left] at h2
      rw [h1, ex, h2])
    clear y2 y3 hj
    go_enter Try.func56, Try.ntmps56
    go_wp2_with fail
    go_end0
    exact ⟨rfl, HE.out, .inr ⟨_, _, rfl⟩⟩
  · have hd : decide ((size : Int) ≤ x) = false := decide_eq_false c
    clear y2 y3
    go_enter Try.func56, Try.ntmps56
    go_wp2_with fail
    go_end0
    refine ⟨rfl, ?_, .inl rfl⟩
    rw [← HM2.out, if_neg (by omega)]
    exact HH.out
end Go.Proofs.Ytfohjlepknnleaa.Bd
