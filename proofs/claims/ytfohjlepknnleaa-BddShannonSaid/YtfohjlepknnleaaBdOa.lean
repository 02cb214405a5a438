/- The document's tables: the same everywhere, a variable. Conditions: at most 20 variables. -/
import Derived.Test.YtfohjlepknnleaaBdNf
import Derived.Test.YtfohjlepknnleaaBdMap
import Derived.Test.YtfohjlepknnleaaBdL
import Derived.IntWalk
namespace Go.Proofs.Ytfohjlepknnleaa.Bd
open Go.ChangeShapes Go.WideShapes Go.ChangeAt Go.RowKit Go.IntWalk
set_option linter.unusedVariables false
set_option linter.unusedSimpArgs false

/-- A row that is filled up to the i-th. -/
def fillR (n : Nat) (g : Nat → Bool) (i : Nat) : List Bool := (List.range n).map (fun k => if k < i then g k else false)
theorem fillR_len {n : Nat} {g : Nat → Bool} {i : Nat} : (fillR n g i).length = n := by unfold fillR; simp
theorem fillR_zero (n : Nat) (g : Nat → Bool) : fillR n g 0 = List.replicate n false := by
  unfold fillR
  simp [List.map_const']
theorem fillR_all (n : Nat) (g : Nat → Bool) : fillR n g n = (List.range n).map g := by
  unfold fillR
  exact List.map_congr_left (fun v hv => by rw [if_pos (List.mem_range.mp hv)])
theorem fillR_set {n : Nat} {g : Nat → Bool} {i : Nat} (h : i < n) : (fillR n g i).set i (g i) = fillR n g (i + 1) := by
  unfold fillR
  apply List.ext_getElem?
  intro j
  rw [List.getElem?_set]
  by_cases hj : i = j
  · subst hj
    rw [if_pos rfl]
    simp [h]
  · rw [if_neg hj]
    by_cases hl : j < n
    · rw [List.getElem?_map, List.getElem?_map, List.getElem?_range hl]
      simp only [Option.map_some]
      by_cases hv : j < i
      · rw [if_pos hv, if_pos (by omega)]
      · rw [if_neg hv, if_neg (by omega)]
    · rw [List.getElem?_eq_none (by simpa using hl), List.getElem?_eq_none (by simpa using hl)]
theorem RowB.made {w w1 : World} {n : Nat} (g : Nat → Bool) (h : w.alloc (.cells (madeCells #[.bool false] n) 4) = w1) : RowB w1 w.heap.size (fillR n g 0) ∧ Below w.heap.size w w1 := by
  refine ⟨?_, by rw [← h]; exact below_new _ _⟩
  unfold RowB
  rw [fillR_zero, ← h, heap_alloc_new]
  have : madeCells #[Value.bool false] n = (List.map Value.bool (List.replicate n false)).toArray := by
    have h := toList_madeCells_one (.bool false) n
    rw [List.map_replicate, ← h]
  rw [this]
/-- A row of truths that a call made, and what it leaves. -/
def MadeB (w : World) (l : List Bool) (e : Ending) (w' : World) : Prop :=
  e = .returned (.slice (some ⟨w.heap.size, 0, none⟩) l.length l.length) ∧ RowB w' w.heap.size l ∧ Below w.heap.size w w'

set_option maxRecDepth 100000 in
set_option maxHeartbeats 1600000 in
theorem rconst_any (w : World) (vars : Nat) (b : Bool) (hv : vars ≤ 20) :
    Calls Try.prog 10 #[.int .i64 (vars : Int), .bool b] w (MadeB w (tabD vars (fun _ => b))) := by
  obtain ⟨n, hn⟩ : ∃ n, 2 ^ vars = n := ⟨_, rfl⟩
  have hn20 : n ≤ 1048576 := by rw [← hn]; exact Nat.pow_le_pow_right (by omega) hv
  have hw : wrap64 ((2 : Int) ^ vars) = (n : Int) := by
    have : ((2 : Int) ^ vars) = ((2 ^ vars : Nat) : Int) := by simp
    rw [this, hn]
    exact wrap64_in _ ⟨by omega, by omega⟩
  have hmk := run_make_row' (P := Try.prog) 29 4 (.bool false) 1 Try.underlying29 infoB rfl .i64 .i64 n (by omega) (by omega)
  obtain ⟨w1, hw1⟩ : ∃ W, w.alloc (.cells (madeCells #[.bool false] n) 4) = W := ⟨_, rfl⟩
  obtain ⟨hr1, hb1⟩ := RowB.made (fun _ => b) hw1
  have hL : (tabD vars (fun _ => b)) = fillR n (fun _ => b) n := by rw [fillR_all]; unfold tabD; rw [hn]
  have HR1 := Lib.hid hr1
  have HB1 := Lib.hid hb1
  have HW1 := Lib.hid hw1
  rw [hL]
  clear hr1 hb1 hw1 hL
  go_enter Try.func10, Try.ntmps10
  go_wp2_with fail
  rw [HW1.out]
  go_loopw [6] (fun vi wr => ∃ i : Nat, i ≤ n ∧ vi = .int .i64 (i : Int) ∧ RowB wr w.heap.size (fillR n (fun _ => b) i) ∧ Below w.heap.size w wr) (fun vi _ => n - intV vi)
  case atStart => exact ⟨0, Nat.zero_le _, rfl, HR1.out, HB1.out⟩
  case round =>
    obtain ⟨i, hi, rfl, hr, hb⟩ := hrel
    by_cases hin : i < n
    · obtain ⟨x, qa, qf⟩ : ∃ x, wr.cell? ⟨w.heap.size, i, none⟩ = some (.bool x) ∧ wr.frozen? ⟨w.heap.size, i, none⟩ = false := ⟨_, hr.at (i := i) (by rw [fillR_len]; exact hin)⟩
      have HE : Hid (RowB (wr.setCell ⟨w.heap.size, i, none⟩ (.bool b)) w.heap.size (fillR n (fun _ => b) (i + 1)) ∧ Below w.heap.size w (wr.setCell ⟨w.heap.size, i, none⟩ (.bool b))) := Lib.hid ⟨by rw [← fillR_set hin]; exact hr.set i b, hb.setCell (Nat.le_refl _) _⟩
      clear hr hb
      go_wp2_with fail
      go_roundw
      case rel => exact ⟨i + 1, by omega, by go_num, HE.out.1, HE.out.2⟩
      case measure => simp [intV]; omega
    · obtain rfl : i = n := by omega
      have HE : Hid (RowB wr w.heap.size (fillR i (fun _ => b) i) ∧ Below w.heap.size w wr) := Lib.hid ⟨hr, hb⟩
      clear hr hb
      go_wp2_with fail
      refine bodyPost_ret (v := .slice (some ⟨w.heap.size, 0, none⟩) i i) (by simp [results, Try.results10, go_sem]) rfl ⟨by rw [fillR_len], HE.out.1, HE.out.2⟩
end Go.Proofs.Ytfohjlepknnleaa.Bd
