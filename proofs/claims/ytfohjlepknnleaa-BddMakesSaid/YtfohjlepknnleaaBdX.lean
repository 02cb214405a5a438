/- A number repeated. Conditions: at most 2097152 times. -/
import Derived.Test.YtfohjlepknnleaaBdV
import Derived.Test.YtfohjlepknnleaaBdSh
import Derived.Laws.CopyOwn
import Derived.Deep.OwnRows
namespace Go.Proofs.Ytfohjlepknnleaa.Bd
open Go.ChangeShapes Go.WideShapes Go.ChangeAt Go.RowKit
set_option linter.unusedVariables false
set_option linter.unusedSimpArgs false

theorem infoI : (Try.prog.info? 3).map (fun i => (i.zero, i.size, i.bytes)) = some (some (.int .i64 0), 1, 8) := by kernel_rfl
/-- k numbers c, then zeros. -/
def repL (c : Int) (m k : Nat) : List Value := List.replicate k (.int .i64 c) ++ List.replicate (m - k) (.int .i64 0)
theorem repL_len {c : Int} {m k : Nat} (h : k ≤ m) : (repL c m k).length = m := by unfold repL; simp; omega
theorem repL_splice {c : Int} {m k j : Nat} (hk : k + j ≤ m) : splice (repL c m k) k (List.replicate j (.int .i64 c)) = repL c m (k + j) := by
  unfold splice repL
  rw [List.take_append_of_le_length (by simp), List.drop_append]
  simp
  rw [← List.replicate_append_replicate, List.append_assoc, show m - k - j = m - (k + j) from by omega]

set_option maxRecDepth 100000 in
set_option maxHeartbeats 1600000 in
theorem rep_any (w : World) (b m : Nat) (c : Int) (hb : w.heap[b]? = some (.cells #[.int .i64 c] 3 (0, 0))) (hm : m ≤ 2097152) :
    Calls Try.prog 55 #[.slice (some ⟨b, 0, none⟩) 1 1, .int .i64 (m : Int)] w (fun e w' => e = .returned (.slice (some ⟨w.heap.size, 0, none⟩) m m) ∧ w'.heap[w.heap.size]? = some (.cells (repL c m m).toArray 3 (0, 0)) ∧ Below w.heap.size w w') := by
  have HMU : Hid (Calls Try.prog 64 #[.int .u64 1, .int .u64 (m : Int)] w (fun e w' => e = .returned (.tuple #[.int .u64 0, .int .u64 (m : Int)]) ∧ w' = w)) := Lib.hid (by
    have h := Try.bits_Mul 1 m (by omega) (by omega) w
    rw [show 1 * m / 18446744073709551616 = 0 from by omega, show 1 * m % 18446744073709551616 = m from by omega] at h
    exact h)
  have hmk := run_make_row' (P := Try.prog) 78 3 (.int .i64 0) 8 Try.underlying78 infoI rfl .i64 .i64 m (by omega) (by omega)
  obtain ⟨w1, hw1⟩ : ∃ W, w.alloc (.cells (madeCells #[.int .i64 0] m) 3) = W := ⟨_, rfl⟩
  have hn1 : w1.heap[w.heap.size]? = some (.cells (repL c m 0).toArray 3 (0, 0)) := by
    rw [← hw1, heap_alloc_new]
    have : madeCells #[Value.int .i64 0] m = (repL c m 0).toArray := by
      have h := toList_madeCells_one (.int .i64 0) m
      unfold repL
      simp only [List.replicate_zero, List.nil_append, Nat.sub_zero]
      rw [← h]
    rw [this]
  have hb1 : Below w.heap.size w w1 := by rw [← hw1]; exact below_new _ _
  have hc1 : w1.cell? ⟨b, 0, none⟩ = some (.int .i64 c) := by
    refine (hb1.cell (p := ⟨b, 0, none⟩) (block_lt hb)).trans ?_
    unfold World.cell?; rw [hb]; rfl
  obtain ⟨k1, hk1⟩ : ∃ k, Nat.min 1 m = k := ⟨_, rfl⟩
  have hk1m : k1 ≤ m ∧ k1 ≤ 1 ∧ (m ≠ 0 → k1 = 1) := by
    have : min 1 m = k1 := hk1
    omega
  have hcopy := run_copy_row (P := Try.prog) w1 78 78 3 3 w.heap.size 0 m m ⟨b, 0, none⟩ 1 1 (repL c m 0).toArray 3 (List.replicate k1 (.int .i64 c)) Try.underlying78 (by kernel_rfl) hn1 (by rw [List.length_replicate, hk1])
    (fun j v hj => by
      have hl := (List.getElem?_eq_some_iff.mp hj).1
      rw [List.length_replicate] at hl
      obtain rfl : j = 0 := by omega
      have : v = .int .i64 c := by rw [List.getElem?_replicate, if_pos hl] at hj; exact (Option.some.inj hj).symm
      rw [this]; exact hc1)
    (by rw [List.length_replicate, List.size_toArray, repL_len (Nat.zero_le _)]; omega)
    (fun v hv => by rw [List.eq_of_mem_replicate hv]; rfl)
  obtain ⟨w2, hw2⟩ : ∃ W, w1.setRow w.heap.size ((repL c m 0).toArray.toList.take 0 ++ List.replicate k1 (Value.int .i64 c) ++ (repL c m 0).toArray.toList.drop (0 + (List.replicate k1 (Value.int .i64 c)).length)).toArray = W := ⟨_, rfl⟩
  rw [hw2, List.length_replicate] at hcopy
  have hn2 : w2.heap[w.heap.size]? = some (.cells (repL c m k1).toArray 3 (0, 0)) := by
    rw [← hw2, setRow_heap w1 w.heap.size _ _ 3 _ hn1]
    have h := repL_splice (c := c) (m := m) (k := 0) (j := k1) (by omega)
    simp only [splice, Nat.zero_add] at h
    rw [← h]
    simp
  have hb2 : Below w.heap.size w w2 := by rw [← hw2]; exact below_setRow hb1 (Nat.le_refl _) _
  have HN2 := Lib.hid hn2
  have HB2 := Lib.hid hb2
  have hcopy : (Builtin.copy_ #[78, 78] 3 #[.slice (some ⟨w.heap.size, 0, none⟩) m m, .slice (some ⟨b, 0, none⟩) 1 1]).run Try.prog w1 = .ok (.int .i64 (k1 : Int)) w2 := hcopy
  obtain ⟨hk2, hk3, hk4⟩ := hk1m
  have HK4 := Lib.hid hk4
  clear hn1 hb1 hc1 hn2 hb2 hk1 hw2 hb hk4
  go_enter Try.func55, Try.ntmps55
  go_wp2_with (go_at_call 64; with_reducible refine HMU.out.mono ?_; rintro e w ⟨rfl, rfl⟩)
  go_loopw [8] (fun ni wr => ∃ n : Nat, n ≤ m ∧ (m ≠ 0 → 1 ≤ n) ∧ ni = .int .i64 (n : Int) ∧ wr.heap[w.heap.size]? = some (.cells (repL c m n).toArray 3 (0, 0)) ∧ Below w.heap.size w wr) (fun ni _ => m - (intOf ni).toNat)
  case atStart => exact ⟨k1, hk2, fun h => by have := HK4.out h; omega, rfl, HN2.out, HB2.out⟩
  case round =>
    obtain ⟨n, hn, hn0, rfl, hrow, hb⟩ := hrel
    have HROW := Lib.hid hrow
    have HB := Lib.hid hb
    have hsz := hb.size
    clear hrow hb
    by_cases hlt : n < m
    · have hn1 := hn0 (by omega)
      obtain ⟨j, hj⟩ : ∃ j, Nat.min n (m - n) = j := ⟨_, rfl⟩
      have hjb : 1 ≤ j ∧ j ≤ n ∧ n + j ≤ m := by
        have : min n (m - n) = j := hj
        omega
      have HJ := Lib.hid hj
      have HSP : Hid (splice (repL c m n) n (List.replicate j (.int .i64 c)) = repL c m (n + j)) := Lib.hid (repL_splice hjb.2.2)
      have hcell : ∀ i, i < n → wr.drew.cell? ⟨w.heap.size, i, none⟩ = some (.int .i64 c) := fun i hi => by
        show wr.cell? ⟨w.heap.size, i, none⟩ = _
        unfold World.cell?
        rw [HROW.out]
        show (repL c m n).toArray[i]? = _
        rw [List.getElem?_toArray]
        unfold repL
        rw [List.getElem?_append_left (by simpa using hi), List.getElem?_replicate, if_pos hi]
      have hcopy2 := run_copy_row (P := Try.prog) wr.drew 78 78 3 3 w.heap.size n (m - n) (m - n) ⟨w.heap.size, 0, none⟩ n m (repL c m n).toArray 3 (List.replicate j (.int .i64 c)) Try.underlying78 (by kernel_rfl) HROW.out (by rw [List.length_replicate]; exact HJ.out.symm)
        (fun i v hi => by
          have hl := (List.getElem?_eq_some_iff.mp hi).1
          rw [List.length_replicate] at hl
          have : v = .int .i64 c := by rw [List.getElem?_replicate, if_pos hl] at hi; exact (Option.some.inj hi).symm
          rw [this]
          have h2 := hcell i (by omega)
          by_cases i0 : i = 0
          · subst i0; simpa [Addr.add] using h2
          · simpa [Addr.add, i0] using h2)
        (by rw [List.length_replicate, List.size_toArray, repL_len hn]; omega)
        (fun v hv => by rw [List.eq_of_mem_replicate hv]; rfl)
      obtain ⟨w3, hw3⟩ : ∃ W, wr.drew.setRow w.heap.size ((repL c m n).toArray.toList.take n ++ List.replicate j (Value.int .i64 c) ++ (repL c m n).toArray.toList.drop (n + (List.replicate j (Value.int .i64 c)).length)).toArray = W := ⟨_, rfl⟩
      rw [hw3, List.length_replicate] at hcopy2
      have hn3 : w3.heap[w.heap.size]? = some (.cells (repL c m (n + j)).toArray 3 (0, 0)) := by
        rw [← hw3, setRow_heap wr.drew w.heap.size _ _ 3 _ HROW.out]
        have h := HSP.out
        simp only [splice] at h
        rw [← h]
        simp
      have HN3 := Lib.hid hn3
      have HB3 : Hid (Below w.heap.size w w3) := Lib.hid (by rw [← hw3]; exact below_setRow HB.out.drew (Nat.le_refl _) _)
      have hcopy2 : (Builtin.copy_ #[78, 78] 3 #[.slice (some ⟨w.heap.size, n, none⟩) (m - n) (m - n), .slice (some ⟨w.heap.size, 0, none⟩) n m]).run Try.prog wr.drew = .ok (.int .i64 (j : Int)) w3 := hcopy2
      obtain ⟨j1, j2, j3⟩ := hjb
      clear hn0 hj hcell hw3 hn3
      go_wp2_with fail
      go_region
      go_wp2
      exact ⟨⟨n + j, j3, fun _ => by omega, by go_num, HN3.out, HB3.out⟩, by simp [intOf]; omega⟩
    · obtain rfl : n = m := by omega
      go_wp2_with fail
      go_ret
      exact ⟨rfl, HROW.out, HB.out⟩
end Go.Proofs.Ytfohjlepknnleaa.Bd
