/- The library's Repeat of one number. Conditions: at most 100000 times. -/
import Derived.Test.YtcphjehjdhgheaaNtT
import Derived.Laws.CopyOwn
namespace Go.Proofs.Ytcphjehjdhgheaa.Nt
open Go.ChangeShapes Go.WideShapes Go.ChangeAt Go.RowKit Go.Proofs.Ytcphjehjdhgheaa.Tr
set_option linter.unusedVariables false
set_option linter.unusedSimpArgs false

theorem wrap_u (n : Nat) (hn : n ≤ 4294967296) : IntKind.u64.wrap (n : Int) = (n : Int) := by
  simp [IntKind.wrap, IntKind.bits, IntKind.signed]
  omega
theorem and_small (n : Nat) (hn : n ≤ 100000) : bits BinOp.and IntKind.u64 (n : Int) 4294967295 = (n : Int) := by
  unfold bits
  have h2 : n &&& 4294967295 = n := by
    have := Nat.and_two_pow_sub_one_eq_mod n 32
    rw [show (2 : Nat) ^ 32 - 1 = 4294967295 from rfl] at this
    rw [this]; omega
  show IntKind.u64.wrap (((BitVec.ofInt 64 (n : Int)) &&& (BitVec.ofInt 64 4294967295)).toNat : Int) = n
  have e1 : (BitVec.ofInt 64 (n : Int)).toNat = n := by simp [BitVec.toNat_ofInt]; omega
  have e2 : (BitVec.ofInt 64 (4294967295 : Int)).toNat = 4294967295 := by decide
  rw [BitVec.toNat_and, e1, e2, h2]
  exact wrap_u n (by omega)
def MulPost (n : Nat) (w : World) (e : Ending) (w' : World) : Prop := e = .returned (.tuple #[.int .u64 0, .int .u64 (n : Int)]) ∧ w' = w
theorem mul64_any (n : Nat) (hn : n ≤ 100000) (w : World) : Calls Try.prog 130 #[.int .u64 1, .int .u64 (n : Int)] w (MulPost n w) := by
  have h1 : bits BinOp.and IntKind.u64 1 4294967295 = 1 := by have := and_small 1 (by omega); exact this
  have h2 := and_small n hn
  have h3 : bits BinOp.and IntKind.u64 0 4294967295 = 0 := by have := and_small 0 (by omega); exact this
  have h4 : (n : Int) / 4294967296 = 0 := by omega
  have h5 := wrap_u n (by omega)
  have h6 : IntKind.u64.wrap 0 = 0 := by have := wrap_u 0 (by omega); exact this
  go_enter Try.func130, Try.ntmps130
  go_wp2
  go_ret2
  exact ⟨rfl, rfl⟩
theorem mul_any (n : Nat) (hn : n ≤ 100000) (w : World) : Calls Try.prog 97 #[.int .u64 1, .int .u64 (n : Int)] w (MulPost n w) := by
  have HM := Lib.hid (mul64_any n hn w)
  go_enter Try.func97, Try.ntmps97
  go_wp2_with fail
  refine HM.out.mono ?_
  rintro e w' ⟨rfl, rfl⟩
  go_wp2
  go_ret2
  exact ⟨rfl, rfl⟩
/-- The row so far: j are there, the others are 0. -/
def repR (n j : Nat) : List Value := intsOf (List.replicate j (-1) ++ List.replicate (n - j) 0)
theorem repR_len (n j : Nat) (h : j ≤ n) : (repR n j).length = n := by unfold repR intsOf; simp; omega
theorem repR_splice (n j m : Nat) (h : j + m ≤ n) : splice (repR n j) j (intsOf (List.replicate m (-1))) = repR n (j + m) := by
  have hj : (intsOf (List.replicate j (-1))).length = j := by unfold intsOf; simp
  unfold splice repR
  have e1 : intsOf (List.replicate j (-1) ++ List.replicate (n - j) 0) = intsOf (List.replicate j (-1)) ++ intsOf (List.replicate (n - j) 0) := by unfold intsOf; simp
  have e2 : intsOf (List.replicate (j + m) (-1) ++ List.replicate (n - (j + m)) 0) = intsOf (List.replicate j (-1)) ++ (intsOf (List.replicate m (-1)) ++ intsOf (List.replicate (n - (j + m)) 0)) := by
    unfold intsOf; simp [List.replicate_append_replicate]
    rw [← List.append_assoc, List.replicate_append_replicate]
  have hm : (intsOf (List.replicate m (-1))).length = m := by unfold intsOf; simp
  rw [e1, e2, hm, List.take_append_of_le_length (by omega), List.take_of_length_le (by omega)]
  congr 1
  congr 1
  rw [List.drop_append, hj, List.drop_of_length_le (by omega), List.nil_append]
  unfold intsOf
  rw [← List.map_drop, List.drop_replicate]
  congr 2; omega
theorem repR_get {n j k : Nat} (hj : j ≤ n) (hk : k < j) : (repR n j)[k]? = some (.int .i64 (-1)) := by
  unfold repR intsOf
  rw [List.getElem?_map, List.getElem?_append_left (by simpa using hk), List.getElem?_replicate, if_pos hk]; rfl
theorem ones_get {m k : Nat} {v : Value} (h : (intsOf (List.replicate m (-1)))[k]? = some v) : k < m ∧ v = .int .i64 (-1) := by
  unfold intsOf at h
  rw [List.getElem?_map, List.getElem?_replicate] at h
  by_cases hk : k < m
  · rw [if_pos hk] at h; simp at h; exact ⟨hk, h.symm⟩
  · rw [if_neg hk] at h; simp at h
theorem ones_len (m : Nat) : (intsOf (List.replicate m (-1))).length = m := by unfold intsOf; simp
theorem ones_one (m : Nat) : ∀ v ∈ intsOf (List.replicate m (-1)), v.oneCell' = true := by
  intro v hv
  obtain ⟨k, hk, e⟩ := List.mem_iff_getElem.1 hv
  obtain ⟨-, rfl⟩ := ones_get (v := v) (by rw [List.getElem?_eq_getElem hk, e])
  rfl
theorem addj (g j : Nat) : ((⟨g, 0, none⟩ : Addr).add j) = ⟨g, j, none⟩ := by
  unfold Addr.add
  by_cases h : j = 0
  · simp [h]
  · simp [h]
theorem size3 : (Try.prog.info? 3).map (·.size) = some 1 := by kernel_rfl
theorem first_copy (w : World) (b n m : Nat) (hm : Nat.min 1 n = m) (W : World) (hg : W.heap[w.heap.size]? = some (.cells (repR n 0).toArray 3 (0, 0))) (hb : Below w.heap.size w W) (hs : ∀ (j : Nat) v, (intsOf (List.replicate m (-1)))[j]? = some v → W.cell? ((⟨b, 0, none⟩ : Addr).add j) = some v) :
    ∃ w2, Sem.run Try.prog (Builtin.copy_ #[23, 23] 3 #[.slice (some ⟨w.heap.size, 0, none⟩) n n, .slice (some ⟨b, 0, none⟩) 1 1]) W = .ok (.int .i64 (m : Int)) w2 ∧ w2.heap[w.heap.size]? = some (.cells (repR n m).toArray 3 (0, 0)) ∧ Below w.heap.size w w2 := by
  have hmn : m ≤ n := by rw [← hm]; exact Nat.min_le_right 1 n
  have hr := run_copy_row (P := Try.prog) W 23 23 3 3 w.heap.size 0 n n ⟨b, 0, none⟩ 1 1 (repR n 0).toArray 3 (intsOf (List.replicate m (-1))) Try.underlying23 size3 hg (by rw [ones_len]; exact hm.symm) hs (by rw [ones_len]; simp [repR_len]; omega) (ones_one m)
  rw [ones_len] at hr
  refine ⟨_, hr, ?_, below_setRow hb (Nat.le_refl _) _⟩
  rw [setRow_heap W w.heap.size _ _ 3 _ hg]
  have := repR_splice n 0 m (by omega)
  unfold splice at this
  rw [ones_len] at this
  rw [show (repR n 0).toArray.toList = repR n 0 by simp, List.append_assoc, this, Nat.zero_add]
theorem next_copy (w : World) (n j q : Nat) (hq : Nat.min j (n - j) = q) (hj : j ≤ n) (W : World) (hg : W.heap[w.heap.size]? = some (.cells (repR n j).toArray 3 (0, 0))) (hb : Below w.heap.size w W) :
    ∃ w2, Sem.run Try.prog (Builtin.copy_ #[23, 23] 3 #[.slice (some ⟨w.heap.size, j, none⟩) (n - j) (n - j), .slice (some ⟨w.heap.size, 0, none⟩) j n]) W = .ok (.int .i64 (q : Int)) w2 ∧ w2.heap[w.heap.size]? = some (.cells (repR n (j + q)).toArray 3 (0, 0)) ∧ Below w.heap.size w w2 := by
  have hq1 : q ≤ n - j := by rw [← hq]; exact Nat.min_le_right _ _
  have hq2 : q ≤ j := by rw [← hq]; exact Nat.min_le_left _ _
  have hr := run_copy_row (P := Try.prog) W 23 23 3 3 w.heap.size j (n - j) (n - j) ⟨w.heap.size, 0, none⟩ j n (repR n j).toArray 3 (intsOf (List.replicate q (-1))) Try.underlying23 size3 hg (by rw [ones_len]; exact hq.symm) (fun k v hv => by
      obtain ⟨h1, rfl⟩ := ones_get hv
      rw [addj]
      have h2 := repR_get (n := n) (j := j) (k := k) (by omega) (by omega)
      simp [World.cell?, hg, h2]) (by rw [ones_len]; simp [repR_len n j hj]; omega) (ones_one q)
  rw [ones_len] at hr
  refine ⟨_, hr, ?_, below_setRow hb (Nat.le_refl _) _⟩
  rw [setRow_heap W w.heap.size _ _ 3 _ hg]
  have := repR_splice n j q (by omega)
  unfold splice at this
  rw [ones_len] at this
  rw [show (repR n j).toArray.toList = repR n j by simp, List.append_assoc, this]
set_option maxRecDepth 100000 in
set_option maxHeartbeats 4000000 in
theorem rep_any (n b : Nat) (hn : n ≤ 100000) (w : World) (hb : w.cell? ⟨b, 0, none⟩ = some (.int .i64 (-1))) (hbl : b < w.heap.size) : Calls Try.prog 58 #[.slice (some ⟨b, 0, none⟩) 1 1, .int .i64 (n : Int)] w (fun e w' => ∃ v, e = .returned v ∧ w'.ownsRow w.heap.size 3 1 v n (intsOf (List.replicate n (-1))) ∧ Below w.heap.size w w') := by
  have HM := Lib.hid (mul_any n hn w)
  have h5 := wrap_u n (by omega)
  have h51 : IntKind.u64.wrap 1 = 1 := by have := wrap_u 1 (by omega); exact this
  have hmk := run_make_row' (P := Try.prog) 23 3 (.int .i64 0) 8 Try.underlying23 info3 rfl .i64 .i64 n (by omega) (by omega)
  have HROW : Hid (∀ W, W = w.alloc (.cells (madeCells #[.int .i64 0] n) 3) → W.heap[w.heap.size]? = some (.cells (repR n 0).toArray 3 (0, 0)) ∧ Below w.heap.size w W ∧ W.cell? ⟨b, 0, none⟩ = some (.int .i64 (-1))) := Lib.hid (fun W hW => by
    subst hW
    refine ⟨?_, below_new _ _, by rw [(below_new w _).cell (p := ⟨b, 0, none⟩) hbl]; exact hb⟩
    rw [made_row]
    have := heap_alloc_new w (.cells (intsOf (List.replicate n 0)).toArray 3)
    unfold repR; simpa using this)
  have hd1 : ((n : Int) < 0) = False := eq_false (by omega)
  have hd2 : ((9223372036854775807 : Int) < (n : Int)) = False := eq_false (by omega)
  obtain ⟨m, hm⟩ : ∃ m, Nat.min 1 n = m := ⟨_, rfl⟩
  have hmn : m ≤ n := by rw [← hm]; exact Nat.min_le_right 1 n
  have hm1 : m ≤ 1 := by rw [← hm]; exact Nat.min_le_left 1 n
  have hmp : 0 < n → m = 1 := fun h => by rw [← hm]; exact Nat.min_eq_left (by omega)
  have HMN := Lib.hid hm
  have HMP := Lib.hid hmp
  have HSR : Hid (∀ (j : Nat) v, (intsOf (List.replicate m (-1)))[j]? = some v → (w.alloc (.cells (madeCells #[.int .i64 0] n) 3)).cell? ((⟨b, 0, none⟩ : Addr).add j) = some v) := Lib.hid (fun j v hv => by
    obtain ⟨h1, rfl⟩ := ones_get hv
    have : j = 0 := by omega
    subst this
    rw [addj]; exact (HROW.out _ rfl).2.2)
  obtain ⟨w2, hcp, hg2, hb2⟩ := first_copy w b n m HMN.out (w.alloc (.cells (madeCells #[.int .i64 0] n) 3)) (HROW.out _ rfl).1 (HROW.out _ rfl).2.1 HSR.out
  have HG2 := Lib.hid hg2
  have HB2 := Lib.hid hb2
  clear hm hmp hb hg2 hb2
  go_enter Try.func58, Try.ntmps58
  go_wp2_with fail
  refine HM.out.mono ?_
  rintro e w' ⟨rfl, rfl⟩
  go_wp2_with fail
  go_loopw [8] (fun vj wr => ∃ j : Nat, j ≤ n ∧ (0 < n → 0 < j) ∧ vj = .int .i64 (j : Int) ∧ Hid (wr.heap[w'.heap.size]? = some (.cells (repR n j).toArray 3 (0, 0))) ∧ Below w'.heap.size w' wr) (fun vj _ => n - (intOf vj).toNat)
  case atStart => exact ⟨m, hmn, fun h => by rw [HMP.out h]; omega, rfl, HG2, HB2.out⟩
  case round =>
    obtain ⟨j, hj, hj0, rfl, hg, hb⟩ := hrel
    by_cases hjn : j < n
    · have hjp := hj0 (by omega)
      obtain ⟨q, hq⟩ : ∃ q, Nat.min j (n - j) = q := ⟨_, rfl⟩
      have hq1 : q ≤ n - j := by rw [← hq]; exact Nat.min_le_right _ _
      have hq2 : q ≤ j := by rw [← hq]; exact Nat.min_le_left _ _
      have hq0 : 0 < q := by rw [← hq]; exact Nat.lt_min.2 ⟨hjp, by omega⟩
      have HQ := Lib.hid hq
      obtain ⟨w4, hcp2, hg4, hb4⟩ := next_copy w' n j q hq hj wr.drew hg.out hb.drew
      have HB := Lib.hid hb
      have HG4 := Lib.hid hg4
      have HB4 := Lib.hid hb4
      clear hq hb hj0 hg4 hb4 hg
      go_wp2_with fail
      go_region
      all_goals
        go_wp2_with fail
        exact ⟨⟨j + q, by omega, fun _ => by omega, by go_num, HG4, HB4.out⟩, by simp [intOf]; omega⟩
    · have hjn2 : j = n := by omega
      subst hjn2
      have HE : Hid (wr.ownsRow w'.heap.size 3 1 (.slice (some ⟨w'.heap.size, 0, none⟩) j j) j (intsOf (List.replicate j (-1)))) := Lib.hid (by
        have := hg.out
        unfold repR at this
        simp at this
        exact own_at this (Nat.le_refl _) (ones_len j) (by unfold maxLen; omega))
      have HB := Lib.hid hb
      clear hg hb
      go_wp2_with fail
      go_ret
      exact ⟨_, rfl, HE.out, HB.out⟩
end Go.Proofs.Ytcphjehjdhgheaa.Nt
