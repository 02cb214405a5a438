/- The library's Repeat of one number. Conditions: at most 100000 times. Layer sched: Ends. Conditions: the net has at most 100000 inputs. -/
import Derived.Test.YtcphjehjdhgheaaNtT
import Derived.Laws.CopyOwn
namespace Go.Proofs.Ytcphjehjdhgheaa.Nt
open Go.ChangeShapes Go.WideShapes Go.ChangeAt Go.RowKit Go.Proofs.Ytcphjehjdhgheaa.Tr
set_option linter.unusedVariables false
set_option linter.unusedSimpArgs false

theorem wrap_u (n : Nat) (hn : n ≤ 4294967296) : IntKind.u64.wrap (n : Int) = (n : Int) := by
  simp [IntKind.wrap, IntKind.bits, IntKind.signed]
  omega
theorem and_small (n : Nat) (hn : n ≤ 100000) : bits BinOp.and IntKind.u64 (n : Int) 4294967295 = (n : Int) := by
  unfold bits
  have h2 : n &&& 4294967295 = n := by
    have := Nat.and_two_pow_sub_one_eq_mod n 32
    rw [show (2 : Nat) ^ 32 - 1 = 4294967295 from rfl] at this
    rw [this]; omega
  show IntKind.u64.wrap (((BitVec.ofInt 64 (n : Int)) &&& (BitVec.ofInt 64 4294967295)).toNat : Int) = n
  have e1 : (BitVec.ofInt 64 (n : Int)).toNat = n := by simp [BitVec.toNat_ofInt]; omega
  have e2 : (BitVec.ofInt 64 (4294967295 : Int)).toNat = 4294967295 := by decide
  rw [BitVec.toNat_and, e1, e2, h2]
  exact wrap_u n (by omega)
def MulPost (n : Nat) (w : World) (e : Ending) (w' : World) : Prop := e = .returned (.tuple #[.int .u64 0, .int .u64 (n : Int)]) ∧ w' = w
theorem mul64_any (n : Nat) (hn : n ≤ 100000) (w : World) : Calls Try.prog 130 #[.int .u64 1, .int .u64 (n : Int)] w (MulPost n w) := by
  have h1 : bits BinOp.and IntKind.u64 1 4294967295 = 1 := by have := and_small 1 (by omega); exact this
  have h2 := and_small n hn
  have h3 : bits BinOp.and IntKind.u64 0 4294967295 = 0 := by have := and_small 0 (by omega); exact this
  have h4 : (n : Int) / 4294967296 = 0 := by omega
  have h5 := wrap_u n (by omega)
  have h6 : IntKind.u64.wrap 0 = 0 := by have := wrap_u 0 (by omega); exact this
  go_enter Try.func130, Try.ntmps130
  go_wp2
  go_ret2
  exact ⟨rfl, rfl⟩
theorem mul_any (n : Nat) (hn : n ≤ 100000) (w : World) : Calls Try.prog 97 #[.int .u64 1, .int .u64 (n : Int)] w (MulPost n w) := by
  have HM := Lib.hid (mul64_any n hn w)
  go_enter Try.func97, Try.ntmps97
  go_wp2_with fail
  refine HM.out.mono ?_
  rintro e w' ⟨rfl, rfl⟩
  go_wp2
  go_ret2
  exact ⟨rfl, rfl⟩
/-- The row so far: j are there, the others are 0. -/
def repR (n j : Nat) : List Value := intsOf (List.replicate j (-1) ++ List.replicate (n - j) 0)
theorem repR_len (n j : Nat) (h : j ≤ n) : (repR n j).length = n := by unfold repR intsOf; simp; omega
theorem repR_splice (n j m : Nat) (h : j + m ≤ n) : splice (repR n j) j (intsOf (List.replicate m (-1))) = repR n (j + m) := by
  have hj : (intsOf (List.replicate j (-1))).length = j := by unfold intsOf; simp
  unfold splice repR
  have e1 : intsOf (List.replicate j (-1) ++ List.replicate (n - j) 0) = intsOf (List.replicate j (-1)) ++ intsOf (List.replicate (n - j) 0) := by unfold intsOf; simp
  have e2 : intsOf (List.replicate (j + m) (-1) ++ List.replicate (n - (j + m)) 0) = intsOf (List.replicate j (-1)) ++ (intsOf (List.replicate m (-1)) ++ intsOf (List.replicate (n - (j + m)) 0)) := by
    unfold intsOf; simp [List.replicate_append_replicate]
    rw [← List.append_assoc, List.replicate_append_replicate]
  have hm : (intsOf (List.replicate m (-1))).length = m := by unfold intsOf; simp
  rw [e1, e2, hm, List.take_append_of_le_length (by omega), List.take_of_length_le (by omega)]
  congr 1
  congr 1
  rw [List.drop_append, hj, List.drop_of_length_le (by omega), List.nil_append]
  unfold intsOf
  rw [← List.map_drop, List.drop_replicate]
  congr 2; omega
theorem repR_get {n j k : Nat} (hj : j ≤ n) (hk : k < j) : (repR n j)[k]? = some (.int .i64 (-1)) := by
  unfold repR intsOf
  rw [List.getElem?_map, List.getElem?_append_left (by simpa using hk), List.getElem?_replicate, if_pos hk]; rfl
theorem ones_get {m k : Nat} {v : Value} (h : (intsOf (List.replicate m (-1)))[k]? = some v) : k < m ∧ v = .int .i64 (-1) := by
  unfold intsOf at h
  rw [List.getElem?_map, List.getElem?_replicate] at h
  by_cases hk : k < m
  · rw [if_pos hk] at h; simp at h; exact ⟨hk, h.symm⟩
  · rw [if_neg hk] at h; simp at h
theorem ones_len (m : Nat) : (intsOf (List.replicate m (-1))).length = m := by unfold intsOf; simp
theorem ones_one (m : Nat) : ∀ v ∈ intsOf (List.replicate m (-1)), v.oneCell' = true := by
  intro v hv
  obtain ⟨k, hk, e⟩ := List.mem_iff_getElem.1 hv
  obtain ⟨-, rfl⟩ := ones_get (v := v) (by rw [List.getElem?_eq_getElem hk, e])
  rfl
theorem addj (g j : Nat) : ((⟨g, 0, none⟩ : Addr).add j) = ⟨g, j, none⟩ := by
  unfold Addr.add
  by_cases h : j = 0
  · simp [h]
  · simp [h]
theorem size3 : (Try.prog.info? 3).map (·.size) = some 1 := by kernel_rfl
theorem first_copy (w : World) (b n m : Nat) (hm : Nat.min 1 n = m) (W : World) (hg : W.heap[w.heap.size]? = some (.cells (repR n 0).toArray 3 (0, 0))) (hb : Below w.heap.size w W) (hs : ∀ (j : Nat) v, (intsOf (List.replicate m (-1)))[j]? = some v → W.cell? ((⟨b, 0, none⟩ : Addr).add j) = some v) :
    ∃ w2, Sem.run Try.prog (Builtin.copy_ #[23, 23] 3 #[.slice (some ⟨w.heap.size, 0, none⟩) n n, .slice (some ⟨b, 0, none⟩) 1 1]) W = .ok (.int .i64 (m : Int)) w2 ∧ w2.heap[w.heap.size]? = some (.cells (repR n m).toArray 3 (0, 0)) ∧ Below w.heap.size w w2 := by
  have hmn : m ≤ n := by rw [← hm]; exact Nat.min_le_right 1 n
  have hr := run_copy_row (P := Try.prog) W 23 23 3 3 w.heap.size 0 n n ⟨b, 0, none⟩ 1 1 (repR n 0).toArray 3 (intsOf (List.replicate m (-1))) Try.underlying23 size3 hg (by rw [ones_len]; exact hm.symm) hs (by rw [ones_len]; simp [repR_len]; omega) (ones_one m)
  rw [ones_len] at hr
  refine ⟨_, hr, ?_, below_setRow hb (Nat.le_refl _) _⟩
  rw [setRow_heap W w.heap.size _ _ 3 _ hg]
  have := repR_splice n 0 m (by omega)
  unfold splice at this
  rw [ones_len] at this
  rw [show (repR n 0).toArray.toList = repR n 0 by simp, List.append_assoc, this, Nat.zero_add]
theorem next_copy (w : World) (n j q : Nat) (hq : Nat.min j (n - j) = q) (hj : j ≤ n) (W : World) (hg : W.heap[w.heap.size]? = some (.cells (repR n j).toArray 3 (0, 0))) (hb : Below w.heap.size w W) :
    ∃ w2, Sem.run Try.prog (Builtin.copy_ #[23, 23] 3 #[.slice (some ⟨w.heap.size, j, none⟩) (n - j) (n - j), .slice (some ⟨w.heap.size, 0, none⟩) j n]) W = .ok (.int .i64 (q : Int)) w2 ∧ w2.heap[w.heap.size]? = some (.cells (repR n (j + q)).toArray 3 (0, 0)) ∧ Below w.heap.size w w2 := by
  have hq1 : q ≤ n - j := by rw [← hq]; exact Nat.min_le_right _ _
  have hq2 : q ≤ j := by rw [← hq]; exact Nat.min_le_left _ _
  have hr := run_copy_row (P := Try.prog) W 23 23 3 3 w.heap.size j (n - j) (n - j) ⟨w.heap.size, 0, none⟩ j n (repR n j).toArray 3 (intsOf (List.replicate q (-1))) Try.underlying23 size3 hg (by rw [ones_len]; exact hq.symm) (fun k v hv => by
      obtain ⟨h1, rfl⟩ := ones_get hv
      rw [addj]
      have h2 := repR_get (n := n) (j := j) (k := k) (by omega) (by omega)
      simp [World.cell?, hg, h2]) (by rw [ones_len]; simp [repR_len n j hj]; omega) (ones_one q)
  rw [ones_len] at hr
  refine ⟨_, hr, ?_, below_setRow hb (Nat.le_refl _) _⟩
  rw [setRow_heap W w.heap.size _ _ 3 _ hg]
  have := repR_splice n j q (by omega)
  unfold splice at this
  rw [ones_len] at this
  rw [show (repR n j).toArray.toList = repR n j by simp, List.append_assoc, this]
set_option maxRecDepth 100000 in
set_option maxHeartbeats 4000000 in
theorem rep_any (n b : Nat) (hn : n ≤ 100000) (w : World) (hb : w.cell? ⟨b, 0, none⟩ = some (.int .i64 (-1))) (hbl : b < w.heap.size) : Calls Try.prog 58 #[.slice (some ⟨b, 0, none⟩) 1 1, .int .i64 (n : Int)] w (fun e w' => ∃ v, e = .returned v ∧ w'.ownsRow w.heap.size 3 1 v n (intsOf (List.replicate n (-1))) ∧ Below w.heap.size w w') := by
  have HM := Lib.hid (mul_any n hn w)
  have h5 := wrap_u n (by omega)
  have h51 : IntKind.u64.wrap 1 = 1 := by have := wrap_u 1 (by omega); exact this
  have hmk := run_make_row' (P := Try.prog) 23 3 (.int .i64 0) 8 Try.underlying23 info3 rfl .i64 .i64 n (by omega) (by omega)
  have HROW : Hid (∀ W, W = w.alloc (.cells (madeCells #[.int .i64 0] n) 3) → W.heap[w.heap.size]? = some (.cells (repR n 0).toArray 3 (0, 0)) ∧ Below w.heap.size w W ∧ W.cell? ⟨b, 0, none⟩ = some (.int .i64 (-1))) := Lib.hid (fun W hW => by
    subst hW
    refine ⟨?_, below_new _ _, by rw [(below_new w _).cell (p := ⟨b, 0, none⟩) hbl]; exact hb⟩
    rw [made_row]
    have := heap_alloc_new w (.cells (intsOf (List.replicate n 0)).toArray 3)
    unfold repR; simpa using this)
  have hd1 : ((n : Int) < 0) = False := eq_false (by omega)
  have hd2 : ((9223372036854775807 : Int) < (n : Int)) = False := eq_false (by omega)
  obtain ⟨m, hm⟩ : ∃ m, Nat.min 1 n = m := ⟨_, rfl⟩
  have hmn : m ≤ n := by rw [← hm]; exact Nat.min_le_right 1 n
  have hm1 : m ≤ 1 := by rw [← hm]; exact Nat.min_le_left 1 n
  have hmp : 0 < n → m = 1 := fun h => by rw [← hm]; exact Nat.min_eq_left (by omega)
  have HMN := Lib.hid hm
  have HMP := Lib.hid hmp
  have HSR : Hid (∀ (j : Nat) v, (intsOf (List.replicate m (-1)))[j]? = some v → (w.alloc (.cells (madeCells #[.int .i64 0] n) 3)).cell? ((⟨b, 0, none⟩ : Addr).add j) = some v) := Lib.hid (fun j v hv => by
    obtain ⟨h1, rfl⟩ := ones_get hv
    have : j = 0 := by omega
    subst this
    rw [addj]; exact (HROW.out _ rfl).2.2)
  obtain ⟨w2, hcp, hg2, hb2⟩ := first_copy w b n m HMN.out (w.alloc (.cells (madeCells #[.int .i64 0] n) 3)) (HROW.out _ rfl).1 (HROW.out _ rfl).2.1 HSR.out
  have HG2 := Lib.hid hg2
  have HB2 := Lib.hid hb2
  clear hm hmp hb hg2 hb2
  go_enter Try.func58, Try.ntmps58
  go_wp2_with fail
  refine HM.out.mono ?_
  rintro e w' ⟨rfl, rfl⟩
  go_wp2_with fail
  go_loopw [8] (fun vj wr => ∃ j : Nat, j ≤ n ∧ (0 < n → 0 < j) ∧ vj = .int .i64 (j : Int) ∧ Hid (wr.heap[w'.heap.size]? = some (.cells (repR n j).toArray 3 (0, 0))) ∧ Below w'.heap.size w' wr) (fun vj _ => n - (intOf vj).toNat)
  case atStart => exact ⟨m, hmn, fun h => by rw [HMP.out h]; omega, rfl, HG2, HB2.out⟩
  case round =>
    obtain ⟨j, hj, hj0, rfl, hg, hb⟩ := hrel
    by_cases hjn : j < n
    · have hjp := hj0 (by omega)
      obtain ⟨q, hq⟩ : ∃ q, Nat.min j (n - j) = q := ⟨_, rfl⟩
      have hq1 : q ≤ n - j := by rw [← hq]; exact Nat.min_le_right _ _
      have hq2 : q ≤ j := by rw [← hq]; exact Nat.min_le_left _ _
      have hq0 : 0 < q := by rw [← hq]; exact Nat.lt_min.2 ⟨hjp, by omega⟩
      have HQ := Lib.hid hq
      obtain ⟨w4, hcp2, hg4, hb4⟩ := next_copy w' n j q hq hj wr.drew hg.out hb.drew
      have HB := Lib.hid hb
      have HG4 := Lib.hid hg4
      have HB4 := Lib.hid hb4
      clear hq hb hj0 hg4 hb4 hg
      go_wp2_with fail
      go_region
      all_goals
        go_wp2_with fail
        exact ⟨⟨j + q, by omega, fun _ => by omega, by go_num, HG4, HB4.out⟩, by simp [intOf]; omega⟩
    · have hjn2 : j = n := by omega
      subst hjn2
      have HE : Hid (wr.ownsRow w'.heap.size 3 1 (.slice (some ⟨w'.heap.size, 0, none⟩) j j) j (intsOf (List.replicate j (-1)))) := Lib.hid (by
        have := hg.out
        unfold repR at this
        simp at this
        exact own_at this (Nat.le_refl _) (ones_len j) (by unfold maxLen; omega))
      have HB := Lib.hid hb
      clear hg hb
      go_wp2_with fail
      go_ret
      exact ⟨_, rfl, HE.out, HB.out⟩
end Go.Proofs.Ytcphjehjdhgheaa.Nt

namespace Go.Proofs.Ytcphjehjdhgheaa.Nt
open Go.ChangeShapes Go.WideShapes Go.ChangeAt Go.RowKit Go.Proofs.Ytcphjehjdhgheaa.Tr
set_option linter.unusedVariables false
set_option linter.unusedSimpArgs false

set_option maxRecDepth 100000 in
set_option maxHeartbeats 8000000 in
theorem sends_any (w : World) (ov rv iv : Value) (N : Net) (h : NetR w ov rv iv N) (hni : N.ins.length ≤ 100000) : Calls Try.prog 26 #[.agg #[ov, rv, iv]] w (fun e w' => ∃ v, e = .returned v ∧ w'.ownsRow w.heap.size 3 1 v (endsN N).length (intsOf (endsN N)) ∧ Below w.heap.size w w') := by
  have HH := Lib.hid h
  obtain ⟨A, c, rfl, z1, z2⟩ := h.1.form
  obtain ⟨n, hn⟩ : ∃ L, N.ops.length = L := ⟨_, rfl⟩
  have HN := Lib.hid hn
  have H1 := Lib.hid h.1
  rw [hn] at HH H1 z1 ⊢
  unfold maxLen at z2
  obtain ⟨w1, hw1⟩ : ∃ W, w.alloc (.cells #[.slice A n c, rv, iv] 30) = W := ⟨_, rfl⟩
  have HW1 := Lib.hid hw1
  have HB1 : Hid (Below w.heap.size w w1) := Lib.hid (by rw [← hw1]; exact below_new _ _)
  have HX1 : Hid (NetBox w1 w.heap.size 30 (.slice A n c) rv iv) := Lib.hid (by rw [← hw1]; exact box_new _ _ _ _ _)
  have HMA := Lib.hid (sis_any w1 (.slice A n c) rv iv N (HH.out.below HB1.out (Nat.le_refl _)) hni)
  obtain ⟨C, hC⟩ : ∃ b, isN N = b := ⟨_, rfl⟩
  rw [hC] at HMA
  have HC := Lib.hid hC
  obtain ⟨p0, p1, p2⟩ := HX1.out.ats
  clear h hw1 hC hn
  go_enter Try.func26, Try.ntmps26
  go_wp2_with fail
  rw [HW1.out]
  go_wp2_with fail
  refine HMA.out.mono ?_
  rintro e w2 ⟨rfl, hb2⟩
  have HB2 := Lib.hid hb2
  have HX2 := Lib.hid (HX1.out.below hb2 HX1.out.lt)
  have HB02 := Lib.hid (HB1.out.trans (hb2.mono HB1.out.size))
  obtain ⟨q0, q1, q2⟩ := HX2.out.ats
  clear hb2
  cases C with
  | false =>
    have HE : Hid (endsN N = []) := Lib.hid (by unfold endsN; rw [HC.out]; rfl)
    go_wp2
    go_ret
    exact ⟨_, rfl, by rw [HE.out]; exact World.ownsRow_nil _ _ _ _, HB02.out⟩
  | true =>
    have hck : checkN N = 0 := by
      have := HC.out
      unfold isN at this
      simp only [Bool.and_eq_true] at this
      simpa using this.1
    have HM : Hid (mayN N = true) := Lib.hid (check_ok.1 hck).1
    have HE : Hid (endsN N = endsOf N) := Lib.hid (by unfold endsN; rw [HC.out]; rfl)
    have hbig : n ≤ 100000 := by
      have hm := HM.out
      unfold mayN at hm
      simp only [Bool.and_eq_true] at hm
      have := of_decide_eq_true hm.1.1; rw [HN.out] at this; exact this
    obtain ⟨w3, hw3⟩ : ∃ W, w2.alloc (.cells #[.int .i64 (-1)] 3) = W := ⟨_, rfl⟩
    have HW3 := trivial
    have hb3 : Below w2.heap.size w2 w3 := by rw [← hw3]; exact below_new _ _
    have hs3 : w3.heap.size = w2.heap.size + 1 := by rw [← hw3]; simp
    have hc3 : w3.cell? ⟨w2.heap.size, 0, none⟩ = some (.int .i64 (-1)) := by
      have := heap_alloc_new w2 (.cells #[.int .i64 (-1)] 3)
      rw [hw3] at this
      simp [World.cell?, this]
    have HREP := Lib.hid (rep_any n w2.heap.size hbig w3 hc3 (by omega))
    have HX3 := Lib.hid (HX2.out.below hb3 HX2.out.lt)
    have HB03 := Lib.hid (HB02.out.trans (hb3.mono HB02.out.size))
    obtain ⟨r0, r1, r2⟩ := HX3.out.ats
    clear hck hb3 hc3 HW3
    subst hw3
    go_wp2_with fail
    refine HREP.out.mono ?_
    rintro e w4 ⟨v, rfl, ho4, hb4⟩
    have HX4 := Lib.hid (HX3.out.below hb4 HX3.out.lt)
    have HB04 := Lib.hid (HB03.out.trans (hb4.mono HB03.out.size))
    obtain ⟨s0, s1, s2⟩ := HX4.out.ats
    obtain ⟨A2, c2, rfl⟩ : ∃ A c, v = .slice A n c := by
      obtain ⟨-, h1 | ⟨g, cap, cur, e, -⟩⟩ := ho4
      · have := h1.2; rw [h1.1]; exact ⟨none, 0, by rw [this]⟩
      · exact ⟨_, _, e⟩
    have HO0 : Hid (w4.ownsRow w.heap.size 3 1 (.slice A2 n c2) n (intsOf (endR N 0 0))) := Lib.hid (by rw [endR_zero, HN.out]; exact own_base ho4 (by have := HB03.out.size; omega))
    clear ho4 hb4
    go_wp2_with fail
    go_loopw [19] (fun vm wr => ∃ m : Nat, m ≤ n ∧ vm = .int .i64 (m : Int) ∧ wr.ownsRow w.heap.size 3 1 (.slice A2 n c2) n (intsOf (endR N m 0)) ∧ Below w.heap.size w wr ∧ NetBox wr w.heap.size 30 (.slice A n c) rv iv) (fun vm _ => n - (intOf vm).toNat)
    case atStart => exact ⟨0, Nat.zero_le _, rfl, HO0.out, HB04.out, HX4.out⟩
    case round =>
      obtain ⟨m, hm, rfl, ho, hb, hx⟩ := hrel
      have HOm := Lib.hid ho
      have HBm := Lib.hid hb
      have HXm := Lib.hid hx
      have hxl := hx.lt
      clear ho hb hx
      by_cases hml : m < n
      · have hxx := op_get (N := N) (i := m) (by rw [HN.out]; exact hml)
        obtain ⟨g, o, rfl, hg, d0, d1, d2, d3, d4⟩ := (H1.out.below HBm.out (Nat.le_refl _)).at hxx
        have hmay := may_at HM.out (i := m) (by rw [HN.out]; exact hml)
        have HNE := Lib.hid (fun W => sneeds_any W (opAt N m) _ _ hmay)
        have HCAST := Lib.hid (nd_cast HM.out (i := m) (by rw [HN.out]; exact hml))
        have HLT : Hid (∀ k ∈ ndN N m, k < n) := Lib.hid (fun k hk => by
          have := nd_lt HM.out m (by show m < N.ops.length; rw [HN.out]; exact hml) k hk
          have e : (grN N).n = n := HN.out
          rw [e] at this; exact this)
        obtain ⟨xx, hxx2⟩ : ∃ x, opAt N m = x := ⟨_, rfl⟩
        rw [hxx2] at d0 d1 d2 d3 d4 HNE HCAST
        obtain ⟨xo, xa, xb, xc, xn⟩ := xx
        unfold opV at HNE
        dsimp only at d0 d1 d2 d3 d4 HNE
        obtain ⟨w5, hw5⟩ : ∃ W, wr.alloc (.cells #[.int .i64 xo, .int .i64 xa, .int .i64 xb, .int .i64 xc, .int .i64 xn] 79) = W := ⟨_, rfl⟩
        have HW5 := Lib.hid hw5
        have hb5 : Below wr.heap.size wr w5 := by rw [← hw5]; exact below_new _ _
        have hx5 : OpBox w5 wr.heap.size 79 ⟨xo, xa, xb, xc, xn⟩ := by
          have := heap_alloc_new wr (.cells #[.int .i64 xo, .int .i64 xa, .int .i64 xb, .int .i64 xc, .int .i64 xn] 79)
          rw [hw5] at this
          exact ⟨this⟩
        obtain ⟨a0, a1, a2, a3, a4, -, -, -⟩ := hx5.ats
        have HB5 := Lib.hid hb5
        clear hxx hmay hxx2 hw5 hb5 hx5
        go_wp2_with fail
        rw [HW5.out]
        go_wp2_with fail
        refine (HNE.out w5).mono ?_
        rintro e w6 ⟨lv, rfl, hi6, hb6, hn6⟩
        have HI6 := Lib.hid hi6
        have hb56 : Below wr.heap.size wr w6 := HB5.out.trans (hb6.mono HB5.out.size)
        have HN6 : Hid (∀ g o n c, lv = .slice (some ⟨g, o, none⟩) n c → wr.heap.size ≤ g) := Lib.hid (fun g o n c e => by have := hn6 g o n c e; have := HB5.out.size; omega)
        have HO6 := Lib.hid (own_below HOm.out hb56)
        have HB6 := Lib.hid (HBm.out.trans (hb56.mono HBm.out.size))
        have HX6 := Lib.hid (HXm.out.below hb56 hxl)
        have HLTm : Hid (∀ k, (Value.slice A2 n c2).ownBlock = some k → k < wr.heap.size) := Lib.hid (fun k hk => (HOm.out.lt k hk).2)
        obtain ⟨A4, c4, rfl, z3, z4⟩ := ints_form hi6
        obtain ⟨L, hL⟩ : ∃ L, (needI ⟨xo, xa, xb, xc, xn⟩).length = L := ⟨_, rfl⟩
        rw [hL] at HI6 z3 HN6 ⊢
        have HL : Hid ((ndN N m).length = L) := Lib.hid (by rw [← hL, ← HCAST.out, List.length_map])
        unfold maxLen at z4
        clear hi6 hb6 hn6 hL hb56
        go_wp2_with fail
        go_loopw [27] (fun vk wk => ∃ k : Nat, k ≤ L ∧ vk = .int .i64 (k : Int) ∧ wk.ownsRow w.heap.size 3 1 (.slice A2 n c2) n (intsOf (endR N m k)) ∧ Below w.heap.size w wk ∧ NetBox wk w.heap.size 30 (.slice (some ⟨g, o, none⟩) n c) rv iv ∧ Ints wk (.slice A4 L c4) (needI ⟨xo, xa, xb, xc, xn⟩)) (fun vk _ => L - (intOf vk).toNat)
        case atStart => exact ⟨0, Nat.zero_le _, rfl, HO6.out, HB6.out, HX6.out, HI6.out⟩
        case round =>
          obtain ⟨k, hk, rfl, ho, hb, hx, hii⟩ := hrel
          have HOk := Lib.hid ho
          have HBk := Lib.hid hb
          have HXk := Lib.hid hx
          have HIk := Lib.hid hii
          clear ho hb hx hii
          by_cases hkl : k < L
          · obtain ⟨y, hy⟩ : ∃ y, (ndN N m)[k]? = some y := ⟨_, List.getElem?_eq_getElem (by rw [HL.out]; exact hkl)⟩
            have hyi := HLT.out y (List.mem_of_getElem? hy)
            have hy2 : (needI ⟨xo, xa, xb, xc, xn⟩)[k]? = some (y : Int) := by rw [← HCAST.out, List.getElem?_map, hy]; rfl
            obtain ⟨g2, o2, rfl, hg2, e0⟩ := ints_at HIk.out hy2
            obtain ⟨xv, hxv⟩ := endR_get (N := N) (m := m) (k := k) (j := y) (by rw [HN.out]; exact hyi)
            obtain ⟨B, rfl⟩ : ∃ B, A2 = some ⟨B, 0, none⟩ := by
              obtain ⟨-, h1 | ⟨g, cap, cur, e, -⟩⟩ := HOk.out
              · omega
              · simp only [Value.slice.injEq] at e; exact ⟨g, e.1⟩
            have cy := (HOk.out.cellAt y (by omega)).trans (intsOf_get _ y _ hxv)
            have fy := HOk.out.frozenAt y
            have hst := (HOk.out.stored y (.int .i64 (m : Int))).1
            rw [← intsOf_set, endR_set hy] at hst
            have HST := Lib.hid hst
            have hBl := HLTm.out B rfl
            have hgB : g2 ≠ B := by have := HN6.out g2 o2 _ _ rfl; omega
            have HIS : Hid (Ints (wr.setCell ⟨B, y, none⟩ (.int .i64 (m : Int))) (.slice (some ⟨g2, o2, none⟩) L c4) (needI ⟨xo, xa, xb, xc, xn⟩)) := Lib.hid (ints_kp HIk.out ((Kp.refl (fun q => q = B) wr).setCell (p := ⟨B, y, none⟩) rfl _) (fun g o n c e he => by
              simp only [Value.slice.injEq, Option.some.injEq, Addr.mk.injEq] at e; omega))
            have HBS : Hid (Below w.heap.size w (wr.setCell ⟨B, y, none⟩ (.int .i64 (m : Int)))) := Lib.hid (HBk.out.setCell (p := ⟨B, y, none⟩) ((HOk.out.lt B rfl).1) _)
            have hbx : w.heap.size ≠ B := fun e => by
              obtain ⟨cs, hc⟩ := own_cells HOk.out (k := B) rfl
              have := HXk.out.cell
              rw [e, hc] at this; simp at this
            have HXS : Hid (NetBox (wr.setCell ⟨B, y, none⟩ (.int .i64 (m : Int))) w.heap.size 30 (.slice (some ⟨g, o, none⟩) n c) rv iv) := Lib.hid ⟨(Below.heap_setCell _ _ _ _ hbx).trans HXk.out.cell⟩
            clear hy hy2 hxv hst hbx
            go_wp2_with fail
            exact ⟨⟨k + 1, by omega, by go_num, HST.out, HBS.out, HXS.out, HIS.out⟩, by simp [intOf]; omega⟩
          · have HON : Hid (wr.ownsRow w.heap.size 3 1 (.slice A2 n c2) n (intsOf (endR N (m + 1) 0))) := Lib.hid (by rw [← endR_next N m (k := k) (by rw [HL.out]; omega)]; exact HOk.out)
            go_wp2_with fail
            exact ⟨⟨m + 1, by omega, by go_num, HON.out, HBk.out, HXk.out⟩, by simp [intOf]; omega⟩
      · have HOE : Hid (wr.ownsRow w.heap.size 3 1 (.slice A2 n c2) (endsN N).length (intsOf (endsN N))) := Lib.hid (by
          have e := endR_all N (m := m) (by rw [HN.out]; omega)
          have := HOm.out
          rw [e] at this
          rw [HE.out, show (endsOf N).length = n by unfold endsOf; simp; exact HN.out]; exact this)
        go_wp2_with fail
        go_ret
        exact ⟨_, rfl, HOE.out, HBm.out⟩
end Go.Proofs.Ytcphjehjdhgheaa.Nt
