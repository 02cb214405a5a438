/- Does an operator need another one, as the law asks it. Conditions: it is an operator. -/
import Derived.Test.YtlilpdflnjepeaaNtE
namespace Go.Proofs.Ytlilpdflnjepeaa.Nt
open Go.ChangeShapes Go.WideShapes Go.ChangeAt Go.RowKit Go.Proofs.Ytlilpdflnjepeaa.Tr
set_option linter.unusedVariables false
set_option linter.unusedSimpArgs false
set_option maxRecDepth 100000 in
set_option maxHeartbeats 4000000 in
theorem lneeds_any (w : World) (x : Op5) (i : Int) (h : 0 ≤ kids x.op) : Calls Try.prog 31 #[opV x, .int .i64 i] w (fun e w' => e = .returned (.bool (decide (i ∈ needI x))) ∧ Below w.heap.size w w') := by
  obtain ⟨L, hL⟩ : ∃ L, needI x = L := ⟨_, rfl⟩
  obtain ⟨w1, hw1⟩ : ∃ W, w.alloc (.cells #[.int .i64 x.op, .int .i64 x.a, .int .i64 x.b, .int .i64 x.c, .int .i64 x.n] 54) = W := ⟨_, rfl⟩
  have HW1 := Lib.hid hw1
  have HB1 : Hid (Below w.heap.size w w1) := Lib.hid (by rw [← hw1]; exact below_new _ _)
  have hc : w1.heap[w.heap.size]? = some (.cells #[.int .i64 x.op, .int .i64 x.a, .int .i64 x.b, .int .i64 x.c, .int .i64 x.n] 54 (0, 0)) := by rw [← hw1]; exact heap_alloc_new _ _
  have c0 : w1.cell? ⟨w.heap.size, 0, none⟩ = some (.int .i64 x.op) := by simp [World.cell?, hc]
  have c1 : w1.cell? ⟨w.heap.size, 1, none⟩ = some (.int .i64 x.a) := by simp [World.cell?, hc]
  have c2 : w1.cell? ⟨w.heap.size, 2, none⟩ = some (.int .i64 x.b) := by simp [World.cell?, hc]
  have c3 : w1.cell? ⟨w.heap.size, 3, none⟩ = some (.int .i64 x.c) := by simp [World.cell?, hc]
  have c4 : w1.cell? ⟨w.heap.size, 4, none⟩ = some (.int .i64 x.n) := by simp [World.cell?, hc]
  have HOP := Lib.hid (dOpds_any w1 x h)
  unfold NeedPost at HOP
  rw [hL] at HOP ⊢
  unfold opV at HOP ⊢
  clear hw1 hc hL h
  go_enter Try.func31, Try.ntmps31
  go_wp2_with fail
  rw [HW1.out]
  go_wp2_with fail
  refine HOP.out.mono ?_
  rintro e w2 ⟨v, rfl, hv, hb, -⟩
  have HV := Lib.hid hv
  have HB2 : Hid (Below w.heap.size w w2) := Lib.hid (HB1.out.trans (hb.mono HB1.out.size))
  obtain ⟨A, c, rfl, l1, l2⟩ := ints_form hv
  obtain ⟨m, hm⟩ : ∃ m, L.length = m := ⟨_, rfl⟩
  have HM := Lib.hid hm
  rw [hm] at HV l1 ⊢
  unfold maxLen at l2
  clear hv hb hm c0 c1 c2 c3 c4
  go_wp2_with fail
  go_loopw [6] (fun vi wr => ∃ k : Nat, k ≤ m ∧ vi = .int .i64 (k : Int) ∧ (∀ y ∈ L.take k, y ≠ i) ∧ wr = w2) (fun vi _ => m - (intOf vi).toNat)
  case atStart => exact ⟨0, Nat.zero_le _, rfl, by simp, rfl⟩
  case round =>
    obtain ⟨k, hk, rfl, hno, rfl⟩ := hrel
    have HNO := Lib.hid hno
    clear hno
    by_cases hkm : k < m
    · obtain ⟨y, hy⟩ : ∃ y, L[k]? = some y := ⟨_, List.getElem?_eq_getElem (by rw [HM.out]; exact hkm)⟩
      obtain ⟨g, o, rfl, hg, e0⟩ := ints_at HV.out hy
      by_cases hq : y = i
      · subst hq
        have HQ : Hid (decide (y ∈ L) = true) := Lib.hid (decide_eq_true (List.mem_of_getElem? hy))
        clear hy
        go_wp2_with fail
        go_ret
        exact ⟨ret_bool HQ.out.symm, HB2.out⟩
      · have HQ : Hid (∀ z ∈ L.take (k + 1), z ≠ i) := Lib.hid (fun z hz => by
          rw [List.take_add_one, hy, List.mem_append] at hz
          rcases hz with hz | hz
          · exact HNO.out z hz
          · simp at hz; rw [hz]; exact hq)
        have hb : (y == i) = false := by simp [hq]
        clear hy hq
        go_wp2_with fail
        exact ⟨⟨k + 1, by omega, by go_num, HQ.out, trivial⟩, by simp [intOf]; omega⟩
    · have HQ : Hid (decide (i ∈ L) = false) := Lib.hid (decide_eq_false (fun hm => by
        have := HNO.out i (by rw [List.take_of_length_le (by rw [HM.out]; omega)]; exact hm)
        exact this rfl))
      go_wp2_with fail
      go_ret
      exact ⟨ret_bool HQ.out.symm, HB2.out⟩
end Go.Proofs.Ytlilpdflnjepeaa.Nt
