/- The function Sub returns the nodes of which a node is made, in order, or nothing. Conditions: the slice is read as a list of nodes. -/
import Derived.Test.YtobkcdkffcenbaaGreatDoorRa04
import Derived.Test.YtobkcdkffcenbaaGreatDoorKa10
import Derived.Deep.OwnRows
import Derived.Laws.EntriesVeiled
set_option linter.unusedVariables false
set_option linter.unusedSimpArgs false
namespace Go.Proofs.YtobkcdkffcenbaaGreatDoor.Tr
open Go.ChangeShapes Go.WideShapes Go.ChangeAt Go.RowKit
theorem may_lit (v : Value) (e : List Nd) (b : Bool) (w : World) (hv : Nodes w v e) (h : mayB e = b) : Calls Tryz.prog 66 #[v] w fun r w' => r = .returned (.bool b) ∧ Below w.heap.size w w' := by rw [← h]; exact may_any v e w hv
theorem alloc_at0 (w : World) (o : Obj) (k : Nat) (h : k = w.heap.size) : (w.alloc o).heap[k]? = some o := by subst h; exact heap_alloc_new w o
theorem sub_blocks (w2 Wn : World) (o0 o1 o2 o3 : Obj) (h : Wn = (((w2.alloc o0).alloc o1).alloc o2).alloc o3) :
    Wn.heap.size = w2.heap.size + 4 ∧ Wn.heap[w2.heap.size]? = some o0 ∧ Wn.heap[w2.heap.size + 1]? = some o1 ∧ Wn.heap[w2.heap.size + 1 + 1]? = some o2 ∧ Wn.heap[w2.heap.size + 1 + 1 + 1]? = some o3 ∧ Below w2.heap.size w2 Wn := by
  subst h
  refine ⟨by simp, ?_, ?_, ?_, alloc_at0 _ _ _ (by simp), (((below_new w2 _).alloc (by simp) _).alloc (by simp <;> omega) _).alloc (by simp <;> omega) _⟩
  · rw [Below.heap_alloc _ _ _ (by simp <;> omega), Below.heap_alloc _ _ _ (by simp <;> omega), Below.heap_alloc _ _ _ (by simp)]; exact alloc_at0 _ _ _ rfl
  · rw [Below.heap_alloc _ _ _ (by simp <;> omega), Below.heap_alloc _ _ _ (by simp)]; exact alloc_at0 _ _ _ (by simp)
  · rw [Below.heap_alloc _ _ _ (by simp)]; exact alloc_at0 _ _ _ (by simp)
def layFn (X s : Nat) : Value := .func (.func 67) #[] #[.pointer (some ⟨X, 0, none⟩), .pointer (some ⟨s + 1 + 1 + 1, 0, none⟩), .pointer (some ⟨s, 0, none⟩), .pointer (some ⟨s + 1 + 1, 0, none⟩)]
theorem lay_start {w w2 Wn : World} {ev : Value} {e : List Nd} {E : Nat} (hE : w2.heap.size = E + 1) (hw : w.heap.size ≤ E) (hn : e.length ≤ 5000) (hb2 : Below w.heap.size w w2) (q0 : w2.heap[w.heap.size]? = some (.cells #[ev] 32 (0, 0)))
    (hs : Wn.heap.size = w2.heap.size + 4) (b0 : Wn.heap[w2.heap.size]? = some (.cells #[.slice none 0 0] 32 (0, 0))) (b1 : Wn.heap[w2.heap.size + 1]? = some (.cells (madeCells #[.int .i64 0] e.length) 3 (0, 0)))
    (b2 : Wn.heap[w2.heap.size + 1 + 1]? = some (.cells #[.slice (some ⟨w2.heap.size + 1, 0, none⟩) e.length e.length] 72 (0, 0))) (b3 : Wn.heap[w2.heap.size + 1 + 1 + 1]? = some (.cells #[layFn w.heap.size w2.heap.size] 90 (0, 0))) (hb : Below w2.heap.size w2 Wn) :
    Lay w ev e E w.heap.size Wn (.slice none 0 0) [] (List.replicate e.length 0) := by
  have hs2 := hb2.size
  rw [hE] at b0 b1 b2 b3 hs
  refine ⟨hw, hw, hb2.trans (hb.mono (by omega)), ?_, b0, ?_, b2, b3, World.ownsRow_nil _ _ _ _, by simp⟩
  · rw [hb.block _ (by omega)]; exact q0
  · refine ⟨by simp [intsOf], .inr ⟨E + 2, e.length, madeCells #[.int .i64 0] e.length, rfl, Nat.le_refl _, b1, Nat.le_refl _, by unfold maxLen; omega, ?_, ?_⟩⟩
    · have := congrArg List.length (made_ints e.length); simp [intsOf] at this ⊢; exact this
    · rw [made_ints]; simp [intsOf]
set_option maxRecDepth 100000 in
set_option maxHeartbeats 1000000 in
theorem sub_any (v : Value) (e : List Nd) (i : Int) (w : World) (hv : Nodes w v e) : Calls Tryz.prog 48 #[v, .int .i64 i] w (NodesPost w (subM e i)) := by
  have HV := Lib.hid hv
  obtain ⟨A, c, rfl, h1, h2, hA⟩ := hv
  clear hA
  unfold maxLen at h2
  obtain ⟨i0, hi, hz0, hz1, hz2⟩ := info_parts info3
  by_cases h0 : i < 0
  · have HR := Lib.hid (show subM e i = [] by unfold subM; rw [if_neg (by omega)])
    rw [HR.out]
    go_enter Tryz.func48, Tryz.ntmps48
    go_wp2
    go_ret
    exact nodes_none _ _ ((Below.refl _ _).alloc (Nat.le_refl _) _)
  have h0' : 0 ≤ i := by omega
  by_cases hl : (e.length : Int) ≤ i
  · have HR := Lib.hid (show subM e i = [] by unfold subM; rw [if_neg (by omega)])
    rw [HR.out]
    clear h0
    go_enter Tryz.func48, Tryz.ntmps48
    go_wp2
    go_ret
    exact nodes_none _ _ ((Below.refl _ _).alloc (Nat.le_refl _) _)
  obtain ⟨m, rfl⟩ := Int.eq_ofNat_of_zero_le h0'
  have hml : m < e.length := by omega
  have hd : decide (e.length ≤ m) = false := by simp; omega
  clear h0 hl
  have NW := Lib.hid (HV.out.below (below_new w (.cells #[.slice A e.length c] 32)) (Nat.le_refl _))
  rcases Bool.eq_false_or_eq_true (mayB e) with hm | hm
  rotate_left
  · have HR := Lib.hid (show subM e (m : Int) = [] by unfold subM; rw [if_neg (by rw [hm]; simp)])
    have HMM := Lib.hid hm
    clear hm
    rw [HR.out]
    go_enter Tryz.func48, Tryz.ntmps48
    go_wp2_with fail
    refine (may_lit _ e _ _ (by exact NW.out) HMM.out).mono ?_
    rintro r w2 ⟨rfl, hb2⟩
    go_wp2
    go_ret
    exact nodes_none _ _ ((below_new w _).trans (hb2.mono (by simp)))
  have HM := Lib.hid (may_of hm)
  have HMM := Lib.hid hm
  have HR := Lib.hid (show subM e (m : Int) = (tree e m).flat 0 by unfold subM; rw [if_pos ⟨hm, h0', by omega⟩, Int.toNat_natCast])
  clear hm
  rw [HR.out]
  go_enter Tryz.func48, Tryz.ntmps48
  go_wp2_with fail
  refine (may_lit _ e _ _ (by exact NW.out) HMM.out).mono ?_
  rintro r w2 ⟨rfl, hb2⟩
  have hs2 := hb2.size
  simp at hs2
  have q0 : w2.heap[w.heap.size]? = some (.cells #[.slice A e.length c] 32 (0, 0)) := (hb2.block _ (by simp)).trans (heap_alloc_new w _)
  have c0 := cell_of_one q0
  have HB2 := Lib.hid ((below_new w (.cells #[.slice A e.length c] 32)).trans (hb2.mono (by simp)))
  have HQ0 := Lib.hid q0
  clear hb2 q0
  have hle := HM.out.le
  have hmk := run_make_row' (P := Tryz.prog) 72 3 (.int .i64 0) 8 Tryz.underlying72 info3 rfl .i64 .i64 e.length (by omega) (by omega)
  have hne : w.heap.size ≠ w2.heap.size := by omega
  have hne1 : w.heap.size < w2.heap.size := by omega
  go_wp2_with fail
  obtain ⟨Wn, hWn⟩ : ∃ Wn, Wn = (((w2.alloc (.cells #[.slice none 0 0] 32)).alloc (.cells (madeCells #[.int .i64 0] e.length) 3)).alloc (.cells #[.slice (some ⟨w2.heap.size + 1, 0, none⟩) e.length e.length] 72)).alloc (.cells #[layFn w.heap.size w2.heap.size] 90) := ⟨_, rfl⟩
  show Calls Tryz.prog 67 _ ((((w2.alloc (.cells #[.slice none 0 0] 32)).alloc (.cells (madeCells #[.int .i64 0] e.length) 3)).alloc (.cells #[.slice (some ⟨w2.heap.size + 1, 0, none⟩) e.length e.length] 72)).alloc (.cells #[layFn w.heap.size w2.heap.size] 90)) _
  rw [← hWn]
  obtain ⟨k0, k1, k2, k3, k4, k5⟩ := sub_blocks w2 Wn _ _ _ _ hWn
  obtain ⟨E, hE⟩ : ∃ E, w2.heap.size = E + 1 := ⟨w2.heap.size - 1, by omega⟩
  have HE := Lib.hid hE
  have hLay := lay_start (e := e) hE (by omega) hle HB2.out HQ0.out k0 k1 k2 k3 k4 k5
  have HL := Lib.hid hLay
  clear hWn k1 k2 k3 k4 k5 hLay hE
  have hcall := lay_any w (.slice A e.length c) e E w.heap.size HM.out HV.out (m + 1) m _ _ [] _ (by omega) hml HL.out (by have := size_le e HM.out m hml; simp; omega)
  have hE' := HE.out
  rw [show E + 4 = w2.heap.size + 1 + 1 + 1 by omega, show E + 1 = w2.heap.size by omega, show E + 3 = w2.heap.size + 1 + 1 by omega] at hcall
  have HCALL := Lib.hid hcall
  clear hcall hE'
  refine HCALL.out.mono ?_
  rintro r w3 ⟨ov', pos', rfl, hlay, -, -, -, -, -⟩
  have c5 := cell_of_one hlay.res
  rw [show E + 1 = w2.heap.size from HE.out.symm] at c5
  have HLY := Lib.hid hlay
  clear hlay
  go_wp2
  go_ret
  refine ⟨_, rfl, ?_, HLY.out.below⟩
  have h5 := HLY.out.own
  have h6 := HLY.out.base
  rw [List.nil_append] at h5
  exact own_base h5 (by omega)
end Go.Proofs.YtobkcdkffcenbaaGreatDoor.Tr

