/- How often a function is true: Count. Conditions: none. -/
import Derived.Test.YtfohjlepknnleaaBdNb
import Derived.Test.YtfohjlepknnleaaBdV
import Derived.Test.YtfohjlepknnleaaBdR
import Derived.Laws.EntriesVeiled
namespace Go.Proofs.Ytfohjlepknnleaa.Bd
open Go.ChangeShapes Go.WideShapes Go.ChangeAt Go.RowKit
set_option linter.unusedVariables false
set_option linter.unusedSimpArgs false

set_option maxRecDepth 100000 in
set_option maxHeartbeats 1600000 in
theorem count_bad (w : World) (pt : Value) (n : Nat) (h : PtAt w pt n) (f : Int) (hb : hasB n [f] = false) :
    Calls Try.prog 22 #[pt, .int .i64 f] w (fun e w' => e = .returned (.tuple #[.int .i64 0, .int .i64 1]) ∧ Below w.heap.size w w') := by
  obtain ⟨w1, hw1⟩ : ∃ W, w.alloc (.cells #[pt] 24) = W := ⟨_, rfl⟩
  obtain ⟨w2, hw2⟩ : ∃ W, w1.alloc (.cells #[.int .i64 f] 3) = W := ⟨_, rfl⟩
  obtain ⟨-, c1, f1, b1, s1⟩ := one_new _ _ _ _ hw1
  obtain ⟨-, -, -, b2, s2⟩ := one_new _ _ _ _ hw2
  have hB : Below w.heap.size w w2 := b1.trans (b2.mono (by omega))
  have hc := phas_any w2 pt n _ [f] (h.below hB) (ints_one w1 f w2 hw2) (by simp)
  rw [hb, s1] at hc
  have c2 : w2.cell? ⟨w.heap.size, 0, none⟩ = some pt := by
    rw [World.cell?_of_block (b2.block _ (by show w.heap.size < w1.heap.size; omega))]; exact c1
  have HC := Lib.hid hc
  have HB := Lib.hid hB
  rw [← hw1] at hw2
  have hpa : ∃ a, pt = .pointer a := by rcases h with ⟨h, _⟩ | ⟨_, _, _, _, _, _, _, h, _⟩ <;> exact ⟨_, h⟩
  clear hc h hb hB b1 s1 b2 s2 hw1 c1 f1
  obtain ⟨a, rfl⟩ := hpa
  go_enter Try.func22, Try.ntmps22
  go_wp2_with (go_at_call 32; with_reducible refine HC.out.mono ?_; rintro e w2 ⟨rfl, rfl⟩)
  refine bodyPost_ret (v := .tuple #[.int .i64 0, .int .i64 1]) (by simp [results, Try.results22, go_sem]) rfl ⟨rfl, HB.out⟩

set_option maxRecDepth 100000 in
set_option maxHeartbeats 1600000 in
/-- How often a function is true. -/
theorem count_any (B : Nat) (w : World) (b vars budget : Nat) (S : List Nd) (h : StAt B w b vars budget S) (f : Nat) (hf : f < S.length) :
    Calls Try.prog 22 #[.pointer (some ⟨b, 0, none⟩), .int .i64 (f : Int)] w (fun e w' => e = .returned (.tuple #[.int .i64 (cntD vars S f : Nat), .int .i64 0]) ∧ Below w.heap.size w w') := by
  obtain ⟨nv, pb, h⟩ := h
  obtain ⟨w1, hw1⟩ : ∃ W, w.alloc (.cells #[.pointer (some ⟨b, 0, none⟩)] 24) = W := ⟨_, rfl⟩
  obtain ⟨w2, hw2⟩ : ∃ W, w1.alloc (.cells #[.int .i64 (f : Int)] 3) = W := ⟨_, rfl⟩
  obtain ⟨w3, hw3⟩ : ∃ W, w2.alloc (.cells #[.nilFunc] 81) = W := ⟨_, rfl⟩
  obtain ⟨a1, c1, f1, b1, s1⟩ := one_new _ _ _ _ hw1
  obtain ⟨-, -, -, b2, s2⟩ := one_new _ _ _ _ hw2
  obtain ⟨a3, -, -, b3, s3⟩ := one_new _ _ _ _ hw3
  have hB2 : Below w.heap.size w w2 := b1.trans (b2.mono (by omega))
  have hB3 : Below w.heap.size w w3 := hB2.trans (b3.mono (by omega))
  have hp : PtAt w2 (.pointer (some ⟨b, 0, none⟩)) S.length := .inr ⟨B, b, vars, budget, nv, pb, S, rfl, h.below hB2, rfl⟩
  have hc := phas_any w2 _ _ _ [(f : Int)] hp (ints_one w1 f w2 hw2) (by simp)
  have ht : hasB S.length [(f : Int)] = true := by rw [has_one]; simp; omega
  rw [ht, s1] at hc
  have c2 : w2.cell? ⟨w.heap.size, 0, none⟩ = some (.pointer (some ⟨b, 0, none⟩)) := by
    rw [World.cell?_of_block (b2.block _ (by show w.heap.size < w1.heap.size; omega))]; exact c1
  have a1' : w3.heap[w.heap.size]? = some (.cells #[.pointer (some ⟨b, 0, none⟩)] 24 (0, 0)) := by rw [b3.block _ (by omega), b2.block _ (by omega)]; exact a1
  rw [s2, s1] at a3 s3
  have hr := remI_any w3 43 #[.pointer (some ⟨w.heap.size, 0, none⟩), .pointer (some ⟨w.heap.size + 1 + 1, 0, none⟩)] _ rfl
  have HC := Lib.hid hc
  have HR := Lib.hid hr
  have HST := Lib.hid h
  have HF := Lib.hid hf
  have A1 := Lib.hid a1'
  have A3 := Lib.hid a3
  have S3 := Lib.hid s3
  have S2 : Hid (w2.heap.size = w.heap.size + 1 + 1) := Lib.hid (by rw [s2, s1])
  have HB3 := Lib.hid hB3
  have HW3 := Lib.hid hw3
  rw [← hw1] at hw2
  clear hc h hp hB2 hB3 b1 s1 b2 s2 hw1 hw3 c1 f1 hr hf a1 a1' a3 s3 b3 ht
  go_enter Try.func22, Try.ntmps22
  go_wp2_with (go_at_call 32; with_reducible refine HC.out.mono ?_; rintro e w2' ⟨rfl, hw2'⟩; subst hw2')
  rw [HW3.out, S2.out]
  refine HR.out.mono ?_
  rintro e w4 ⟨hb4, hs4, rfl, k3, k5, m4⟩
  rw [S3.out] at hs4 k3 k5 m4 ⊢
  have i0 : w4.heap[w.heap.size]? = some (.cells #[.pointer (some ⟨b, 0, none⟩)] 24 (0, 0)) := (hb4.block _ (by rw [S3.out]; omega)).trans A1.out
  have i2 : w4.heap[w.heap.size + 1 + 1]? = some (.cells #[.nilFunc] 81 (0, 0)) := (hb4.block _ (by rw [S3.out]; omega)).trans A3.out
  have q2 : w4.cell? ⟨w.heap.size + 1 + 1, 0, none⟩ = some .nilFunc := by unfold World.cell?; rw [i2]; rfl
  have q2f : w4.frozen? ⟨w.heap.size + 1 + 1, 0, none⟩ = false := by unfold World.frozen?; rw [i2]; rfl
  obtain ⟨w5, hw5⟩ : ∃ W, w4.setCell ⟨w.heap.size + 1 + 1, 0, none⟩ (.func (.func 54) #[] #[.pointer (some ⟨w.heap.size + 1 + 1 + 1 + 2, 0, none⟩), .pointer (some ⟨w.heap.size + 1 + 1 + 1, 0, none⟩)]) = W := ⟨_, rfl⟩
  have HE : Hid (Below w.heap.size w w5 ∧ CtAt B b vars budget nv pb S w.heap.size w5) := Lib.hid (by
    have hs3 := S3.out
    have st := HST.out
    have hb5 : Below w.heap.size w w5 := by rw [← hw5]; exact (HB3.out.trans (hb4.mono (by omega))).setCell (by show _ ≤ w.heap.size + 1 + 1; omega) _
    obtain ⟨kf, km, kt⟩ := st.map
    rw [← hw5]
    refine ⟨by rw [hw5]; exact hb5, ⟨by rw [hw5]; exact st.below hb5, ?_, one_set i2, ?_, ?_, ⟨0, _, m4.keep (Below.heap_setCell _ _ _ _ (by show w.heap.size + 1 + 1 + 1 + 1 ≠ w.heap.size + 1 + 1; omega)), by omega, fun x v hv => by cases hv⟩, st.box.lt, km.lt, fun g hg => (st.row.lt g hg).2⟩⟩
    · rw [Below.heap_setCell _ _ _ _ (by show _ ≠ w.heap.size + 1 + 1; omega)]; exact i0
    · rw [Below.heap_setCell _ _ _ _ (by show _ ≠ w.heap.size + 1 + 1; omega)]; exact k3
    · rw [Below.heap_setCell _ _ _ _ (by show _ ≠ w.heap.size + 1 + 1; omega)]; exact k5)
  have HW5 := Lib.hid hw5
  have HCO : Hid (Calls Try.prog 54 #[.int .i64 (f : Int), .pointer (some ⟨w.heap.size + 1 + 1 + 1 + 2, 0, none⟩), .pointer (some ⟨w.heap.size + 1 + 1 + 1, 0, none⟩)] w5 (fun e w' => e = .returned (.int .i64 (cntD vars S f : Nat)) ∧ CtAt B b vars budget nv pb S w.heap.size w' ∧ CtFr w.heap.size w5 w')) :=
    Lib.hid (count_of B b vars budget nv pb S w.heap.size (f + 1) f w5 (by omega) HF.out HE.out.2)
  have c5 : w5.cell? ⟨w.heap.size + 1 + 1, 0, none⟩ = some (.func (.func 54) #[] #[.pointer (some ⟨w.heap.size + 1 + 1 + 1 + 2, 0, none⟩), .pointer (some ⟨w.heap.size + 1 + 1 + 1, 0, none⟩)]) := HE.out.2.ats.2.1
  clear hb4 hs4 k3 k5 m4 i0 i2 hw5
  go_wp2_with fail
  rw [HW5.out]
  go_wp2_with fail
  refine HCO.out.mono ?_
  rintro e w6 ⟨rfl, -, hf6⟩
  have HB6 : Hid (Below w.heap.size w w6) := Lib.hid (HE.out.1.trans (by
    have := HE.out.1.size
    exact ⟨hf6.os, hf6.tape, hf6.output, hf6.size, fun g hg => hf6.keep g (by omega) (by omega)⟩))
  clear hf6
  go_wp2
  refine bodyPost_ret (v := .tuple #[.int .i64 (cntD vars S f : Nat), .int .i64 0]) (by simp [results, Try.results22, go_sem]) rfl ⟨rfl, HB6.out⟩
end Go.Proofs.Ytfohjlepknnleaa.Bd
