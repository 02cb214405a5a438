/- The answers that the document gives, as the law states them. Conditions: the library's variables read as they are laid. -/
import Derived.Test.YtgngdkbcndldfaaDoorFaQ
import Derived.Test.YtgngdkbcndldfaaDoorFaL
namespace Go.Proofs.YtgngdkbcndldfaaDoor.Fr
open Go.ChangeShapes Go.WideShapes Go.ChangeAt Go.RowKit Go.Proofs.YtgngdkbcndldfaaDoor.Tr
set_option linter.unusedVariables false
set_option linter.unusedSimpArgs false

theorem undF : Tryd.prog.underlying 27 = some (.struct (Tryd.prog.fieldsOf 27)) := by kernel_rfl
theorem stoodF : Tryd.prog.stoodInHeld 27 = false := by kernel_rfl
theorem guardF : Tryd.prog.eqGuardType Tryd.prog.depth 27 = false := by kernel_rfl
theorem equal_fault (d : Nat) (K1 K2 P1 P2 : Int) (w : World) :
    (Op.equalIn (d + 2) 27 (.agg #[.int .i64 K1, .int .i64 P1]) (.agg #[.int .i64 K2, .int .i64 P2])).run Tryd.prog w = .ok (K1 == K2 && P1 == P2) w := by
  rw [run_equalIn_agg w (d + 1) 27 _ _ undF stoodF]
  simp only [Program.fieldsOf, Tryd.underlying27]
  rcases Bool.eq_false_or_eq_true (K1 == K2) with h1 | h1 <;> rcases Bool.eq_false_or_eq_true (P1 == P2) with h3 | h3 <;>
    simp [go_sem, h1, h3, Tryd.underlying3, Tryd.underlying25]
def faultB (K1 K2 P1 P2 : Int) : Bool := K1 == K2 && P1 == P2
theorem eql_fault (K1 K2 P1 P2 : Int) (w : World) :
    (binOp .eql 27 (.agg #[.int .i64 K1, .int .i64 P1]) (.agg #[.int .i64 K2, .int .i64 P2])).run Tryd.prog w = .ok (.bool (faultB K1 K2 P1 P2)) w := by
  rw [run_eql_struct, show (10000 : Nat) = 9998 + 2 from rfl, equal_fault]; rfl
theorem guard_fault (op : BinOp) (x y : Operand) (xs ys : Array Value) (w : World) : (eqGuard op 27 x y (.agg xs) (.agg ys)).run Tryd.prog w = .ok () w := run_eqGuard_agg w op 27 x y xs ys guardF
theorem faultB_self (a b : Int) : faultB a a b b = true := by simp [faultB]
theorem rows_two (W : World) (u v : Value) (a b : List Int) (hu : Ints W u a) (hv : Ints W v b) : RowsR (W.alloc (.cells #[u, v] 22)) (.slice (some ⟨W.heap.size, 0, none⟩) 2 2) [a, b] := by
  have hn := heap_alloc_new W (.cells #[u, v] 22)
  refine ⟨some ⟨W.heap.size, 0, none⟩, 2, rfl, Nat.le_refl _, by unfold maxLen; omega, fun i r hi => ?_⟩
  have hb := below_new W (.cells #[u, v] 22)
  match i, hi with
  | 0, hi => cases hi; exact ⟨W.heap.size, 0, u, rfl, lt_of_block hn, by unfold World.cell?; rw [hn]; rfl, hu.below hb (Nat.le_refl _)⟩
  | 1, hi => cases hi; exact ⟨W.heap.size, 0, v, rfl, lt_of_block hn, by unfold World.cell?; rw [hn]; rfl, hv.below hb (Nat.le_refl _)⟩
  | i + 2, hi => simp at hi
theorem rows_one (W : World) (u : Value) (a : List Int) (hu : Ints W u a) : RowsR (W.alloc (.cells #[u] 22)) (.slice (some ⟨W.heap.size, 0, none⟩) 1 1) [a] := by
  have hn := heap_alloc_new W (.cells #[u] 22)
  refine ⟨some ⟨W.heap.size, 0, none⟩, 1, rfl, Nat.le_refl _, by unfold maxLen; omega, fun i r hi => ?_⟩
  have hb := below_new W (.cells #[u] 22)
  match i, hi with
  | 0, hi => cases hi; exact ⟨W.heap.size, 0, u, rfl, lt_of_block hn, by unfold World.cell?; rw [hn]; rfl, hu.below hb (Nat.le_refl _)⟩
  | i + 1, hi => simp at hi
theorem lit_two (w : World) (a b : Int) : Ints (w.alloc (.cells #[.int .i64 a, .int .i64 b] 3)) (.slice (some ⟨w.heap.size, 0, none⟩) 2 2) [a, b] := by
  have := Ints.of_own (ints_lit w [a, b] (by simp [maxLen]))
  simpa [intsOf] using this
/-- Two rows of two that are laid. -/
theorem rows_lit2 (w : World) (a b c d : Int) : RowsR (((w.alloc (.cells #[.int .i64 a, .int .i64 b] 3)).alloc (.cells #[.int .i64 c, .int .i64 d] 3)).alloc (.cells #[.slice (some ⟨w.heap.size, 0, none⟩) 2 2, .slice (some ⟨w.heap.size + 1, 0, none⟩) 2 2] 22)) (.slice (some ⟨w.heap.size + 1 + 1, 0, none⟩) 2 2) [[a, b], [c, d]] := by
  have h1 := lit_two w a b
  have h2 := lit_two (w.alloc (.cells #[.int .i64 a, .int .i64 b] 3)) c d
  rw [show (w.alloc (.cells #[.int .i64 a, .int .i64 b] 3)).heap.size = w.heap.size + 1 by simp] at h2
  have h3 := rows_two ((w.alloc (.cells #[.int .i64 a, .int .i64 b] 3)).alloc (.cells #[.int .i64 c, .int .i64 d] 3)) _ _ _ _ (h1.below (below_new _ _) (Nat.le_refl _)) h2
  rw [show ((w.alloc (.cells #[.int .i64 a, .int .i64 b] 3)).alloc (.cells #[.int .i64 c, .int .i64 d] 3)).heap.size = w.heap.size + 1 + 1 by simp] at h3
  exact h3
theorem rows_lit1 (w : World) (a b : Int) : RowsR ((w.alloc (.cells #[.int .i64 a, .int .i64 b] 3)).alloc (.cells #[.slice (some ⟨w.heap.size, 0, none⟩) 2 2] 22)) (.slice (some ⟨w.heap.size + 1, 0, none⟩) 1 1) [[a, b]] := by
  have h3 := rows_one (w.alloc (.cells #[.int .i64 a, .int .i64 b] 3)) _ _ (lit_two w a b)
  rw [show (w.alloc (.cells #[.int .i64 a, .int .i64 b] 3)).heap.size = w.heap.size + 1 by simp] at h3
  exact h3

def S1 : Bs := [45, 51, 32, 116, 114, 117, 101, 10, 55, 32, 32, 102, 97, 108, 115, 101]
def S2 : Bs := [49, 32, 116, 114, 117, 101, 10, 48, 49, 32, 116, 114, 117, 101, 10]
def S3 : Bs := [45, 51, 32, 116, 114, 117, 101, 10, 55, 32, 102, 97, 108, 115, 101, 10]
theorem live1 : readM [2, 1] S1 = ([[-3, 1], [7, 0]], 0, 0) := by decide +kernel
theorem live2 : readM [2, 1] S2 = ([[1, 1]], 17, 1) := by decide +kernel
theorem live3 : writeM [2, 1] [[-3, 1], [7, 0]] = some S3 := by decide +kernel
theorem live4 : writeM [2, 1] [[1, 2]] = none := by decide +kernel
attribute [local go_sem ↓] eql_fault guard_fault
set_option maxRecDepth 100000 in
set_option maxHeartbeats 8000000 in
theorem live_any (w : World) (hF : FrAt w) : Calls Tryd.prog 9 #[] w (fun e w' => e = .returned (.bool true) ∧ Below w.heap.size w w') := by
  have HF := Lib.hid hF
  clear hF
  obtain ⟨w1, hw1⟩ : ∃ W, w.alloc (.cells #[.int .i64 2, .int .i64 1] 3) = W := ⟨_, rfl⟩
  have HB1 : Hid (Below w.heap.size w w1) := Lib.hid (by rw [← hw1]; exact below_new _ _)
  have HT1 : Hid (Ints w1 (.slice (some ⟨w.heap.size, 0, none⟩) 2 2) [2, 1]) := Lib.hid (by rw [← hw1]; exact lit_two w 2 1)
  have hs1 : w1.heap.size = w.heap.size + 1 := by rw [← hw1]; simp
  have HTY : Hid (∀ W, Below w1.heap.size w1 W → Ints W (.slice (some ⟨w.heap.size, 0, none⟩) 2 2) [2, 1]) := Lib.hid (fun W hW => HT1.out.below hW (Nat.le_refl _))
  have HFR : Hid (∀ W, Below w1.heap.size w1 W → FrAt W) := Lib.hid (fun W hW => (HF.out.below HB1.out).below hW)
  have HRD1 : Hid (∀ W, Below w1.heap.size w1 W → Calls Tryd.prog 10 #[.slice (some ⟨w.heap.size, 0, none⟩) 2 2, .string ⟨#[45, 51, 32, 116, 114, 117, 101, 10, 55, 32, 32, 102, 97, 108, 115, 101]⟩] W (ReadPost ([[-3, 1], [7, 0]], 0, 0) W)) := Lib.hid (fun W hW => by
    have := Read_any W (HFR.out W hW) _ [2, 1] S1 (HTY.out W hW) (by decide)
    rw [live1] at this; exact this)
  have HRD2 : Hid (∀ W, Below w1.heap.size w1 W → Calls Tryd.prog 10 #[.slice (some ⟨w.heap.size, 0, none⟩) 2 2, .string ⟨#[49, 32, 116, 114, 117, 101, 10, 48, 49, 32, 116, 114, 117, 101, 10]⟩] W (ReadPost ([[1, 1]], 17, 1) W)) := Lib.hid (fun W hW => by
    have := Read_any W (HFR.out W hW) _ [2, 1] S2 (HTY.out W hW) (by decide)
    rw [live2] at this; exact this)
  have HWR1 : Hid (∀ W v, Below w1.heap.size w1 W → RowsR W v [[-3, 1], [7, 0]] → Calls Tryd.prog 13 #[.slice (some ⟨w.heap.size, 0, none⟩) 2 2, v] W (fun e w' => e = .returned (.tuple #[.string ⟨#[45, 51, 32, 116, 114, 117, 101, 10, 55, 32, 102, 97, 108, 115, 101, 10]⟩, .int .i64 0]) ∧ Below W.heap.size W w')) := Lib.hid (fun W v hW hv => by
    have := write_any W (HFR.out W hW) _ v [2, 1] _ (HTY.out W hW) hv (by decide)
    rw [live3] at this
    refine this.mono ?_
    rintro e w' ⟨hb, ⟨h, _⟩ | ⟨t, h, rfl⟩⟩
    · cases h
    · cases h; exact ⟨rfl, hb⟩)
  have HWR2 : Hid (∀ W v, Below w1.heap.size w1 W → RowsR W v [[1, 2]] → Calls Tryd.prog 13 #[.slice (some ⟨w.heap.size, 0, none⟩) 2 2, v] W (fun e w' => e = .returned (.tuple #[.string ⟨#[]⟩, .int .i64 1]) ∧ Below W.heap.size W w')) := Lib.hid (fun W v hW hv => by
    have := write_any W (HFR.out W hW) _ v [2, 1] _ (HTY.out W hW) hv (by decide)
    rw [live4] at this
    refine this.mono ?_
    rintro e w' ⟨hb, ⟨_, rfl⟩ | ⟨t, h, rfl⟩⟩
    · exact ⟨rfl, hb⟩
    · cases h)
  go_enter Tryd.func9, Tryd.ntmps9
  go_wp2_with fail
  refine (HRD1.out _ (Below.refl _ _)).mono ?_
  rintro e w2 ⟨av, rfl, hra, hb2⟩
  have HRA := Lib.hid hra
  have HB2 : Hid (Below w1.heap.size w1 w2) := Lib.hid hb2
  clear hra hb2
  have hz1 := HB2.out.size
  obtain ⟨w3, hw3⟩ : ∃ W, w2.alloc (.cells #[.int .i64 0, .int .i64 0] 27) = W := ⟨_, rfl⟩
  have HE3 : Hid (w3.heap[w2.heap.size]? = some (.cells #[.int .i64 0, .int .i64 0] 27 (0, 0))) := Lib.hid (by rw [← hw3]; exact heap_alloc_new _ _)
  have HB3 : Hid (Below w1.heap.size w1 w3) := Lib.hid (by rw [← hw3]; exact HB2.out.alloc hz1 _)
  have HA3 : Hid (Below w2.heap.size w2 w3) := Lib.hid (by rw [← hw3]; exact below_new _ _)
  have HW3 := Lib.hid hw3
  clear hw3
  go_wp2_with fail
  rw [HW3.out]
  refine (HRD2.out w3 HB3.out).mono ?_
  rintro e w4 ⟨bv, rfl, hrb, hb4⟩
  have HRB := Lib.hid hrb
  have hz3 := HB3.out.size
  have HA4 := Lib.hid hb4
  have HB4 : Hid (Below w1.heap.size w1 w4) := Lib.hid (HB3.out.trans (hb4.mono hz3))
  have hz4 := HB4.out.size
  clear hrb hb4
  obtain ⟨w5, hw5⟩ : ∃ W, w4.alloc (.cells #[.int .i64 17, .int .i64 1] 27) = W := ⟨_, rfl⟩
  have HE5 : Hid (w5.heap[w4.heap.size]? = some (.cells #[.int .i64 17, .int .i64 1] 27 (0, 0))) := Lib.hid (by rw [← hw5]; exact heap_alloc_new _ _)
  have HB5 : Hid (Below w1.heap.size w1 w5) := Lib.hid (by rw [← hw5]; exact HB4.out.alloc hz4 _)
  have HA5 : Hid (Below w4.heap.size w4 w5) := Lib.hid (by rw [← hw5]; exact below_new _ _)
  have HW5 := Lib.hid hw5
  have hs5 : w5.heap.size = w4.heap.size + 1 := by rw [← hw5]; simp
  obtain ⟨w6, hw6⟩ : ∃ W, ((w5.alloc (.cells #[.int .i64 (-3), .int .i64 1] 3)).alloc (.cells #[.int .i64 7, .int .i64 0] 3)).alloc (.cells #[.slice (some ⟨w4.heap.size + 1, 0, none⟩) 2 2, .slice (some ⟨w4.heap.size + 1 + 1, 0, none⟩) 2 2] 22) = W := ⟨_, rfl⟩
  have HR6 : Hid (RowsR w6 (.slice (some ⟨w4.heap.size + 1 + 1 + 1, 0, none⟩) 2 2) [[-3, 1], [7, 0]]) := Lib.hid (by have := rows_lit2 w5 (-3) 1 7 0; rw [hs5, hw6] at this; exact this)
  have HA6 : Hid (Below w5.heap.size w5 w6) := Lib.hid (by rw [← hw6]; exact ((below_new w5 _).alloc (by simp) _).alloc (by simp; omega) _)
  have HB6 : Hid (Below w1.heap.size w1 w6) := Lib.hid (HB5.out.trans (HA6.out.mono HB5.out.size))
  have HW6 := Lib.hid hw6
  clear hw5 hw6
  go_wp2_with fail
  rw [HW5.out, HW6.out]
  refine (HWR1.out w6 _ HB6.out HR6.out).mono ?_
  rintro e w7 ⟨rfl, hb7⟩
  have HA7 := Lib.hid hb7
  have HB7 : Hid (Below w1.heap.size w1 w7) := Lib.hid (HB6.out.trans (hb7.mono HB6.out.size))
  clear hb7
  obtain ⟨w8, hw8⟩ : ∃ W, (w7.alloc (.cells #[.int .i64 1, .int .i64 2] 3)).alloc (.cells #[.slice (some ⟨w7.heap.size, 0, none⟩) 2 2] 22) = W := ⟨_, rfl⟩
  have HR8 : Hid (RowsR w8 (.slice (some ⟨w7.heap.size + 1, 0, none⟩) 1 1) [[1, 2]]) := Lib.hid (by rw [← hw8]; exact rows_lit1 w7 1 2)
  have HA8 : Hid (Below w7.heap.size w7 w8) := Lib.hid (by rw [← hw8]; exact (below_new w7 _).alloc (by simp) _)
  have HB8 : Hid (Below w1.heap.size w1 w8) := Lib.hid (HB7.out.trans (HA8.out.mono HB7.out.size))
  have HW8 := Lib.hid hw8
  clear hw8
  go_wp2_with fail
  rw [HW8.out]
  refine (HWR2.out w8 _ HB8.out HR8.out).mono ?_
  rintro e w9 ⟨rfl, hb9⟩
  have HA9 := Lib.hid hb9
  have HB9 : Hid (Below w1.heap.size w1 w9) := Lib.hid (HB8.out.trans (hb9.mono HB8.out.size))
  clear hb9
  have H29 : Hid (Below w2.heap.size w2 w9) := Lib.hid (HA3.out.trans ((HA4.out.trans ((HA5.out.trans ((HA6.out.trans ((HA7.out.trans ((HA8.out.trans (HA9.out.mono HA8.out.size)).mono HA7.out.size)).mono HA6.out.size)).mono HA5.out.size)).mono HA4.out.size)).mono HA3.out.size))
  have H39 : Hid (Below w3.heap.size w3 w9) := Lib.hid (HA4.out.trans ((HA5.out.trans ((HA6.out.trans ((HA7.out.trans ((HA8.out.trans (HA9.out.mono HA8.out.size)).mono HA7.out.size)).mono HA6.out.size)).mono HA5.out.size)).mono HA4.out.size))
  have H49 : Hid (Below w4.heap.size w4 w9) := Lib.hid (HA5.out.trans ((HA6.out.trans ((HA7.out.trans ((HA8.out.trans (HA9.out.mono HA8.out.size)).mono HA7.out.size)).mono HA6.out.size)).mono HA5.out.size))
  have H59 : Hid (Below w5.heap.size w5 w9) := Lib.hid (HA6.out.trans ((HA7.out.trans ((HA8.out.trans (HA9.out.mono HA8.out.size)).mono HA7.out.size)).mono HA6.out.size))
  obtain ⟨wA, hwA⟩ : ∃ W, ((w9.alloc (.cells #[.int .i64 (-3), .int .i64 1] 3)).alloc (.cells #[.int .i64 7, .int .i64 0] 3)).alloc (.cells #[.slice (some ⟨w9.heap.size, 0, none⟩) 2 2, .slice (some ⟨w9.heap.size + 1, 0, none⟩) 2 2] 22) = W := ⟨_, rfl⟩
  have HRA' : Hid (RowsR wA (.slice (some ⟨w9.heap.size + 1 + 1, 0, none⟩) 2 2) [[-3, 1], [7, 0]]) := Lib.hid (by rw [← hwA]; exact rows_lit2 w9 (-3) 1 7 0)
  have HAA : Hid (Below w9.heap.size w9 wA) := Lib.hid (by rw [← hwA]; exact ((below_new w9 _).alloc (by simp) _).alloc (by simp; omega) _)
  have HWA := Lib.hid hwA
  have HQ1 := Lib.hid (rows_eq wA av _ _ (HRA.out.below (H29.out.trans (HAA.out.mono H29.out.size)) (Nat.le_refl _)) HRA'.out)
  clear hwA
  go_wp2_with fail
  rw [HWA.out]
  refine HQ1.out.mono ?_
  rintro e wB ⟨rfl, hbB⟩
  have HBB : Hid (Below w9.heap.size w9 wB) := Lib.hid (HAA.out.trans (hbB.mono HAA.out.size))
  clear hbB
  have hl2 : w2.heap.size < w3.heap.size := lt_of_block HE3.out
  have hl4 : w4.heap.size < w5.heap.size := lt_of_block HE5.out
  have h3B : wB.heap[w2.heap.size]? = some (.cells #[.int .i64 0, .int .i64 0] 27 (0, 0)) := ((H39.out.trans (HBB.out.mono H39.out.size)).block _ hl2).trans HE3.out
  have g30 : wB.cell? ⟨w2.heap.size, 0, none⟩ = some (.int .i64 0) := by unfold World.cell?; rw [h3B]; rfl
  have g31 : wB.cell? ⟨w2.heap.size, 1, none⟩ = some (.int .i64 0) := by unfold World.cell?; rw [h3B]; rfl
  have hF0 : faultB 0 0 0 0 = true := rfl
  obtain ⟨wC, hwC⟩ : ∃ W, (wB.alloc (.cells #[.int .i64 1, .int .i64 1] 3)).alloc (.cells #[.slice (some ⟨wB.heap.size, 0, none⟩) 2 2] 22) = W := ⟨_, rfl⟩
  have HRC : Hid (RowsR wC (.slice (some ⟨wB.heap.size + 1, 0, none⟩) 1 1) [[1, 1]]) := Lib.hid (by rw [← hwC]; exact rows_lit1 wB 1 1)
  have HBC : Hid (Below wB.heap.size wB wC) := Lib.hid (by rw [← hwC]; exact (below_new wB _).alloc (by simp) _)
  have HWC := Lib.hid hwC
  have H4C : Hid (Below w4.heap.size w4 wC) := Lib.hid (H49.out.trans ((HBB.out.trans (HBC.out.mono HBB.out.size)).mono H49.out.size))
  have HQ2 := Lib.hid (rows_eq wC bv _ _ (HRB.out.below H4C.out (Nat.le_refl _)) HRC.out)
  clear h3B hwC hl2
  go_wp2_with fail
  rw [HWC.out]
  refine HQ2.out.mono ?_
  rintro e wD ⟨rfl, hbD⟩
  have HBD : Hid (Below w9.heap.size w9 wD) := Lib.hid (HBB.out.trans ((HBC.out.trans (hbD.mono HBC.out.size)).mono HBB.out.size))
  clear hbD
  have h5D : wD.heap[w4.heap.size]? = some (.cells #[.int .i64 17, .int .i64 1] 27 (0, 0)) := ((H59.out.trans (HBD.out.mono H59.out.size)).block _ hl4).trans HE5.out
  have g50 : wD.cell? ⟨w4.heap.size, 0, none⟩ = some (.int .i64 17) := by unfold World.cell?; rw [h5D]; rfl
  have g51 : wD.cell? ⟨w4.heap.size, 1, none⟩ = some (.int .i64 1) := by unfold World.cell?; rw [h5D]; rfl
  have hF1 : faultB 17 17 1 1 = true := rfl
  have HEND : Hid (Below w.heap.size w wD) := Lib.hid (HB1.out.trans ((HB9.out.trans (HBD.out.mono HB9.out.size)).mono HB1.out.size))
  clear h5D hl4
  go_wp2_with fail
  go_ret
  exact ⟨rfl, HEND.out⟩
end Go.Proofs.YtgngdkbcndldfaaDoor.Fr
