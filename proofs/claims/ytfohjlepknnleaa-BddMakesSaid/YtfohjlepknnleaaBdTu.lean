/- The function that reckons a choice: where it begins. Conditions: none. -/
import Derived.Test.YtfohjlepknnleaaBdTa
namespace Go.Proofs.Ytfohjlepknnleaa.Bd
open Go.ChangeShapes Go.WideShapes Go.ChangeAt Go.RowKit
set_option linter.unusedVariables false
set_option linter.unusedSimpArgs false

/-- An array of three that is filled up to the k-th. -/
def arr (x y z : Nat) : Nat → Array Value
  | 0 => #[.int .i64 0, .int .i64 0, .int .i64 0]
  | 1 => #[.int .i64 (x : Int), .int .i64 0, .int .i64 0]
  | 2 => #[.int .i64 (x : Int), .int .i64 (y : Int), .int .i64 0]
  | _ => #[.int .i64 (x : Int), .int .i64 (y : Int), .int .i64 (z : Int)]
/-- The two sides, filled up to the k-th. -/
structure LR (w4 : World) (a0 a1 a2 b0 b1 b2 k : Nat) (wr : World) : Prop where
  below : Below w4.heap.size w4 wr
  lo : wr.heap[w4.heap.size]? = some (.cells (arr a0 a1 a2 k) 91 (0, 0))
  hi : wr.heap[w4.heap.size + 1]? = some (.cells (arr b0 b1 b2 k) 91 (0, 0))
theorem set_at {w : World} {b k : Nat} {cs : Array Value} {T : TypeId} {u : Value} (h : w.heap[b]? = some (.cells cs T (0, 0))) : (w.setCell ⟨b, k, none⟩ u).heap[b]? = some (.cells (cs.setIfInBounds k u) T (0, 0)) := by
  simp [World.setCell, Array.getElem?_modify, h]
theorem LR.step {w4 wr w' : World} {a0 a1 a2 b0 b1 b2 k : Nat} {x y : Int} (h : LR w4 a0 a1 a2 b0 b1 b2 k wr) (hb : Below wr.heap.size wr w') (hx : (arr a0 a1 a2 k).setIfInBounds k (.int .i64 x) = arr a0 a1 a2 (k + 1)) (hy : (arr b0 b1 b2 k).setIfInBounds k (.int .i64 y) = arr b0 b1 b2 (k + 1)) :
    LR w4 a0 a1 a2 b0 b1 b2 (k + 1) ((w'.setCell ⟨w4.heap.size, k, none⟩ (.int .i64 x)).setCell ⟨w4.heap.size + 1, k, none⟩ (.int .i64 y)) := by
  have l1 := block_lt h.lo
  have l2 := block_lt h.hi
  have e1 := (hb.block _ l1).trans h.lo
  have e2 := (hb.block _ l2).trans h.hi
  refine ⟨((h.below.trans (hb.mono (by have := h.below.size; omega))).setCell (Nat.le_refl _) _).setCell (by show _ ≤ w4.heap.size + 1; omega) _, ?_, ?_⟩
  · rw [Below.heap_setCell _ _ _ _ (by show w4.heap.size ≠ w4.heap.size + 1; omega), set_at e1, hx]
  · rw [set_at (by rw [Below.heap_setCell _ _ _ _ (by show w4.heap.size + 1 ≠ w4.heap.size; omega)]; exact e2), hy]
theorem field0 (a b c : Int) (w : World) : (Instr.field 59 (.agg #[.int .i64 a, .int .i64 b, .int .i64 c]) 0).run Try.prog w = .ok (.int .i64 a) w := by kernel_rfl
theorem index0 (a b c : Int) (w : World) : (Instr.index 91 (.agg #[.int .i64 a, .int .i64 b, .int .i64 c]) (.int .i64 0)).run Try.prog w = .ok (.int .i64 a) w := by kernel_rfl
theorem index1 (a b c : Int) (w : World) : (Instr.index 91 (.agg #[.int .i64 a, .int .i64 b, .int .i64 c]) (.int .i64 1)).run Try.prog w = .ok (.int .i64 b) w := by kernel_rfl
theorem index2 (a b c : Int) (w : World) : (Instr.index 91 (.agg #[.int .i64 a, .int .i64 b, .int .i64 c]) (.int .i64 2)).run Try.prog w = .ok (.int .i64 c) w := by kernel_rfl
attribute [local go_sem] field0 index0 index1 index2

set_option maxRecDepth 100000 in
set_option maxHeartbeats 1600000 in
theorem reckon_of (P : Dp) (E : Nat) (w : World) (fv : Value) (F : List Nd) (hD : Dr P w fv F) (hC : Ch P E (P.S ++ F) True w) (f g h i M : Nat) (lf : f < (P.S ++ F).length) (lg : g < (P.S ++ F).length) (lh : h < (P.S ++ F).length)
    (hi : mn (P.S ++ F) f g h = i) (hiv : i < P.vars)
    (hch : ∀ W fv1 F1 a b c, Dr P W fv1 F1 → Ch P E (P.S ++ F1) True W → a < (P.S ++ F1).length → b < (P.S ++ F1).length → c < (P.S ++ F1).length → i + 1 ≤ mn (P.S ++ F1) a b c →
      Calls Try.prog 47 #[.int .i64 (a : Int), .int .i64 (b : Int), .int .i64 (c : Int), .pointer (some ⟨E + 1, 0, none⟩)] W (ChPost P E W fv1 F1 a b c M)) :
    Calls Try.prog 49 #[.agg #[.int .i64 (f : Int), .int .i64 (g : Int), .int .i64 (h : Int)], .pointer (some ⟨E, 0, none⟩), .pointer (some ⟨E + 2, 0, none⟩)] w (ChPost P E w fv F f g h (2 * M + 1)) := by
  have HD := Lib.hid hD
  have HC := Lib.hid hC
  have HCH := Lib.hid hch
  have HLF := Lib.hid lf
  have HLG := Lib.hid lg
  have HLH := Lib.hid lh
  have HI := Lib.hid hi
  obtain ⟨tf, f1, f2, hf⟩ := at_of lf
  obtain ⟨tg, g1, g2, hg⟩ := at_of lg
  obtain ⟨th, h1, h2, hh⟩ := at_of lh
  have hmin : min (min (tf : Int) (tg : Int)) (th : Int) = (i : Int) := by
    rw [← hi]; unfold mn; rw [tst_at hf, tst_at hg, tst_at hh]; omega
  have hif : (if (th : Int) < (if tg < tf then (tg : Int) else (tf : Int)) then (th : Int) else if tg < tf then (tg : Int) else (tf : Int)) = (i : Int) := by
    have := hmin
    split <;> split at * <;> omega
  have HIF := Lib.hid hif
  have hiv30 := hD.st.hv
  obtain ⟨w1, hw1⟩ : ∃ W, w.alloc (.cells #[.int .i64 (f : Int), .int .i64 (g : Int), .int .i64 (h : Int)] 91) = W := ⟨_, rfl⟩
  obtain ⟨hn1, ⟨z0, z1, z2⟩, hb1, hs1⟩ := three_new _ _ _ _ _ _ hw1
  have HN := Lib.hid hn1
  have HB := Lib.hid hb1
  have HS1 := Lib.hid hs1
  have HX : Hid (∀ W, Below w1.heap.size w1 W → Dr P W fv F ∧ Ch P E (P.S ++ F) True W ∧ (W.cell? ⟨E, 0, none⟩ = some (.pointer (some ⟨P.dd, 0, none⟩)) ∧ W.cell? ⟨w.heap.size, 0, none⟩ = some (.int .i64 (f : Int)) ∧ W.cell? ⟨w.heap.size, 1, none⟩ = some (.int .i64 (g : Int)) ∧ W.cell? ⟨w.heap.size, 2, none⟩ = some (.int .i64 (h : Int)))) := Lib.hid (fun W hb => by
    have a := (HC.out.kept HB.out).kept hb
    refine ⟨(HD.out.kept HB.out).kept hb, a, a.ats.1, ?_, ?_, ?_⟩
    · exact (hb.cell (p := ⟨w.heap.size, 0, none⟩) (by show w.heap.size < _; omega)).trans z0
    · exact (hb.cell (p := ⟨w.heap.size, 1, none⟩) (by show w.heap.size < _; omega)).trans z1
    · exact (hb.cell (p := ⟨w.heap.size, 2, none⟩) (by show w.heap.size < _; omega)).trans z2)
  have HA0 : Hid (∀ W, Below w1.heap.size w1 W → Calls Try.prog 50 #[.pointer (some ⟨P.dd, 0, none⟩), .int .i64 (f : Int)] W (fun e W' => e = .returned (.agg #[.int .i64 (tf : Int), .int .i64 (f1 : Int), .int .i64 (f2 : Int)]) ∧ Below w1.heap.size w1 W')) := Lib.hid (fun W hb => (at_any P W fv F (HX.out W hb).1 _ f tf f1 f2 rfl hf).mono (fun e W' ⟨a, b⟩ => ⟨a, hb.trans (b.mono hb.size)⟩))
  have HA1 : Hid (∀ W, Below w1.heap.size w1 W → Calls Try.prog 50 #[.pointer (some ⟨P.dd, 0, none⟩), .int .i64 (g : Int)] W (fun e W' => e = .returned (.agg #[.int .i64 (tg : Int), .int .i64 (g1 : Int), .int .i64 (g2 : Int)]) ∧ Below w1.heap.size w1 W')) := Lib.hid (fun W hb => (at_any P W fv F (HX.out W hb).1 _ g tg g1 g2 rfl hg).mono (fun e W' ⟨a, b⟩ => ⟨a, hb.trans (b.mono hb.size)⟩))
  have HA2 : Hid (∀ W, Below w1.heap.size w1 W → Calls Try.prog 50 #[.pointer (some ⟨P.dd, 0, none⟩), .int .i64 (h : Int)] W (fun e W' => e = .returned (.agg #[.int .i64 (th : Int), .int .i64 (h1 : Int), .int .i64 (h2 : Int)]) ∧ Below w1.heap.size w1 W')) := Lib.hid (fun W hb => (at_any P W fv F (HX.out W hb).1 _ h th h1 h2 rfl hh).mono (fun e W' ⟨a, b⟩ => ⟨a, hb.trans (b.mono hb.size)⟩))
  have c0 := (HX.out w1 (Below.refl _ _)).2.2.1
  have HBR : Hid (Below w1.heap.size w1 w1) := Lib.hid (Below.refl _ _)
  clear hD hC hch lf lg lh hi hf hg hh hmin hif hn1 hb1 hs1
  go_enter Try.func49, Try.ntmps49
  go_wp2_with fail
  go_region_held3 (fun W => W.cell? ⟨E, 0, none⟩ = some (.pointer (some ⟨P.dd, 0, none⟩)) ∧ W.cell? ⟨w.heap.size, 0, none⟩ = some (.int .i64 (f : Int)) ∧ W.cell? ⟨w.heap.size, 1, none⟩ = some (.int .i64 (g : Int)) ∧ W.cell? ⟨w.heap.size, 2, none⟩ = some (.int .i64 (h : Int)))
    (first | go_keep | exact ⟨c0, z0, z1, z2⟩ | exact p1 | exact p2 | exact p3)
    (first
      | (go_at_call 50; with_reducible refine (HA2.out _ HB3.out).mono ?_; rintro r w4 ⟨rfl, hb4⟩; have HB4 := Lib.hid hb4; have p3 := (HX.out w4 hb4).2.2; clear hb4)
      | (go_at_call 50; with_reducible refine (HA1.out _ HB2.out).mono ?_; rintro r w3 ⟨rfl, hb3⟩; have HB3 := Lib.hid hb3; have p2 := (HX.out w3 hb3).2.2; clear hb3)
      | (go_at_call 50; with_reducible refine (HA0.out _ (by first | exact HBR.out | exact HBR.out.drew)).mono ?_; rintro r w2 ⟨rfl, hb2⟩; have HB2 := Lib.hid hb2; have p1 := (HX.out w2 hb2).2.2; clear hb2))
  rw [HIF.out]
  obtain ⟨w5, hw5⟩ : ∃ W, w4.alloc (.cells #[.int .i64 0, .int .i64 0, .int .i64 0] 91) = W := ⟨_, rfl⟩
  obtain ⟨w6, hw6⟩ : ∃ W, w5.alloc (.cells #[.int .i64 0, .int .i64 0, .int .i64 0] 91) = W := ⟨_, rfl⟩
  obtain ⟨hn5, -, hb5, hs5⟩ := three_new _ _ _ _ _ _ hw5
  obtain ⟨hn6, -, hb6, hs6⟩ := three_new _ _ _ _ _ _ hw6
  have HB46 : Hid (Below w4.heap.size w4 w6) := Lib.hid (hb5.trans (hb6.mono (by omega)))
  have HB16 : Hid (Below w1.heap.size w1 w6) := Lib.hid (HB4.out.trans (HB46.out.mono HB4.out.size))
  have hn5' : w6.heap[w4.heap.size]? = some (.cells #[.int .i64 0, .int .i64 0, .int .i64 0] 91 (0, 0)) := (hb6.block _ (by omega)).trans hn5
  have hn6' : w6.heap[w4.heap.size + 1]? = some (.cells #[.int .i64 0, .int .i64 0, .int .i64 0] 91 (0, 0)) := by rw [hs5] at hn6; exact hn6
  have HN5 := Lib.hid hn5'
  have HN6 := Lib.hid hn6'
  have HS6 : Hid (w6.heap.size = w4.heap.size + 2) := Lib.hid (by omega)
  have h4 : w4.heap.size = w4.heap.size := rfl
  obtain ⟨q0, q1, q2, q3⟩ := (HX.out w6 HB16.out).2.2
  rw [← hw5] at hw6
  clear hn5 hb5 hs5 hn6 hb6 hs6 hn5' hn6' h4 p1 p2 p3 z0 z1 z2 c0 hw5
  obtain ⟨a0, ha0⟩ : ∃ n, side (P.S ++ F) f i false = n := ⟨_, rfl⟩
  obtain ⟨b0, hb0⟩ : ∃ n, side (P.S ++ F) f i true = n := ⟨_, rfl⟩
  obtain ⟨a1, ha1⟩ : ∃ n, side (P.S ++ F) g i false = n := ⟨_, rfl⟩
  obtain ⟨b1, hb1⟩ : ∃ n, side (P.S ++ F) g i true = n := ⟨_, rfl⟩
  obtain ⟨a2, ha2⟩ : ∃ n, side (P.S ++ F) h i false = n := ⟨_, rfl⟩
  obtain ⟨b2, hb2⟩ : ∃ n, side (P.S ++ F) h i true = n := ⟨_, rfl⟩
  have HSf : Hid (∀ W, Below w4.heap.size w4 W → Calls Try.prog 51 #[.pointer (some ⟨P.dd, 0, none⟩), .int .i64 (f : Int), .int .i64 (i : Int)] W (fun e W' => e = .returned (.tuple #[.int .i64 (a0 : Int), .int .i64 (b0 : Int)]) ∧ Below W.heap.size W W')) := Lib.hid (fun W hb => by
    have := sides_any P W fv F (HX.out W (HB4.out.trans (hb.mono HB4.out.size))).1 _ f i rfl HLF.out (by omega)
    rw [ha0, hb0] at this; exact this)
  have HSg : Hid (∀ W, Below w4.heap.size w4 W → Calls Try.prog 51 #[.pointer (some ⟨P.dd, 0, none⟩), .int .i64 (g : Int), .int .i64 (i : Int)] W (fun e W' => e = .returned (.tuple #[.int .i64 (a1 : Int), .int .i64 (b1 : Int)]) ∧ Below W.heap.size W W')) := Lib.hid (fun W hb => by
    have := sides_any P W fv F (HX.out W (HB4.out.trans (hb.mono HB4.out.size))).1 _ g i rfl HLG.out (by omega)
    rw [ha1, hb1] at this; exact this)
  have HSh : Hid (∀ W, Below w4.heap.size w4 W → Calls Try.prog 51 #[.pointer (some ⟨P.dd, 0, none⟩), .int .i64 (h : Int), .int .i64 (i : Int)] W (fun e W' => e = .returned (.tuple #[.int .i64 (a2 : Int), .int .i64 (b2 : Int)]) ∧ Below W.heap.size W W')) := Lib.hid (fun W hb => by
    have := sides_any P W fv F (HX.out W (HB4.out.trans (hb.mono HB4.out.size))).1 _ h i rfl HLH.out (by omega)
    rw [ha2, hb2] at this; exact this)
  have HAB := Lib.hid (And.intro ha0 (And.intro hb0 (And.intro ha1 (And.intro hb1 (And.intro ha2 hb2)))))
  have HST : Hid (LR w4 a0 a1 a2 b0 b1 b2 0 w6) := Lib.hid ⟨HB46.out, HN5.out, HN6.out⟩
  have HDD : Hid (∀ W, Below w4.heap.size w4 W → W.cell? ⟨E, 0, none⟩ = some (.pointer (some ⟨P.dd, 0, none⟩))) := Lib.hid (fun W hb => (HX.out W (HB4.out.trans (hb.mono HB4.out.size))).2.2.1)
  clear ha0 hb0 ha1 hb1 ha2 hb2
  go_wp2_with fail
  go_loopw [28] (fun vi wr => ∃ k : Nat, k ≤ 3 ∧ vi = .int .i64 (k : Int) ∧ LR w4 a0 a1 a2 b0 b1 b2 k wr) (fun vi _ => 3 - (intOf vi).toNat)
  case atStart => exact ⟨0, by omega, rfl, HST.out⟩
  case round =>
    obtain ⟨k, hk, rfl, hrel⟩ := hrel
    have HREL := Lib.hid hrel
    have dd0 := HDD.out wr hrel.below
    clear hrel
    obtain rfl | rfl | rfl | rfl : k = 0 ∨ k = 1 ∨ k = 2 ∨ k = 3 := by omega
    · have HCALL := Lib.hid (HSf.out wr HREL.out.below)
      go_wp2_with fail
      refine HCALL.out.mono ?_
      rintro e w7 ⟨rfl, hb7⟩
      have HB7 := Lib.hid hb7
      have e1 := (hb7.block _ (block_lt HREL.out.lo)).trans HREL.out.lo
      have e2 := (hb7.block _ (block_lt HREL.out.hi)).trans HREL.out.hi
      have u : w7.cell? ⟨w4.heap.size, 0, none⟩ = some (.int .i64 0) := by unfold World.cell?; rw [e1]; rfl
      have uf : w7.frozen? ⟨w4.heap.size, 0, none⟩ = false := by unfold World.frozen?; rw [e1]; rfl
      have v : w7.cell? ⟨w4.heap.size + 1, 0, none⟩ = some (.int .i64 0) := by unfold World.cell?; rw [e2]; rfl
      have vf : w7.frozen? ⟨w4.heap.size + 1, 0, none⟩ = false := by unfold World.frozen?; rw [e2]; rfl
      have HE := Lib.hid (HREL.out.step (x := (a0 : Int)) (y := (b0 : Int)) hb7 rfl rfl)
      clear hb7 e1 e2
      go_wp2_with fail
      exact ⟨⟨1, by omega, rfl, HE.out⟩, by simp [intOf]⟩
    · have HCALL := Lib.hid (HSg.out wr HREL.out.below)
      go_wp2_with fail
      refine HCALL.out.mono ?_
      rintro e w7 ⟨rfl, hb7⟩
      have HB7 := Lib.hid hb7
      have e1 := (hb7.block _ (block_lt HREL.out.lo)).trans HREL.out.lo
      have e2 := (hb7.block _ (block_lt HREL.out.hi)).trans HREL.out.hi
      have u : w7.cell? ⟨w4.heap.size, 1, none⟩ = some (.int .i64 0) := by unfold World.cell?; rw [e1]; rfl
      have uf : w7.frozen? ⟨w4.heap.size, 1, none⟩ = false := by unfold World.frozen?; rw [e1]; rfl
      have v : w7.cell? ⟨w4.heap.size + 1, 1, none⟩ = some (.int .i64 0) := by unfold World.cell?; rw [e2]; rfl
      have vf : w7.frozen? ⟨w4.heap.size + 1, 1, none⟩ = false := by unfold World.frozen?; rw [e2]; rfl
      have HE := Lib.hid (HREL.out.step (x := (a1 : Int)) (y := (b1 : Int)) hb7 rfl rfl)
      clear hb7 e1 e2
      go_wp2_with fail
      exact ⟨⟨2, by omega, rfl, HE.out⟩, by simp [intOf]⟩
    · have HCALL := Lib.hid (HSh.out wr HREL.out.below)
      go_wp2_with fail
      refine HCALL.out.mono ?_
      rintro e w7 ⟨rfl, hb7⟩
      have HB7 := Lib.hid hb7
      have e1 := (hb7.block _ (block_lt HREL.out.lo)).trans HREL.out.lo
      have e2 := (hb7.block _ (block_lt HREL.out.hi)).trans HREL.out.hi
      have u : w7.cell? ⟨w4.heap.size, 2, none⟩ = some (.int .i64 0) := by unfold World.cell?; rw [e1]; rfl
      have uf : w7.frozen? ⟨w4.heap.size, 2, none⟩ = false := by unfold World.frozen?; rw [e1]; rfl
      have v : w7.cell? ⟨w4.heap.size + 1, 2, none⟩ = some (.int .i64 0) := by unfold World.cell?; rw [e2]; rfl
      have vf : w7.frozen? ⟨w4.heap.size + 1, 2, none⟩ = false := by unfold World.frozen?; rw [e2]; rfl
      have HE := Lib.hid (HREL.out.step (x := (a2 : Int)) (y := (b2 : Int)) hb7 rfl rfl)
      clear hb7 e1 e2
      go_wp2_with fail
      exact ⟨⟨3, by omega, rfl, HE.out⟩, by simp [intOf]⟩
    · have hbw : Below w1.heap.size w1 wr := HB4.out.trans (HREL.out.below.mono HB4.out.size)
      obtain ⟨hDr, hCr, -⟩ := HX.out wr hbw
      have HBW : Hid (Below w.heap.size w wr) := Lib.hid (HB.out.trans (hbw.mono HB.out.size))
      obtain ⟨c0, c1, c2, c3, c5⟩ := hCr.ats
      have HSD : Hid (∀ b, (side (P.S ++ F) f i b < (P.S ++ F).length ∧ side (P.S ++ F) g i b < (P.S ++ F).length ∧ side (P.S ++ F) h i b < (P.S ++ F).length) ∧ i + 1 ≤ mn (P.S ++ F) (side (P.S ++ F) f i b) (side (P.S ++ F) g i b) (side (P.S ++ F) h i b)) := Lib.hid (fun b => by
        have m := mn_le (ns := P.S ++ F) (a := f) (b := g) (c := h)
        rw [HI.out] at m
        have s1 := side_ok (b := b) HD.out.good HLF.out m.1 hiv
        have s2 := side_ok (b := b) HD.out.good HLG.out m.2.1 hiv
        have s3 := side_ok (b := b) HD.out.good HLH.out m.2.2 hiv
        refine ⟨⟨s1.1, s2.1, s3.1⟩, ?_⟩
        have q1 := s1.2.1; have q2 := s2.2.1; have q3 := s3.2.1
        unfold mn; omega)
      obtain ⟨hab0, hbb0, hab1, hbb1, hab2, hbb2⟩ := HAB.out
      have HCALL := Lib.hid (HCH.out wr fv F a0 a1 a2 hDr hCr (by rw [← hab0]; exact (HSD.out false).1.1) (by rw [← hab1]; exact (HSD.out false).1.2.1) (by rw [← hab2]; exact (HSD.out false).1.2.2) (by rw [← hab0, ← hab1, ← hab2]; exact (HSD.out false).2))
      have l0 : wr.cell? ⟨w4.heap.size, 0, none⟩ = some (.int .i64 (a0 : Int)) := by unfold World.cell?; rw [HREL.out.lo]; rfl
      have l1 : wr.cell? ⟨w4.heap.size, 1, none⟩ = some (.int .i64 (a1 : Int)) := by unfold World.cell?; rw [HREL.out.lo]; rfl
      have l2 : wr.cell? ⟨w4.heap.size, 2, none⟩ = some (.int .i64 (a2 : Int)) := by unfold World.cell?; rw [HREL.out.lo]; rfl
      have HDr := Lib.hid hDr
      have HCr := Lib.hid hCr
      clear hbw hDr hCr hab0 hbb0 hab1 hbb1 hab2 hbb2
      go_wp2_with fail
      refine HCALL.out.mono ?_
      rintro e w7 hp7
      obtain ⟨v0, rfl⟩ := hp7.int
      obtain ⟨fv1, F1, hD7, hF7, hn7, hm7, hR7⟩ := hp7
      obtain ⟨w8, hw8⟩ : ∃ W, w7.alloc (.cells #[.int .i64 (i : Int), .int .i64 v0, .int .i64 0] 59) = W := ⟨_, rfl⟩
      obtain ⟨hn8, ⟨n0, n1, n2⟩, hb8, hs8⟩ := three_new _ _ _ _ _ _ hw8
      have HN8 := Lib.hid hn8
      have HB8 := Lib.hid hb8
      have HS8 := Lib.hid hs8
      have HW8 := Lib.hid hw8
      rcases hR7 with ⟨ev, hful, hC7⟩ | ⟨x0, ev, hx0, hC7⟩
      · have ev : v0 = -1 := by simpa using ev
        subst ev
        have HR : Hid (ChPost P E w fv F f g h (2 * M + 1) (.returned (.int .i64 (-1))) w8) := Lib.hid ⟨fv1, F1, hD7.kept hb8, (Fr.of HBW.out).trans (hF7.trans (Fr.of hb8)), by omega, hm7, .inl ⟨rfl, hful, hC7.kept hb8⟩⟩
        clear hD7 hF7 hn7 hm7 hful hC7 hn8 hb8 hs8 n0 n1 n2 hw8
        go_wp2_with fail
        rw [HW8.out]
        refine bodyPost_ret (v := .int .i64 (-1)) (by simp [results, Try.results49, go_sem]) rfl HR.out
      · have ev : v0 = (x0 : Int) := by simpa using ev
        subst ev
        obtain ⟨hab0, hbb0, hab1, hbb1, hab2, hbb2⟩ := HAB.out
        have HX0 : Hid (IteTo P.vars (P.S ++ F) (side (P.S ++ F) f i false) (side (P.S ++ F) g i false) (side (P.S ++ F) h i false) (i + 1) (P.S ++ F1) x0) := Lib.hid (by
          rw [hab0, hab1, hab2]
          exact hx0.le (by rw [← hab0, ← hab1, ← hab2]; exact (HSD.out false).2))
        have HGR : Hid (∀ b, (side (P.S ++ F) f i b < (P.S ++ F1).length ∧ side (P.S ++ F) g i b < (P.S ++ F1).length ∧ side (P.S ++ F) h i b < (P.S ++ F1).length) ∧ i + 1 ≤ mn (P.S ++ F1) (side (P.S ++ F) f i b) (side (P.S ++ F) g i b) (side (P.S ++ F) h i b)) := Lib.hid (fun b => by
          obtain ⟨⟨s1, s2, s3⟩, s4⟩ := HSD.out b
          obtain ⟨m, e⟩ := hx0.more
          rw [e, mn_app (vars := P.vars) s1 s2 s3, List.length_append]
          exact ⟨⟨by omega, by omega, by omega⟩, s4⟩)
        have hD8 := hD7.kept hb8
        have hC8 := hC7.kept hb8
        have HCALL2 := Lib.hid (HCH.out w8 fv1 F1 b0 b1 b2 hD8 hC8 (by rw [← hbb0]; exact (HGR.out true).1.1) (by rw [← hbb1]; exact (HGR.out true).1.2.1) (by rw [← hbb2]; exact (HGR.out true).1.2.2) (by rw [← hbb0, ← hbb1, ← hbb2]; exact (HGR.out true).2))
        obtain ⟨g0, g1, g2, g3, g5⟩ := hC8.ats
        have hFr := hF7
        have e4 := hFr.stay HDr.out HCr.out HREL.out.hi (by decide) (by decide)
        have e5 := (hb8.block _ (block_lt e4)).trans e4
        have m0 : w8.cell? ⟨w4.heap.size + 1, 0, none⟩ = some (.int .i64 (b0 : Int)) := by unfold World.cell?; rw [e5]; rfl
        have m1 : w8.cell? ⟨w4.heap.size + 1, 1, none⟩ = some (.int .i64 (b1 : Int)) := by unfold World.cell?; rw [e5]; rfl
        have m2 : w8.cell? ⟨w4.heap.size + 1, 2, none⟩ = some (.int .i64 (b2 : Int)) := by unfold World.cell?; rw [e5]; rfl
        have hd : ((x0 : Int) == -1) = false := by simp
        have HEND : Hid (∀ v1 w9, ChPost P E w8 fv1 F1 b0 b1 b2 M (.returned (.int .i64 v1)) w9 → w9.heap[w7.heap.size]? = some (.cells #[.int .i64 (i : Int), .int .i64 (x0 : Int), .int .i64 0] 59 (0, 0)) ∧
            ∃ fv2 F2, Dr P (w9.setCell ⟨w7.heap.size, 2, none⟩ (.int .i64 v1)) fv2 F2 ∧ (∃ ok, Ch P E (P.S ++ F2) ok (w9.setCell ⟨w7.heap.size, 2, none⟩ (.int .i64 v1))) ∧ (x0 < (P.S ++ F2).length ∧ i < tst (P.S ++ F2) x0) ∧ (v1 = -1 ∨ ∃ l : Nat, v1 = (l : Int) ∧ l < (P.S ++ F2).length ∧ i < tst (P.S ++ F2) l) ∧
              ∀ e w11, PutPost P (w9.setCell ⟨w7.heap.size, 2, none⟩ (.int .i64 v1)) fv2 F2 i x0 v1 e w11 → ChPost P E w fv F f g h (2 * M + 1) e w11) := Lib.hid (fun v1 w9 hp => by
          rw [← hbb0, ← hbb1, ← hbb2] at hp
          exact reckon_end HD.out HLF.out HLG.out HLH.out HI.out hiv HBW.out hD7 hF7 hn7 hm7 hC7 HX0.out hb8 hn8 (HGR.out true).2 hp)
        rw [← hw8] at g2 m0 m1 m2
        clear hD7 hF7 hn7 hm7 hC7 hn8 hb8 hs8 hx0 hD8 hC8 hFr e4 e5 hab0 hbb0 hab1 hbb1 hab2 hbb2 n0 n1 n2 g0 g1 g3 g5 hw8
        go_wp2_with fail
        rw [HW8.out]
        refine HCALL2.out.mono ?_
        rintro e w9 hp9
        obtain ⟨v1, rfl⟩ := hp9.int
        obtain ⟨hn9, fv2, F2, hDS, ⟨ok, hCS⟩, hlo, hhi, hend⟩ := HEND.out v1 w9 hp9
        have s0 : w9.cell? ⟨w7.heap.size, 2, none⟩ = some (.int .i64 0) := by unfold World.cell?; rw [hn9]; rfl
        have sf : w9.frozen? ⟨w7.heap.size, 2, none⟩ = false := by unfold World.frozen?; rw [hn9]; rfl
        obtain ⟨w10, hw10⟩ : ∃ W, w9.setCell ⟨w7.heap.size, 2, none⟩ (.int .i64 v1) = W := ⟨_, rfl⟩
        have hn10 := set_at (k := 2) (u := .int .i64 v1) hn9
        rw [hw10] at hn10 hDS hCS hend
        have HPUT := Lib.hid ((put_any P w10 fv2 F2 hDS i (x0 : Int) v1 hiv (.inr ⟨x0, rfl, hlo⟩) hhi).mono hend)
        have t0 : w10.cell? ⟨w7.heap.size, 0, none⟩ = some (.int .i64 (i : Int)) := by unfold World.cell?; rw [hn10]; rfl
        have t1 : w10.cell? ⟨w7.heap.size, 1, none⟩ = some (.int .i64 (x0 : Int)) := by unfold World.cell?; rw [hn10]; rfl
        have t2 : w10.cell? ⟨w7.heap.size, 2, none⟩ = some (.int .i64 v1) := by unfold World.cell?; rw [hn10]; rfl
        have t3 := hCS.ats.1
        clear hp9 hn9 hDS hCS hlo hhi hend hn10
        go_wp2_with fail
        refine HPUT.out.mono ?_
        rintro e w11 hp11
        obtain ⟨v2, rfl⟩ := hp11.int
        have HR := Lib.hid hp11
        clear hp11
        go_wp2
        refine bodyPost_ret (v := .int .i64 v2) (by simp [results, Try.results49, go_sem]) rfl HR.out
end Go.Proofs.Ytfohjlepknnleaa.Bd
