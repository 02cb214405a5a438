/- ExprLevels' walk: of two operators the tighter one is put together first. Conditions: none. -/
import Derived.Test.YtgohhnbdicdenaaDoorPk30
import Derived.BigRegion
import Derived.Deep.RegionHeld3
namespace Go.Proofs.YtgohhnbdicdenaaDoor.exprLevels
open Go.ChangeShapes Go.WideShapes Go.ChangeAt Go.RowKit
open Go.Proofs.YtgohhnbdicdenaaDoor.Ex
open Go.Proofs.YtgohhnbdicdenaaDoor.Tr (str ret_bool ret_int Bytes Nd Nodes)
set_option linter.unusedVariables false
set_option linter.unusedSimpArgs false
theorem src_list (X Y : Nat) : ((ByteArray.mk #[97, 32]) ++ str (sgT X) ++ (ByteArray.mk #[32, 98, 32]) ++ str (sgT Y) ++ (ByteArray.mk #[32, 99])).toList = srcT X Y := by
  rw [Lx.app_toList, Lx.app_toList, Lx.app_toList, Lx.app_toList, show (ByteArray.mk #[97, 32]) = str [97, 32] from rfl, show (ByteArray.mk #[32, 98, 32]) = str [32, 98, 32] from rfl, show (ByteArray.mk #[32, 99]) = str [32, 99] from rfl]
  simp only [Tr.str_toList]; rfl
theorem sg_len (X : Nat) : (sgT X).length ≤ 5 := by
  match X with
  | 0 => decide
  | 1 => decide
  | 2 => decide
  | 3 => decide
  | 4 => decide
  | 5 => decide
  | _ + 6 => exact (show ([42] : Bytes).length ≤ 5 from by decide)
theorem add_any (x y : ByteArray) (w : World) (h : x.size + y.size ≤ 1000000) : (binOp .add 9 (.string x) (.string y)).run Tryd.prog w = .ok (.string (x ++ y)) w := by
  have h2 : x.size + y.size ≤ 9223372036854775807 := by omega
  simp [go_sem, h2]
theorem sz (X : Nat) : (str (sgT X)).size ≤ 5 := by rw [Tr.str_size]; exact sg_len X
theorem add1 (X : Nat) (w : World) : (binOp .add 9 (.string ⟨#[97, 32]⟩) (.string (str (sgT X)))).run Tryd.prog w = .ok (.string ((ByteArray.mk #[97, 32]) ++ str (sgT X))) w :=
  add_any _ _ w (by have := sz X; show 2 + _ ≤ _; omega)
theorem add2 (X : Nat) (w : World) : (binOp .add 9 (.string ((ByteArray.mk #[97, 32]) ++ str (sgT X))) (.string ⟨#[32, 98, 32]⟩)).run Tryd.prog w = .ok (.string ((ByteArray.mk #[97, 32]) ++ str (sgT X) ++ (ByteArray.mk #[32, 98, 32]))) w :=
  add_any _ _ w (by have := sz X; rw [ByteArray.size_append]; show (2 + _) + 3 ≤ _; omega)
theorem add3 (X Y : Nat) (w : World) : (binOp .add 9 (.string ((ByteArray.mk #[97, 32]) ++ str (sgT X) ++ (ByteArray.mk #[32, 98, 32]))) (.string (str (sgT Y)))).run Tryd.prog w = .ok (.string ((ByteArray.mk #[97, 32]) ++ str (sgT X) ++ (ByteArray.mk #[32, 98, 32]) ++ str (sgT Y))) w :=
  add_any _ _ w (by have := sz X; have := sz Y; rw [ByteArray.size_append, ByteArray.size_append]; show (2 + _ + 3) + _ ≤ _; omega)
theorem add4 (X Y : Nat) (w : World) : (binOp .add 9 (.string ((ByteArray.mk #[97, 32]) ++ str (sgT X) ++ (ByteArray.mk #[32, 98, 32]) ++ str (sgT Y))) (.string ⟨#[32, 99]⟩)).run Tryd.prog w = .ok (.string ((ByteArray.mk #[97, 32]) ++ str (sgT X) ++ (ByteArray.mk #[32, 98, 32]) ++ str (sgT Y) ++ (ByteArray.mk #[32, 99]))) w :=
  add_any _ _ w (by have := sz X; have := sz Y; rw [ByteArray.size_append, ByteArray.size_append, ByteArray.size_append]; show (2 + _ + 3 + _) + 2 ≤ _; omega)
theorem seven {P : Nat → Prop} (h0 : P 0) (h1 : P 1) (h2 : P 2) (h3 : P 3) (h4 : P 4) (h5 : P 5) (h6 : P 6) (X : Nat) (h : X < 7) : P X := by
  match X, h with
  | 0, _ => exact h0
  | 1, _ => exact h1
  | 2, _ => exact h2
  | 3, _ => exact h3
  | 4, _ => exact h4
  | 5, _ => exact h5
  | 6, _ => exact h6
theorem _root_.Go.Proofs.YtgohhnbdicdenaaDoor.Tr.below_undrew {w w' : World} (h : Below w.drew.heap.size w.drew w') : Below w.heap.size w w' := ⟨h.os, h.tape, h.output, h.size, h.block⟩
theorem _root_.Go.Proofs.YtgohhnbdicdenaaDoor.Ex.VarAt.drew1 {w : World} (h : VarAt w w.heap.size) : VarAt w.drew w.drew.heap.size := h
def ints7 : Array Value := #[.int .i64 19, .int .i64 9, .int .i64 20, .int .i64 7, .int .i64 6, .int .i64 14, .int .i64 16]
theorem far2 {w : World} {B g k : Nat} {v v' : Value} (h : g ≠ B) : ((w.setCell ⟨B, 0, none⟩ v).setCell ⟨B, 1, none⟩ v').cell? ⟨g, k, none⟩ = w.cell? ⟨g, k, none⟩ :=
  World.cell?_of_block (w := w) (a := ⟨g, k, none⟩) (by
    show ((w.setCell ⟨B, 0, none⟩ v).setCell ⟨B, 1, none⟩ v').heap[g]? = w.heap[g]?
    rw [Below.heap_setCell _ _ _ _ (by simpa using h), Below.heap_setCell _ _ _ _ (by simpa using h)])
structure Cut (w : World) (e : List Nd) (A1 : Option Addr) (c1 B : Nat) (wx : World) : Prop where
  le : e.length ≤ c1
  cm : c1 ≤ maxLen
  code : wx.cell? ⟨B, 0, none⟩ = some (.int .i64 0)
  nd : Nodes wx (.slice A1 e.length c1) e
  below : Below w.heap.size w wx
  ints : ∀ k, wx.cell? ⟨w.heap.size + 1, k, none⟩ = ints7[k]?
def strs7 : Array Value := #[.string ⟨#[45, 62]⟩, .string ⟨#[61, 62]⟩, .string ⟨#[115, 105, 110, 99, 101]⟩, .string ⟨#[111, 114]⟩, .string ⟨#[97, 110, 100]⟩, .string ⟨#[43]⟩, .string ⟨#[42]⟩]
theorem strs_at (X : Nat) (h : X < 7) : strs7[X]? = some (.string (str (sgT X))) := seven (P := fun X => strs7[X]? = some (.string (str (sgT X)))) rfl rfl rfl rfl rfl rfl rfl X h
theorem ints_at' (X : Nat) (h : X < 7) : ints7[X]? = some (.int .i64 (sgO X)) := seven (P := fun X => ints7[X]? = some (.int .i64 (sgO X))) rfl rfl rfl rfl rfl rfl rfl X h
theorem sl_len {w : World} {A : Option Addr} {n c : Nat} {l : List Nd} (h : Nodes w (.slice A n c) l) : l.length ≤ c ∧ c ≤ maxLen := by
  obtain ⟨A', c', e, h1, h2, _⟩ := h
  simp only [Value.slice.injEq] at e
  obtain ⟨-, -, rfl⟩ := e
  exact ⟨h1, h2⟩
theorem Cut.ofA {w wa w1 : World} {e : List Nd} {A1 : Option Addr} {c1 : Nat} {a : Int} (hba : Below w.heap.size w wa) (hc : Below wa.heap.size wa w1) (hp : PtW w1 (.slice A1 e.length c1, ⟨e, 0, 0⟩)) (b1 : wa.heap[w.heap.size + 1]? = some (.cells ints7 3 (0, 0))) :
    Cut w e A1 c1 w1.heap.size (w1.alloc (.cells #[.int .i64 0, .int .i64 a] 27)) := by
  have h := sl_len hp.1
  exact ⟨h.1, h.2, (cell_at (heap_alloc_new w1 _) 0).trans rfl, hp.1.below (below_new w1 _) (Nat.le_refl _), (hba.trans (hc.mono hba.size)).alloc (Nat.le_trans hba.size hc.size) _, fun k => cell_at (stayA (stayB hc b1)) k⟩
theorem Cut.ofB {w wa w1 : World} {e : List Nd} {A1 : Option Addr} {c1 : Nat} {a : Int} (hba : Below w.heap.size w wa) (hc : Below wa.heap.size wa w1) (hp : PtW w1 (.slice A1 e.length c1, ⟨e, 0, 0⟩)) (b1 : wa.heap[w.heap.size + 1]? = some (.cells ints7 3 (0, 0)))
    (hx : w1.heap[wa.heap.size]? = some (.cells #[.int .i64 0, .int .i64 0] 27 (0, 0))) :
    Cut w e A1 c1 wa.heap.size ((w1.setCell ⟨wa.heap.size, 0, none⟩ (.int .i64 0)).setCell ⟨wa.heap.size, 1, none⟩ (.int .i64 a)) := by
  have h := sl_len hp.1
  have hl := lt_of_block b1
  have hs := hba.size
  refine ⟨h.1, h.2, (two_cells hx _ _).1, ((hp.set hx (by decide) _).set (setObj_heap (v := .int .i64 0) hx (k := 0) (by simp)) (by decide) _).1, ((hba.trans (hc.mono hba.size)).setCell (by exact hs) _).setCell (by exact hs) _, fun k => ?_⟩
  rw [far2 (by omega)]
  exact cell_at (stayB hc b1) k
set_option maxRecDepth 100000 in
set_option maxHeartbeats 4000000 in
theorem walk_in (X Y : Nat) (hX : X < 7) (hY : Y < 7) (w : World) (hv : Ex.VarAt w w.heap.size) : Calls Tryd.prog 4 #[.int .i64 (X : Int), .int .i64 (Y : Int)] w fun r w' => r = .returned (.bool true) ∧ Below w.heap.size w w' := by
  have HV := Lib.hid hv
  obtain ⟨e, a, hE, he5, he4⟩ := lv_fact X Y hX hY
  have HE : Hid (readM ((ByteArray.mk #[97, 32]) ++ str (sgT X) ++ (ByteArray.mk #[32, 98, 32]) ++ str (sgT Y) ++ (ByteArray.mk #[32, 99])).toList = (e, 0, a)) := Lib.hid (by rw [src_list]; exact hE)
  have HN4 := Lib.hid he4
  have zx := sg_len X
  have zy := sg_len Y
  have zx' := Tr.str_size (sgT X)
  have zy' := Tr.str_size (sgT Y)
  have HM : Hid (((ByteArray.mk #[97, 32]) ++ str (sgT X) ++ (ByteArray.mk #[32, 98, 32]) ++ str (sgT Y) ++ (ByteArray.mk #[32, 99])).size ≤ maxLen) := Lib.hid (by
    rw [← Lx.toList_len, src_list]; unfold srcT; simp only [List.length_append, List.length_cons, List.length_nil]; unfold maxLen; omega)
  have HE5 := Lib.hid he5
  have hX0 : decide ((X : Int) < 0) = false := decide_eq_false (by omega)
  have hY0 : decide ((Y : Int) < 0) = false := decide_eq_false (by omega)
  have hX6 : decide ((6 : Int) < (X : Int)) = false := decide_eq_false (by omega)
  have hY6 : decide ((6 : Int) < (Y : Int)) = false := decide_eq_false (by omega)
  have hX6' : decide (6 < X) = false := decide_eq_false (by omega)
  have hY6' : decide (6 < Y) = false := decide_eq_false (by omega)
  have hXl : (0 : Int) ≤ (X : Int) := by omega
  have hYl : (0 : Int) ≤ (Y : Int) := by omega
  have hXh : (X : Int) < 7 := by omega
  have hYh : (Y : Int) < 7 := by omega
  have sX := strs_at X hX
  have sY := strs_at Y hY
  have iX := Lib.hid (ints_at' X hX)
  have iY := Lib.hid (ints_at' Y hY)
  unfold strs7 at sX sY
  clear hE he4 he5 hv
  go_enter Tryd.func4, Tryd.ntmps4
  go_wp2_with fail
  obtain ⟨wa, hwa⟩ : ∃ wa, (w.alloc (.cells strs7 9)).alloc (.cells ints7 3) = wa := ⟨_, rfl⟩
  have HBA : Hid (Below w.heap.size w wa) := Lib.hid (by rw [← hwa]; exact (below_new w _).alloc (below_new w _).size _)
  have b0 : wa.heap[w.heap.size]? = some (.cells strs7 9 (0, 0)) := by rw [← hwa]; exact stayA (heap_alloc_new w _)
  have b1 : wa.heap[w.heap.size + 1]? = some (.cells ints7 3 (0, 0)) := by rw [← hwa]; exact new_blk (by simp)
  have cX : wa.cell? ⟨w.heap.size, X, none⟩ = some (.string (str (sgT X))) := (cell_at b0 X).trans (strs_at X hX)
  have cY : wa.cell? ⟨w.heap.size, Y, none⟩ = some (.string (str (sgT Y))) := (cell_at b0 Y).trans (strs_at Y hY)
  have B1 := Lib.hid b1
  have lb := lt_of_block b1
  have la : w.heap.size < wa.heap.size := by omega
  have HWA := Lib.hid (show (w.alloc (.cells #[.string ⟨#[45, 62]⟩, .string ⟨#[61, 62]⟩, .string ⟨#[115, 105, 110, 99, 101]⟩, .string ⟨#[111, 114]⟩, .string ⟨#[97, 110, 100]⟩, .string ⟨#[43]⟩, .string ⟨#[42]⟩] 9)).alloc (.cells #[.int .i64 19, .int .i64 9, .int .i64 20, .int .i64 7, .int .i64 6, .int .i64 14, .int .i64 16] 3) = wa from hwa)
  clear hwa b0 b1 sX sY
  rw [HWA.out]
  have hnea : w.heap.size ≠ wa.heap.size := by omega
  have N1 : (9223372036854775807 < 2 + (str (sgT X)).size) = False := eq_false (by omega)
  have N2 : (9223372036854775807 < 2 + (str (sgT X)).size + 3) = False := eq_false (by omega)
  have N3 : (9223372036854775807 < 2 + (str (sgT X)).size + 3 + (str (sgT Y)).size) = False := eq_false (by omega)
  have N4 : (9223372036854775807 < 2 + (str (sgT X)).size + 3 + (str (sgT Y)).size + 2) = False := eq_false (by omega)
  clear zx' zy' zx zy
  have HVA := Lib.hid (HV.out.up (HBA.out.alloc HBA.out.size (.cells #[.int .i64 0, .int .i64 0] 27)))
  have HVB := Lib.hid (HV.out.up HBA.out)
  go_cut [7, 8] (fun s7 s8 wx => ∃ A1 c1 B, s7 = .slice A1 e.length c1 ∧ s8 = .pointer (some ⟨B, 0, none⟩) ∧ Cut w e A1 c1 B wx)
  case first =>
    go_region_held3 (fun w' => w'.cell? ⟨w.heap.size, X, none⟩ = some (.string (str (sgT X))) ∧ w'.cell? ⟨w.heap.size, Y, none⟩ = some (.string (str (sgT Y))))
      (first | go_keep | exact ⟨cX1, cY1⟩ | exact ⟨(far2 hnea).trans cX1, (far2 hnea).trans cY1⟩ | (refine ⟨?_, ?_⟩ <;> (rw [World.cell?_alloc_lt _ _ _ (by exact la1)]; assumption)))
      (first | (go_at_call 13; refine (read_at HE.out HM.out HVA.out.drew1).mono ?_; rintro r w1 ⟨v1, rfl, hp1, hb1⟩; have HP1 := Lib.hid hp1; obtain ⟨⟨A1, c1, hv1, y1, y2, _⟩, _⟩ := hp1; simp only at hv1; subst hv1; simp only at y1; have hb1' := Tr.below_undrew hb1; have z1 := blk2 hb1'; have X1 := Lib.hid z1; have k0 : w1.cell? ⟨wa.heap.size, 0, none⟩ = some (.int .i64 0) := (cell_at z1 0).trans rfl; have k1 : w1.cell? ⟨wa.heap.size, 1, none⟩ = some (.int .i64 0) := (cell_at z1 1).trans rfl; have f0 : w1.frozen? ⟨wa.heap.size, 0, none⟩ = false := free_at z1 0; have f1 : w1.frozen? ⟨wa.heap.size, 1, none⟩ = false := free_at z1 1; have HC1 := Lib.hid ((below_new wa _).trans (hb1'.mono (below_new wa _).size)); have cX1 := (HC1.out.cell (by exact la)).trans cX; have cY1 := (HC1.out.cell (by exact la)).trans cY; have la1 := Nat.lt_of_lt_of_le la HC1.out.size; clear hb1 hb1' z1) | (go_at_call 13; refine (read_at HE.out HM.out HVB.out.drew1).mono ?_; rintro r w1 ⟨v1, rfl, hp1, hb1⟩; have HP1 := Lib.hid hp1; obtain ⟨⟨A1, c1, hv1, y1, y2, _⟩, _⟩ := hp1; simp only at hv1; subst hv1; simp only at y1; have HC1 := Lib.hid (Tr.below_undrew hb1); have cX1 := (HC1.out.cell (by exact la)).trans cX; have cY1 := (HC1.out.cell (by exact la)).trans cY; have la1 := Nat.lt_of_lt_of_le la HC1.out.size; clear hb1))
    all_goals go_wp2_with fail
    all_goals go_meet
    all_goals exact ⟨_, _, _, rfl, rfl, by first | exact Cut.ofA HBA.out HC1.out HP1.out B1.out | exact Cut.ofB HBA.out HC1.out HP1.out B1.out X1.out⟩
  case rest =>
    obtain ⟨A1, c1, B, rfl, rfl, hc⟩ := hcut
    have HC := Lib.hid hc
    have q1 := hc.le
    have q2 := hc.cm
    have q3 := hc.code
    have iX2 := (hc.ints X).trans iX.out
    have iY2 := (hc.ints Y).trans iY.out
    unfold maxLen at q2
    rw [HE5.out] at q1 ⊢
    obtain ⟨g, o, c', ev, _, _, hg, hN⟩ := nodes_at hc.nd (by rw [HE5.out]; omega)
    simp only [Value.slice.injEq] at ev
    obtain ⟨rfl, -, rfl⟩ := ev
    obtain ⟨n0, n1, n2, -, -, -⟩ := hN 4 _ HN4.out
    simp only at n0 n1 n2
    clear hc hN cX cY
    rcases Bool.eq_false_or_eq_true (decide ((Y : Int) < (X : Int))) with t1 | t1
    all_goals rcases Bool.eq_false_or_eq_true ((X : Int) == (Y : Int)) with t2 | t2
    all_goals rcases Bool.eq_false_or_eq_true (decide ((1 : Int) < (X : Int))) with t3 | t3
    all_goals
      have u1 : decide (Y < X) = decide ((Y : Int) < (X : Int)) := by rw [Bool.eq_iff_iff, decide_eq_true_iff, decide_eq_true_iff]; omega
      have u2 : (X == Y) = ((X : Int) == (Y : Int)) := by rw [Bool.eq_iff_iff, beq_iff_eq, beq_iff_eq]; omega
      have u3 : decide (1 < X) = decide ((1 : Int) < (X : Int)) := by rw [Bool.eq_iff_iff, decide_eq_true_iff, decide_eq_true_iff]; omega
      have hf : firstB X Y = (decide (Y < X) || (X == Y && decide (1 < X))) := rfl
      rw [u1, u2, u3, t1, t2, t3] at hf
      simp only [Bool.true_or, Bool.false_or, Bool.and_true, Bool.and_false, Bool.true_and, Bool.false_and, Bool.or_true, Bool.or_false] at hf
      rw [t1] at u1
      rw [t2] at u2
      rw [t3] at u3
      simp only [hf, Bool.false_eq_true, if_true, if_false] at n0 n1
      have sO : (sgO X == sgO X) = true := by simp
      have sP : (sgO Y == sgO Y) = true := by simp
      go_wp2_with fail
      refine (live_any _ (HV.out.up HC.out.below)).mono ?_
      rintro r w4 ⟨rfl, hb4⟩
      go_wp2
      go_ret
      exact ⟨rfl, HC.out.below.trans (hb4.mono HC.out.below.size)⟩
set_option maxHeartbeats 4000000 in
theorem walk (x : Int) (hx : (Lit.int .i64 x).wf = true) (y : Int) (hy : (Lit.int .i64 y).wf = true) (w : World) (hv : Ex.VarAt w w.heap.size) : Calls Tryd.prog 4 #[.int .i64 x, .int .i64 y] w fun r w' => r = .returned (.bool true) ∧ Below w.heap.size w w' := by
  have HV := Lib.hid hv
  by_cases hin : 0 ≤ x ∧ x ≤ 6 ∧ 0 ≤ y ∧ y ≤ 6
  · obtain ⟨X, rfl⟩ := Int.eq_ofNat_of_zero_le hin.1
    obtain ⟨Y, rfl⟩ := Int.eq_ofNat_of_zero_le hin.2.2.1
    exact walk_in X Y (by omega) (by omega) w hv
  · obtain ⟨g, hg⟩ : ∃ g, (decide (x < 0) || (decide (6 < x) || (decide (y < 0) || decide (6 < y)))) = g := ⟨_, rfl⟩
    have hgt : g = true := by
      rw [← hg]
      by_cases c1 : x < 0
      · simp [c1]
      · by_cases c2 : 6 < x
        · simp [c2]
        · by_cases c3 : y < 0
          · simp [c3]
          · have : 6 < y := by omega
            simp [this]
    clear hv hin
    rcases Bool.eq_false_or_eq_true (decide (x < 0)) with b1 | b1
    all_goals rcases Bool.eq_false_or_eq_true (decide (6 < x)) with b2 | b2
    all_goals rcases Bool.eq_false_or_eq_true (decide (y < 0)) with b3 | b3
    all_goals rcases Bool.eq_false_or_eq_true (decide (6 < y)) with b4 | b4
    all_goals first
      | (rw [b1, b2, b3, b4] at hg; exact absurd (hg.trans hgt) (by decide))
      | (clear hg hgt
         go_enter Tryd.func4, Tryd.ntmps4
         go_wp2_with fail
         refine (live_any _ (HV.out.up ((below_new w _).alloc (below_new w _).size _))).mono ?_
         rintro r w1 ⟨rfl, hb⟩
         go_wp2
         go_ret
         exact ⟨rfl, ((below_new w _).alloc (below_new w _).size _).trans (hb.mono ((below_new w _).alloc (below_new w _).size _).size)⟩)
end Go.Proofs.YtgohhnbdicdenaaDoor.exprLevels
