/- Contract of Read. Conditions: the source is no longer than a string can be; the variable of the error of a number's form holds an error or none. -/
import Derived.Test.YtgohhnbdicdenaaDoorPk25
namespace Go.Proofs.YtgohhnbdicdenaaDoor.Ex
open Go.ChangeShapes Go.WideShapes Go.ChangeAt Go.RowKit
open Go.Proofs.YtgohhnbdicdenaaDoor.Tr (str ret_bool ret_int Bytes Nd joinM roomM own_block)
set_option linter.unusedVariables false
set_option linter.unusedSimpArgs false

set_option maxRecDepth 100000 in
set_option maxHeartbeats 4000000 in
theorem read_cc (S : ByteArray) (w : World) (h : S.size ≤ maxLen) (hvar : VarAt w w.heap.size) (l : List Tok) (hl : Lx.lexM S.toList = .ok l) (x : Pt × Rd) (hx : run (fuelOf l 0) (.lev 1) ⟨l, 0, 0, 0, 0⟩ = some x) (E : List Nd) (N : Nat) (C D : Int) (hP : parseOf l 0 x = (E, N, C, D)) (hC : C ≠ 0) : Calls Tryd.prog 13 #[.string S] w (ReadTo w (readM S.toList)) := by
  have HVAR := Lib.hid hvar
  have HC : Hid (Calls Tryd.prog 26 #[.string S] (w.alloc (.cells #[.int .i64 0, .int .i64 0] 27)) (Lx.LexGives (w.alloc (.cells #[.int .i64 0, .int .i64 0] 27)) l 0 0)) := Lib.hid (by have := Lx.lex_gives S (w.alloc (.cells #[.int .i64 0, .int .i64 0] 27)) h; rw [hl] at this; exact this)
  have HOK := Lib.hid (okr_of hl)
  have HX := Lib.hid hx
  have HP := Lib.hid hP
  have hN : N ≤ 1000000 := by have := parse_next HOK.out hx; rw [hP] at this; exact this
  have hPM : parseM l 0 = (E, N, C, D) := by unfold parseM; rw [hx]; exact hP
  have hcd : (C == 0) = false := by rw [beq_eq_false_iff_ne]; exact hC
  have HE : Hid (readM S.toList = (E, C, D)) := Lib.hid (by unfold readM; rw [hl]; simp only [hPM]; rw [if_neg (fun h => hC h.1)])
  clear hC
  rw [HE.out]
  clear hl hx hP hPM
  clear h hvar
  go_enter Tryd.func13, Tryd.ntmps13
  go_wp2_with fail
  refine HC.out.mono ?_
  rintro e w1 ⟨v, rfl, ht, hb1⟩
  have HT := Lib.hid ht
  obtain ⟨A, cc, rfl, t1, t2, -⟩ := ht
  unfold maxLen at t2
  have X6 : Hid (w1.heap[w.heap.size]? = some (.cells #[.int .i64 0, .int .i64 0] 27 (0, 0))) := Lib.hid ((hb1.block w.heap.size (by simp)).trans (heap_alloc_new w _))
  have HB1 : Hid (Below w.heap.size w w1) := Lib.hid ((below_new w _).trans (hb1.mono (by simp)))
  have hl1 : w.heap.size < w1.heap.size := lt_of_block X6.out
  clear hb1
  go_wp2_with fail
  refine (parse_at rfl ((toks_off HT.out).rise (below_new w1 (.cells #[.int .i64 0, .int .i64 0] 27)) (Below.refl _ _)) (HVAR.out.rise (HB1.out.alloc (by omega) (.cells #[.int .i64 0, .int .i64 0] 27)) (Below.refl _ _)) HOK.out HX.out HP.out).mono ?_
  rintro e w3 ⟨ev, rfl, hpt, hb3⟩
  have HPT := Lib.hid hpt
  have HB3 := Lib.hid hb3
  have XF : Hid (w3.heap[w1.heap.size]? = some (.cells #[.int .i64 0, .int .i64 0] 27 (0, 0))) := Lib.hid ((hb3.block w1.heap.size (by simp)).trans (heap_alloc_new w1 _))
  have X63 : Hid (w3.heap[w.heap.size]? = some (.cells #[.int .i64 0, .int .i64 0] 27 (0, 0))) := Lib.hid ((hb3.block w.heap.size (by simp; omega)).trans (stayA X6.out))
  have HBW : Hid (Below w.heap.size w w3) := Lib.hid ((HB1.out.alloc (by omega) _).trans (hb3.mono (by simp; omega)))
  have HB13 : Hid (Below w1.heap.size w1 w3) := Lib.hid ((below_new w1 _).trans (hb3.mono (by simp)))
  have hs3 := hb3.size
  simp at hs3
  obtain ⟨⟨Ae, ce, hev, y1, y2, -⟩, -⟩ := hpt
  simp only at hev y1
  subst hev
  unfold maxLen at y2
  clear hb3
  have l13 : w1.heap.size < w3.heap.size := lt_of_block XF.out
  have l03 : w.heap.size < w3.heap.size := by omega
  have hne : w.heap.size ≠ w1.heap.size := by omega
  have c60 : w3.cell? ⟨w.heap.size, 0, none⟩ = some (.int .i64 0) := (cell_at X63.out 0).trans rfl
  have c61 : w3.cell? ⟨w.heap.size, 1, none⟩ = some (.int .i64 0) := (cell_at X63.out 1).trans rfl
  have f60 : w3.frozen? ⟨w.heap.size, 0, none⟩ = false := free_at X63.out 0
  have f61 : w3.frozen? ⟨w.heap.size, 1, none⟩ = false := free_at X63.out 1
  have c50 : w3.cell? ⟨w1.heap.size, 0, none⟩ = some (.int .i64 0) := (cell_at XF.out 0).trans rfl
  have c51 : w3.cell? ⟨w1.heap.size, 1, none⟩ = some (.int .i64 0) := (cell_at XF.out 1).trans rfl
  have f50 : w3.frozen? ⟨w1.heap.size, 0, none⟩ = false := free_at XF.out 0
  have f51 : w3.frozen? ⟨w1.heap.size, 1, none⟩ = false := free_at XF.out 1
  have XR : Hid (((w3.setCell ⟨w1.heap.size, 0, none⟩ (.int .i64 C)).setCell ⟨w1.heap.size, 1, none⟩ (.int .i64 D)).heap[w.heap.size]? = some (.cells #[.int .i64 0, .int .i64 0] 27 (0, 0))) := Lib.hid (by rw [Below.heap_setCell _ _ _ _ (by simpa using hne), Below.heap_setCell _ _ _ _ (by simpa using hne)]; exact X63.out)
  have HPF : Hid (PtW ((w3.setCell ⟨w1.heap.size, 0, none⟩ (.int .i64 C)).setCell ⟨w1.heap.size, 1, none⟩ (.int .i64 D)) (.slice Ae E.length ce, ⟨E, 0, 0⟩)) := Lib.hid ((HPT.out.set XF.out (by decide) _).set (setObj_heap (v := .int .i64 C) XF.out (k := 0) (by simp)) (by decide) _)
  have HBF : Hid (Below w.heap.size w ((w3.setCell ⟨w1.heap.size, 0, none⟩ (.int .i64 C)).setCell ⟨w1.heap.size, 1, none⟩ (.int .i64 D))) := Lib.hid ((HBW.out.setCell (by simp; omega) _).setCell (by simp; omega) _)
  have HBG : Hid (Below w1.heap.size w1 ((w3.setCell ⟨w1.heap.size, 0, none⟩ (.int .i64 C)).setCell ⟨w1.heap.size, 1, none⟩ (.int .i64 D))) := Lib.hid ((HB13.out.setCell (by simp) _).setCell (by simp) _)
  go_wp2_with fail
  go_region
  all_goals go_wp2
  all_goals
    refine bodyPost_ret (v := .tuple #[.slice Ae E.length ce, .agg #[.int .i64 (C), .int .i64 (D)]]) ?_ rfl ⟨_, rfl, (by first | exact ((HPF.out.set XR.out (by decide) _).set (setObj_heap (v := .int .i64 C) XR.out (k := 0) (by simp)) (by decide) _) | exact ((HPF.out.drew.set XR.out (by decide) _).set (setObj_heap (v := .int .i64 C) XR.out (k := 0) (by simp)) (by decide) _) | exact ((HPF.out.set XR.out (by decide) _).set (setObj_heap (v := .int .i64 C) XR.out (k := 0) (by simp)) (by decide) _).drew), ?_⟩
    · obtain ⟨k0, k1⟩ := two_cells XR.out (.int .i64 (C)) (.int .i64 (D))
      clear c60 c61 f60 f61 c50 c51 f50 f51
      simp [results, Tryd.results13, go_sem, k0, k1]
    · repeat (first | exact HBF.out | refine Below.setCell ?_ (by exact Nat.le_refl _) _ | refine Below.drew ?_)
end Go.Proofs.YtgohhnbdicdenaaDoor.Ex

