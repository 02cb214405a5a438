/- The method single of a reader. Conditions: the contracts of level and named at less fuel; a reader lies in memory. -/
import Derived.Test.YtgohhnbdicdenaaDoorPk20
import Derived.Test.YtgohhnbdicdenaaDoorPk21
import Derived.Test.YtgohhnbdicdenaaDoorPk18
import Derived.Test.YtgohhnbdicdenaaDoorPk19
import Derived.Test.YtgohhnbdicdenaaDoorPk16
import Derived.Maps.Own
namespace Go.Proofs.YtgohhnbdicdenaaDoor.Ex
open Go.ChangeShapes Go.WideShapes Go.ChangeAt Go.RowKit
open Go.Proofs.YtgohhnbdicdenaaDoor.Tr (str ret_bool ret_int Bytes Nd joinM roomM own_block)
set_option linter.unusedVariables false
set_option linter.unusedSimpArgs false

set_option maxRecDepth 100000 in
set_option maxHeartbeats 4000000 in
theorem single_c3 (f : Nat) (HL : ∀ g, g ≤ f → LevOk g) (HN : NamedOk f) (r : Rd) (p : Pt) (r' : Rd) (h : run (f + 1) .single r = some (p, r')) (hok : OkR r) (w : World) (b : Nat) (mv : Nat → Value) (hr : RdAt w b mv r)
    (h0 : r.isB lp = false) (h1 : r.isB [105, 102] = false) (h2 : r.isB [116, 114, 117, 101] = true)  : Calls Tryd.prog 85 #[.pointer (some ⟨b, 0, none⟩)] w (PartTo w b mv p r') := by
  have HLH := Lib.hid HL
  have HNH := Lib.hid HN
  have HOK := Lib.hid hok
  have HR := Lib.hid hr
  have hlt := hr.lt
  have hnx := hok.nx
  have H := Lib.hid h
  obtain ⟨t, ht⟩ : ∃ t, r.cur = t := ⟨_, rfl⟩
  have HT := Lib.hid ht
  have HC := Lib.hid (token_any b mv r (w.alloc (.cells #[.slice none 0 0, .int .i64 0, .int .i64 0] 64)) (hr.below (below_new w _)) hnx)
  obtain ⟨ok, hk⟩ : ∃ ok, decide (r.next < r.l.length) = ok := ⟨_, rfl⟩
  rw [ht, hk] at HC
  obtain ⟨K, T, P⟩ := t
  clear HL HN hok hr h ht hk
  go_enter Tryd.func85, Tryd.ntmps85
  go_wp2_with fail
  refine HC.out.mono ?_
  rintro e w1 ⟨rfl, hb1⟩
  have X2 := Lib.hid ((hb1.block w.heap.size (by simp)).trans (heap_alloc_new w _))
  have HRD := Lib.hid ((RdTo.of_below (HR.out.below (below_new w _)) hb1).below (below_new w _) hlt)
  have hs1 := hb1.size
  simp at hs1
  clear hb1
  obtain ⟨wa, hwa⟩ : ∃ wa, w1.alloc (.cells #[.int .i64 K, .string (str T), .int .i64 (P : Int)] 43) = wa := ⟨_, rfl⟩
  have Y2 : Hid (wa.heap[w.heap.size]? = some (.cells #[.slice none 0 0, .int .i64 0, .int .i64 0] 64 (0, 0))) := Lib.hid (by rw [← hwa]; exact stayA X2.out)
  have Y3 : Hid (wa.heap[w1.heap.size]? = some (.cells #[.int .i64 K, .string (str T), .int .i64 (P : Int)] 43 (0, 0))) := Lib.hid (by rw [← hwa]; exact heap_alloc_new w1 _)
  have HRA : Hid (RdTo w wa b mv r) := Lib.hid (by rw [← hwa]; exact HRD.out.then_below (below_new w1 _))
  have HWA := Lib.hid hwa
  clear hwa
  have hb3 : b < w1.heap.size := by omega
  have HRwa := HRA
  have Y2wa := Y2
  have Y3wa := Y3
  have HE : Hid (p = joined 2 1 [] [] ∧ r' = r.adv) := Lib.hid (by
    have := H.out
    simp only [run, h0, h1, h2, if_true, if_false, Bool.false_eq_true, Option.some.injEq, Prod.mk.injEq] at this
    exact ⟨this.1.symm, this.2.symm⟩)
  go_wp2_with fail
  rw [HWA.out]
  refine (take_at (s := lp) (B := false) rfl (h0) (HRwa.out.rd) hnx).mono ?_
  rintro e wt0 ⟨rfl, hrd⟩
  have HRwt0 : Hid (RdTo w wt0 b mv r) := Lib.hid (HRwa.out.trans hrd)
  have Y2wt0 := Lib.hid (stay hrd.grown Y2wa.out (by omega))
  have Y3wt0 := Lib.hid (stay hrd.grown Y3wa.out (by omega))
  clear hrd
  go_wp2_with fail
  refine (take_at (s := [105, 102]) (B := false) rfl (h1) (HRwt0.out.rd) hnx).mono ?_
  rintro e wt1 ⟨rfl, hrd⟩
  have HRwt1 : Hid (RdTo w wt1 b mv r) := Lib.hid (HRwt0.out.trans hrd)
  have Y2wt1 := Lib.hid (stay hrd.grown Y2wt0.out (by omega))
  have Y3wt1 := Lib.hid (stay hrd.grown Y3wt0.out (by omega))
  clear hrd
  go_wp2_with fail
  refine (take_at (s := [116, 114, 117, 101]) (B := true) rfl (h2) (HRwt1.out.rd) hnx).mono ?_
  rintro e wt2 ⟨rfl, hrd⟩
  have HRwt2 : Hid (RdTo w wt2 b mv r.adv) := Lib.hid (HRwt1.out.trans hrd)
  have Y2wt2 := Lib.hid (stay hrd.grown Y2wt1.out (by omega))
  have Y3wt2 := Lib.hid (stay hrd.grown Y3wt1.out (by omega))
  clear hrd
  go_wp2_with fail
  refine (joined0_at (s := []) rfl).mono ?_
  rintro e w5 ⟨gv, rfl, hpt5, hb5⟩
  have P5 := Lib.hid hpt5
  have HRw5 := Lib.hid (HRwt2.out.then_below hb5)
  have Y2w5 := Lib.hid (stayB hb5 Y2wt2.out)
  obtain ⟨⟨Ag, cg, hgv, v1, v2, -⟩, -⟩ := hpt5
  simp only at hgv v1
  subst hgv
  unfold maxLen at v2
  clear hb5
  have g0 : w5.cell? ⟨w.heap.size, 0, none⟩ = some (.slice none 0 0) := (cell_at Y2w5.out 0).trans rfl
  have g1 : w5.cell? ⟨w.heap.size, 1, none⟩ = some (.int .i64 0) := (cell_at Y2w5.out 1).trans rfl
  have g2 : w5.cell? ⟨w.heap.size, 2, none⟩ = some (.int .i64 0) := (cell_at Y2w5.out 2).trans rfl
  have e0 : w5.frozen? ⟨w.heap.size, 0, none⟩ = false := free_at Y2w5.out 0
  have e1 : w5.frozen? ⟨w.heap.size, 1, none⟩ = false := free_at Y2w5.out 1
  have e2 : w5.frozen? ⟨w.heap.size, 2, none⟩ = false := free_at Y2w5.out 2
  go_wp2
  refine bodyPost_ret (v := .agg #[.slice Ag (joined 2 1 [] []).e.length cg, .int .i64 ((joined 2 1 [] []).nodes : Int), .int .i64 ((joined 2 1 [] []).deep : Int)]) ?_ rfl (PartTo.laid HE.out.1 HE.out.2 HRw5.out hlt (Nat.le_refl _) Y2w5.out P5.out)
  obtain ⟨k0, k1, k2⟩ := trip_cells (.slice Ag (joined 2 1 [] []).e.length cg) (.int .i64 ((joined 2 1 [] []).nodes : Int)) (.int .i64 ((joined 2 1 [] []).deep : Int)) Y2w5.out
  clear g0 g1 g2 e0 e1 e2
  simp [results, Tryd.results85, go_sem, k0, k1, k2]
end Go.Proofs.YtgohhnbdicdenaaDoor.Ex

/- The method single of a reader. Conditions: the contracts of level and named at less fuel; a reader lies in memory. -/
namespace Go.Proofs.YtgohhnbdicdenaaDoor.Ex
open Go.ChangeShapes Go.WideShapes Go.ChangeAt Go.RowKit
open Go.Proofs.YtgohhnbdicdenaaDoor.Tr (str ret_bool ret_int Bytes Nd joinM roomM own_block)
set_option linter.unusedVariables false
set_option linter.unusedSimpArgs false

set_option maxRecDepth 100000 in
set_option maxHeartbeats 4000000 in
theorem single_c4 (f : Nat) (HL : ∀ g, g ≤ f → LevOk g) (HN : NamedOk f) (r : Rd) (p : Pt) (r' : Rd) (h : run (f + 1) .single r = some (p, r')) (hok : OkR r) (w : World) (b : Nat) (mv : Nat → Value) (hr : RdAt w b mv r)
    (h0 : r.isB lp = false) (h1 : r.isB [105, 102] = false) (h2 : r.isB [116, 114, 117, 101] = false) (h3 : r.isB [102, 97, 108, 115, 101] = true)  : Calls Tryd.prog 85 #[.pointer (some ⟨b, 0, none⟩)] w (PartTo w b mv p r') := by
  have HLH := Lib.hid HL
  have HNH := Lib.hid HN
  have HOK := Lib.hid hok
  have HR := Lib.hid hr
  have hlt := hr.lt
  have hnx := hok.nx
  have H := Lib.hid h
  obtain ⟨t, ht⟩ : ∃ t, r.cur = t := ⟨_, rfl⟩
  have HT := Lib.hid ht
  have HC := Lib.hid (token_any b mv r (w.alloc (.cells #[.slice none 0 0, .int .i64 0, .int .i64 0] 64)) (hr.below (below_new w _)) hnx)
  obtain ⟨ok, hk⟩ : ∃ ok, decide (r.next < r.l.length) = ok := ⟨_, rfl⟩
  rw [ht, hk] at HC
  obtain ⟨K, T, P⟩ := t
  clear HL HN hok hr h ht hk
  go_enter Tryd.func85, Tryd.ntmps85
  go_wp2_with fail
  refine HC.out.mono ?_
  rintro e w1 ⟨rfl, hb1⟩
  have X2 := Lib.hid ((hb1.block w.heap.size (by simp)).trans (heap_alloc_new w _))
  have HRD := Lib.hid ((RdTo.of_below (HR.out.below (below_new w _)) hb1).below (below_new w _) hlt)
  have hs1 := hb1.size
  simp at hs1
  clear hb1
  obtain ⟨wa, hwa⟩ : ∃ wa, w1.alloc (.cells #[.int .i64 K, .string (str T), .int .i64 (P : Int)] 43) = wa := ⟨_, rfl⟩
  have Y2 : Hid (wa.heap[w.heap.size]? = some (.cells #[.slice none 0 0, .int .i64 0, .int .i64 0] 64 (0, 0))) := Lib.hid (by rw [← hwa]; exact stayA X2.out)
  have Y3 : Hid (wa.heap[w1.heap.size]? = some (.cells #[.int .i64 K, .string (str T), .int .i64 (P : Int)] 43 (0, 0))) := Lib.hid (by rw [← hwa]; exact heap_alloc_new w1 _)
  have HRA : Hid (RdTo w wa b mv r) := Lib.hid (by rw [← hwa]; exact HRD.out.then_below (below_new w1 _))
  have HWA := Lib.hid hwa
  clear hwa
  have hb3 : b < w1.heap.size := by omega
  have HRwa := HRA
  have Y2wa := Y2
  have Y3wa := Y3
  have HE : Hid (p = joined 2 0 [] [] ∧ r' = r.adv) := Lib.hid (by
    have := H.out
    simp only [run, h0, h1, h2, h3, if_true, if_false, Bool.false_eq_true, Option.some.injEq, Prod.mk.injEq] at this
    exact ⟨this.1.symm, this.2.symm⟩)
  go_wp2_with fail
  rw [HWA.out]
  refine (take_at (s := lp) (B := false) rfl (h0) (HRwa.out.rd) hnx).mono ?_
  rintro e wt0 ⟨rfl, hrd⟩
  have HRwt0 : Hid (RdTo w wt0 b mv r) := Lib.hid (HRwa.out.trans hrd)
  have Y2wt0 := Lib.hid (stay hrd.grown Y2wa.out (by omega))
  have Y3wt0 := Lib.hid (stay hrd.grown Y3wa.out (by omega))
  clear hrd
  go_wp2_with fail
  refine (take_at (s := [105, 102]) (B := false) rfl (h1) (HRwt0.out.rd) hnx).mono ?_
  rintro e wt1 ⟨rfl, hrd⟩
  have HRwt1 : Hid (RdTo w wt1 b mv r) := Lib.hid (HRwt0.out.trans hrd)
  have Y2wt1 := Lib.hid (stay hrd.grown Y2wt0.out (by omega))
  have Y3wt1 := Lib.hid (stay hrd.grown Y3wt0.out (by omega))
  clear hrd
  go_wp2_with fail
  refine (take_at (s := [116, 114, 117, 101]) (B := false) rfl (h2) (HRwt1.out.rd) hnx).mono ?_
  rintro e wt2 ⟨rfl, hrd⟩
  have HRwt2 : Hid (RdTo w wt2 b mv r) := Lib.hid (HRwt1.out.trans hrd)
  have Y2wt2 := Lib.hid (stay hrd.grown Y2wt1.out (by omega))
  have Y3wt2 := Lib.hid (stay hrd.grown Y3wt1.out (by omega))
  clear hrd
  go_wp2_with fail
  refine (take_at (s := [102, 97, 108, 115, 101]) (B := true) rfl (h3) (HRwt2.out.rd) hnx).mono ?_
  rintro e wt3 ⟨rfl, hrd⟩
  have HRwt3 : Hid (RdTo w wt3 b mv r.adv) := Lib.hid (HRwt2.out.trans hrd)
  have Y2wt3 := Lib.hid (stay hrd.grown Y2wt2.out (by omega))
  have Y3wt3 := Lib.hid (stay hrd.grown Y3wt2.out (by omega))
  clear hrd
  go_wp2_with fail
  refine (joined0_at (s := []) rfl).mono ?_
  rintro e w5 ⟨gv, rfl, hpt5, hb5⟩
  have P5 := Lib.hid hpt5
  have HRw5 := Lib.hid (HRwt3.out.then_below hb5)
  have Y2w5 := Lib.hid (stayB hb5 Y2wt3.out)
  obtain ⟨⟨Ag, cg, hgv, v1, v2, -⟩, -⟩ := hpt5
  simp only at hgv v1
  subst hgv
  unfold maxLen at v2
  clear hb5
  have g0 : w5.cell? ⟨w.heap.size, 0, none⟩ = some (.slice none 0 0) := (cell_at Y2w5.out 0).trans rfl
  have g1 : w5.cell? ⟨w.heap.size, 1, none⟩ = some (.int .i64 0) := (cell_at Y2w5.out 1).trans rfl
  have g2 : w5.cell? ⟨w.heap.size, 2, none⟩ = some (.int .i64 0) := (cell_at Y2w5.out 2).trans rfl
  have e0 : w5.frozen? ⟨w.heap.size, 0, none⟩ = false := free_at Y2w5.out 0
  have e1 : w5.frozen? ⟨w.heap.size, 1, none⟩ = false := free_at Y2w5.out 1
  have e2 : w5.frozen? ⟨w.heap.size, 2, none⟩ = false := free_at Y2w5.out 2
  go_wp2
  refine bodyPost_ret (v := .agg #[.slice Ag (joined 2 0 [] []).e.length cg, .int .i64 ((joined 2 0 [] []).nodes : Int), .int .i64 ((joined 2 0 [] []).deep : Int)]) ?_ rfl (PartTo.laid HE.out.1 HE.out.2 HRw5.out hlt (Nat.le_refl _) Y2w5.out P5.out)
  obtain ⟨k0, k1, k2⟩ := trip_cells (.slice Ag (joined 2 0 [] []).e.length cg) (.int .i64 ((joined 2 0 [] []).nodes : Int)) (.int .i64 ((joined 2 0 [] []).deep : Int)) Y2w5.out
  clear g0 g1 g2 e0 e1 e2
  simp [results, Tryd.results85, go_sem, k0, k1, k2]
end Go.Proofs.YtgohhnbdicdenaaDoor.Ex

/- The method single of a reader. Conditions: the contracts of level and named at less fuel; a reader lies in memory. -/
namespace Go.Proofs.YtgohhnbdicdenaaDoor.Ex
open Go.ChangeShapes Go.WideShapes Go.ChangeAt Go.RowKit
open Go.Proofs.YtgohhnbdicdenaaDoor.Tr (str ret_bool ret_int Bytes Nd joinM roomM own_block)
set_option linter.unusedVariables false
set_option linter.unusedSimpArgs false

set_option maxRecDepth 100000 in
set_option maxHeartbeats 4000000 in
theorem single_c5 (f : Nat) (HL : ∀ g, g ≤ f → LevOk g) (HN : NamedOk f) (r : Rd) (p : Pt) (r' : Rd) (h : run (f + 1) .single r = some (p, r')) (hok : OkR r) (w : World) (b : Nat) (mv : Nat → Value) (hr : RdAt w b mv r)
    (h0 : r.isB lp = false) (h1 : r.isB [105, 102] = false) (h2 : r.isB [116, 114, 117, 101] = false) (h3 : r.isB [102, 97, 108, 115, 101] = false) (hk2 : r.cur.kind = 2) : Calls Tryd.prog 85 #[.pointer (some ⟨b, 0, none⟩)] w (PartTo w b mv p r') := by
  have HLH := Lib.hid HL
  have HNH := Lib.hid HN
  have HOK := Lib.hid hok
  have HR := Lib.hid hr
  have hlt := hr.lt
  have hnx := hok.nx
  have H := Lib.hid h
  obtain ⟨t, ht⟩ : ∃ t, r.cur = t := ⟨_, rfl⟩
  have HT := Lib.hid ht
  have HC := Lib.hid (token_any b mv r (w.alloc (.cells #[.slice none 0 0, .int .i64 0, .int .i64 0] 64)) (hr.below (below_new w _)) hnx)
  obtain ⟨ok, hk⟩ : ∃ ok, decide (r.next < r.l.length) = ok := ⟨_, rfl⟩
  rw [ht, hk] at HC
  obtain ⟨K, T, P⟩ := t
  have hK2 := hk2
  rw [HT.out] at hK2
  simp only at hK2
  clear hk2
  clear HL HN hok hr h ht hk
  go_enter Tryd.func85, Tryd.ntmps85
  go_wp2_with fail
  refine HC.out.mono ?_
  rintro e w1 ⟨rfl, hb1⟩
  have X2 := Lib.hid ((hb1.block w.heap.size (by simp)).trans (heap_alloc_new w _))
  have HRD := Lib.hid ((RdTo.of_below (HR.out.below (below_new w _)) hb1).below (below_new w _) hlt)
  have hs1 := hb1.size
  simp at hs1
  clear hb1
  obtain ⟨wa, hwa⟩ : ∃ wa, w1.alloc (.cells #[.int .i64 K, .string (str T), .int .i64 (P : Int)] 43) = wa := ⟨_, rfl⟩
  have Y2 : Hid (wa.heap[w.heap.size]? = some (.cells #[.slice none 0 0, .int .i64 0, .int .i64 0] 64 (0, 0))) := Lib.hid (by rw [← hwa]; exact stayA X2.out)
  have Y3 : Hid (wa.heap[w1.heap.size]? = some (.cells #[.int .i64 K, .string (str T), .int .i64 (P : Int)] 43 (0, 0))) := Lib.hid (by rw [← hwa]; exact heap_alloc_new w1 _)
  have HRA : Hid (RdTo w wa b mv r) := Lib.hid (by rw [← hwa]; exact HRD.out.then_below (below_new w1 _))
  have HWA := Lib.hid hwa
  clear hwa
  have hb3 : b < w1.heap.size := by omega
  have HRwa := HRA
  have Y2wa := Y2
  have Y3wa := Y3
  have HE : Hid (p = joined 1 (r.num 2147483647 : Nat) [] [] ∧ r' = r.numR 2147483647) := Lib.hid (by
    have := H.out
    simp only [run, h0, h1, h2, h3, if_true, if_false, Bool.false_eq_true, HT.out, hK2, Option.some.injEq, Prod.mk.injEq] at this
    exact ⟨this.1.symm, this.2.symm⟩)
  have hKd : (K == 2) = true := by simpa using hK2
  have HK := Lib.hid hK2
  clear hK2
  go_wp2_with fail
  rw [HWA.out]
  refine (take_at (s := lp) (B := false) rfl (h0) (HRwa.out.rd) hnx).mono ?_
  rintro e wt0 ⟨rfl, hrd⟩
  have HRwt0 : Hid (RdTo w wt0 b mv r) := Lib.hid (HRwa.out.trans hrd)
  have Y2wt0 := Lib.hid (stay hrd.grown Y2wa.out (by omega))
  have Y3wt0 := Lib.hid (stay hrd.grown Y3wa.out (by omega))
  clear hrd
  go_wp2_with fail
  refine (take_at (s := [105, 102]) (B := false) rfl (h1) (HRwt0.out.rd) hnx).mono ?_
  rintro e wt1 ⟨rfl, hrd⟩
  have HRwt1 : Hid (RdTo w wt1 b mv r) := Lib.hid (HRwt0.out.trans hrd)
  have Y2wt1 := Lib.hid (stay hrd.grown Y2wt0.out (by omega))
  have Y3wt1 := Lib.hid (stay hrd.grown Y3wt0.out (by omega))
  clear hrd
  go_wp2_with fail
  refine (take_at (s := [116, 114, 117, 101]) (B := false) rfl (h2) (HRwt1.out.rd) hnx).mono ?_
  rintro e wt2 ⟨rfl, hrd⟩
  have HRwt2 : Hid (RdTo w wt2 b mv r) := Lib.hid (HRwt1.out.trans hrd)
  have Y2wt2 := Lib.hid (stay hrd.grown Y2wt1.out (by omega))
  have Y3wt2 := Lib.hid (stay hrd.grown Y3wt1.out (by omega))
  clear hrd
  go_wp2_with fail
  refine (take_at (s := [102, 97, 108, 115, 101]) (B := false) rfl (h3) (HRwt2.out.rd) hnx).mono ?_
  rintro e wt3 ⟨rfl, hrd⟩
  have HRwt3 : Hid (RdTo w wt3 b mv r) := Lib.hid (HRwt2.out.trans hrd)
  have Y2wt3 := Lib.hid (stay hrd.grown Y2wt2.out (by omega))
  have Y3wt3 := Lib.hid (stay hrd.grown Y3wt2.out (by omega))
  clear hrd
  have q0 : wt3.cell? ⟨w1.heap.size, 0, none⟩ = some (.int .i64 K) := (cell_at Y3wt3.out 0).trans rfl
  have q1 : wt3.cell? ⟨w1.heap.size, 1, none⟩ = some (.string (str T)) := (cell_at Y3wt3.out 1).trans rfl
  go_wp2_with fail
  refine (number_at (i := 2147483647) (most := 2147483647) rfl (HRwt3.out.rd) hnx HOK.out.good HOK.out.cur (by decide)).mono ?_
  rintro e w6 ⟨rfl, hrd⟩
  have HRw6 : Hid (RdTo w w6 b mv (r.numR 2147483647)) := Lib.hid (HRwt3.out.trans hrd)
  have Y2w6 := Lib.hid (stay hrd.grown Y2wt3.out (by omega))
  clear hrd q0 q1
  go_wp2_with fail
  refine (joined0_at (s := []) rfl).mono ?_
  rintro e w5 ⟨gv, rfl, hpt5, hb5⟩
  have P5 := Lib.hid hpt5
  have HRw5 := Lib.hid (HRw6.out.then_below hb5)
  have Y2w5 := Lib.hid (stayB hb5 Y2w6.out)
  obtain ⟨⟨Ag, cg, hgv, v1, v2, -⟩, -⟩ := hpt5
  simp only at hgv v1
  subst hgv
  unfold maxLen at v2
  clear hb5
  have g0 : w5.cell? ⟨w.heap.size, 0, none⟩ = some (.slice none 0 0) := (cell_at Y2w5.out 0).trans rfl
  have g1 : w5.cell? ⟨w.heap.size, 1, none⟩ = some (.int .i64 0) := (cell_at Y2w5.out 1).trans rfl
  have g2 : w5.cell? ⟨w.heap.size, 2, none⟩ = some (.int .i64 0) := (cell_at Y2w5.out 2).trans rfl
  have e0 : w5.frozen? ⟨w.heap.size, 0, none⟩ = false := free_at Y2w5.out 0
  have e1 : w5.frozen? ⟨w.heap.size, 1, none⟩ = false := free_at Y2w5.out 1
  have e2 : w5.frozen? ⟨w.heap.size, 2, none⟩ = false := free_at Y2w5.out 2
  go_wp2
  refine bodyPost_ret (v := .agg #[.slice Ag (joined 1 (r.num 2147483647 : Nat) [] []).e.length cg, .int .i64 ((joined 1 (r.num 2147483647 : Nat) [] []).nodes : Int), .int .i64 ((joined 1 (r.num 2147483647 : Nat) [] []).deep : Int)]) ?_ rfl (PartTo.laid HE.out.1 HE.out.2 HRw5.out hlt (Nat.le_refl _) Y2w5.out P5.out)
  obtain ⟨k0, k1, k2⟩ := trip_cells (.slice Ag (joined 1 (r.num 2147483647 : Nat) [] []).e.length cg) (.int .i64 ((joined 1 (r.num 2147483647 : Nat) [] []).nodes : Int)) (.int .i64 ((joined 1 (r.num 2147483647 : Nat) [] []).deep : Int)) Y2w5.out
  clear g0 g1 g2 e0 e1 e2
  simp [results, Tryd.results85, go_sem, k0, k1, k2]
end Go.Proofs.YtgohhnbdicdenaaDoor.Ex

/- The method single of a reader. Conditions: the contracts of level and named at less fuel; a reader lies in memory. -/
namespace Go.Proofs.YtgohhnbdicdenaaDoor.Ex
open Go.ChangeShapes Go.WideShapes Go.ChangeAt Go.RowKit
open Go.Proofs.YtgohhnbdicdenaaDoor.Tr (str ret_bool ret_int Bytes Nd joinM roomM own_block)
set_option linter.unusedVariables false
set_option linter.unusedSimpArgs false

set_option maxRecDepth 100000 in
set_option maxHeartbeats 4000000 in
theorem single_c6 (f : Nat) (HL : ∀ g, g ≤ f → LevOk g) (HN : NamedOk f) (r : Rd) (p : Pt) (r' : Rd) (h : run (f + 1) .single r = some (p, r')) (hok : OkR r) (w : World) (b : Nat) (mv : Nat → Value) (hr : RdAt w b mv r)
    (h0 : r.isB lp = false) (h1 : r.isB [105, 102] = false) (h2 : r.isB [116, 114, 117, 101] = false) (h3 : r.isB [102, 97, 108, 115, 101] = false) (hk2 : ¬ r.cur.kind = 2) (hk1 : r.cur.kind = 1 ∧ r.cur.text ≠ []) : Calls Tryd.prog 85 #[.pointer (some ⟨b, 0, none⟩)] w (PartTo w b mv p r') := by
  have HLH := Lib.hid HL
  have HNH := Lib.hid HN
  have HOK := Lib.hid hok
  have HR := Lib.hid hr
  have hlt := hr.lt
  have hnx := hok.nx
  have H := Lib.hid h
  obtain ⟨t, ht⟩ : ∃ t, r.cur = t := ⟨_, rfl⟩
  have HT := Lib.hid ht
  have HC := Lib.hid (token_any b mv r (w.alloc (.cells #[.slice none 0 0, .int .i64 0, .int .i64 0] 64)) (hr.below (below_new w _)) hnx)
  obtain ⟨ok, hk⟩ : ∃ ok, decide (r.next < r.l.length) = ok := ⟨_, rfl⟩
  rw [ht, hk] at HC
  obtain ⟨K, T, P⟩ := t
  have hK2 := hk2
  rw [HT.out] at hK2
  simp only at hK2
  clear hk2
  have hK1 := hk1
  rw [HT.out] at hK1
  simp only at hK1
  clear hk1
  clear HL HN hok hr h ht hk
  go_enter Tryd.func85, Tryd.ntmps85
  go_wp2_with fail
  refine HC.out.mono ?_
  rintro e w1 ⟨rfl, hb1⟩
  have X2 := Lib.hid ((hb1.block w.heap.size (by simp)).trans (heap_alloc_new w _))
  have HRD := Lib.hid ((RdTo.of_below (HR.out.below (below_new w _)) hb1).below (below_new w _) hlt)
  have hs1 := hb1.size
  simp at hs1
  clear hb1
  obtain ⟨wa, hwa⟩ : ∃ wa, w1.alloc (.cells #[.int .i64 K, .string (str T), .int .i64 (P : Int)] 43) = wa := ⟨_, rfl⟩
  have Y2 : Hid (wa.heap[w.heap.size]? = some (.cells #[.slice none 0 0, .int .i64 0, .int .i64 0] 64 (0, 0))) := Lib.hid (by rw [← hwa]; exact stayA X2.out)
  have Y3 : Hid (wa.heap[w1.heap.size]? = some (.cells #[.int .i64 K, .string (str T), .int .i64 (P : Int)] 43 (0, 0))) := Lib.hid (by rw [← hwa]; exact heap_alloc_new w1 _)
  have HRA : Hid (RdTo w wa b mv r) := Lib.hid (by rw [← hwa]; exact HRD.out.then_below (below_new w1 _))
  have HWA := Lib.hid hwa
  clear hwa
  have hb3 : b < w1.heap.size := by omega
  have HRwa := HRA
  have Y2wa := Y2
  have Y3wa := Y3
  have HE : Hid (run f (.named T) r = some (p, r')) := Lib.hid (by
    have := H.out
    have e1 : r.cur.text = T := by rw [HT.out]
    have e2 : r.cur.kind = K := by rw [HT.out]
    simp only [run, h0, h1, h2, h3, if_false, Bool.false_eq_true, e1, e2, hK2, hK1.1] at this
    rw [if_neg (by decide), if_pos ⟨trivial, hK1.2⟩] at this
    exact this)
  have hKd : (K == 2) = false := by simpa using hK2
  have hKe : (K == 1) = true := by simpa using hK1.1
  have hTe3 : (str T).toList.isEmpty = false := by rw [Tr.str_toList]; have := hK1.2; cases T with | nil => contradiction | cons a l => rfl
  have hTe2 : T.isEmpty = false := by have := hK1.2; cases T with | nil => contradiction | cons a l => rfl
  have hnl : r.next < r.l.length := kind_lt (r := r) (by rw [HT.out]; show K ≠ 0; omega)
  have HK := Lib.hid hK1
  clear hK2 hK1
  go_wp2_with fail
  rw [HWA.out]
  refine (take_at (s := lp) (B := false) rfl (h0) (HRwa.out.rd) hnx).mono ?_
  rintro e wt0 ⟨rfl, hrd⟩
  have HRwt0 : Hid (RdTo w wt0 b mv r) := Lib.hid (HRwa.out.trans hrd)
  have Y2wt0 := Lib.hid (stay hrd.grown Y2wa.out (by omega))
  have Y3wt0 := Lib.hid (stay hrd.grown Y3wa.out (by omega))
  clear hrd
  go_wp2_with fail
  refine (take_at (s := [105, 102]) (B := false) rfl (h1) (HRwt0.out.rd) hnx).mono ?_
  rintro e wt1 ⟨rfl, hrd⟩
  have HRwt1 : Hid (RdTo w wt1 b mv r) := Lib.hid (HRwt0.out.trans hrd)
  have Y2wt1 := Lib.hid (stay hrd.grown Y2wt0.out (by omega))
  have Y3wt1 := Lib.hid (stay hrd.grown Y3wt0.out (by omega))
  clear hrd
  go_wp2_with fail
  refine (take_at (s := [116, 114, 117, 101]) (B := false) rfl (h2) (HRwt1.out.rd) hnx).mono ?_
  rintro e wt2 ⟨rfl, hrd⟩
  have HRwt2 : Hid (RdTo w wt2 b mv r) := Lib.hid (HRwt1.out.trans hrd)
  have Y2wt2 := Lib.hid (stay hrd.grown Y2wt1.out (by omega))
  have Y3wt2 := Lib.hid (stay hrd.grown Y3wt1.out (by omega))
  clear hrd
  go_wp2_with fail
  refine (take_at (s := [102, 97, 108, 115, 101]) (B := false) rfl (h3) (HRwt2.out.rd) hnx).mono ?_
  rintro e wt3 ⟨rfl, hrd⟩
  have HRwt3 : Hid (RdTo w wt3 b mv r) := Lib.hid (HRwt2.out.trans hrd)
  have Y2wt3 := Lib.hid (stay hrd.grown Y2wt2.out (by omega))
  have Y3wt3 := Lib.hid (stay hrd.grown Y3wt2.out (by omega))
  clear hrd
  have q0 : wt3.cell? ⟨w1.heap.size, 0, none⟩ = some (.int .i64 K) := (cell_at Y3wt3.out 0).trans rfl
  have q1 : wt3.cell? ⟨w1.heap.size, 1, none⟩ = some (.string (str T)) := (cell_at Y3wt3.out 1).trans rfl
  go_wp2_with fail
  refine (HNH.out T r p r' HE.out HOK.out hnl _ b mv HRwt3.out.rd).mono ?_
  rintro e w6 ⟨gv, rfl, hpt5, hrd⟩
  have P5 := Lib.hid hpt5
  have HRw6 : Hid (RdTo w w6 b mv r') := Lib.hid (HRwt3.out.trans hrd)
  have Y2w6 := Lib.hid (stay hrd.grown Y2wt3.out (by omega))
  obtain ⟨⟨Ag, cg, hgv, v1, v2, -⟩, -⟩ := hpt5
  simp only at hgv v1
  subst hgv
  unfold maxLen at v2
  clear hrd q0 q1
  have g0 : w6.cell? ⟨w.heap.size, 0, none⟩ = some (.slice none 0 0) := (cell_at Y2w6.out 0).trans rfl
  have g1 : w6.cell? ⟨w.heap.size, 1, none⟩ = some (.int .i64 0) := (cell_at Y2w6.out 1).trans rfl
  have g2 : w6.cell? ⟨w.heap.size, 2, none⟩ = some (.int .i64 0) := (cell_at Y2w6.out 2).trans rfl
  have e0 : w6.frozen? ⟨w.heap.size, 0, none⟩ = false := free_at Y2w6.out 0
  have e1 : w6.frozen? ⟨w.heap.size, 1, none⟩ = false := free_at Y2w6.out 1
  have e2 : w6.frozen? ⟨w.heap.size, 2, none⟩ = false := free_at Y2w6.out 2
  go_wp2
  refine bodyPost_ret (v := .agg #[.slice Ag p.e.length cg, .int .i64 ((p).nodes : Int), .int .i64 ((p).deep : Int)]) ?_ rfl (PartTo.laid rfl rfl HRw6.out hlt (Nat.le_refl _) Y2w6.out P5.out)
  obtain ⟨k0, k1, k2⟩ := trip_cells (.slice Ag p.e.length cg) (.int .i64 ((p).nodes : Int)) (.int .i64 ((p).deep : Int)) Y2w6.out
  clear g0 g1 g2 e0 e1 e2
  simp [results, Tryd.results85, go_sem, k0, k1, k2]
end Go.Proofs.YtgohhnbdicdenaaDoor.Ex

/- The method single of a reader. Conditions: the contracts of level and named at less fuel; a reader lies in memory. -/
namespace Go.Proofs.YtgohhnbdicdenaaDoor.Ex
open Go.ChangeShapes Go.WideShapes Go.ChangeAt Go.RowKit
open Go.Proofs.YtgohhnbdicdenaaDoor.Tr (str ret_bool ret_int Bytes Nd joinM roomM own_block)
set_option linter.unusedVariables false
set_option linter.unusedSimpArgs false

set_option maxRecDepth 100000 in
set_option maxHeartbeats 4000000 in
theorem single_c7 (f : Nat) (HL : ∀ g, g ≤ f → LevOk g) (HN : NamedOk f) (r : Rd) (p : Pt) (r' : Rd) (h : run (f + 1) .single r = some (p, r')) (hok : OkR r) (w : World) (b : Nat) (mv : Nat → Value) (hr : RdAt w b mv r)
    (h0 : r.isB lp = false) (h1 : r.isB [105, 102] = false) (h2 : r.isB [116, 114, 117, 101] = false) (h3 : r.isB [102, 97, 108, 115, 101] = false) (hk2 : ¬ r.cur.kind = 2) (hk1 : ¬ (r.cur.kind = 1 ∧ r.cur.text ≠ [])) : Calls Tryd.prog 85 #[.pointer (some ⟨b, 0, none⟩)] w (PartTo w b mv p r') := by
  have HLH := Lib.hid HL
  have HNH := Lib.hid HN
  have HOK := Lib.hid hok
  have HR := Lib.hid hr
  have hlt := hr.lt
  have hnx := hok.nx
  have H := Lib.hid h
  obtain ⟨t, ht⟩ : ∃ t, r.cur = t := ⟨_, rfl⟩
  have HT := Lib.hid ht
  have HC := Lib.hid (token_any b mv r (w.alloc (.cells #[.slice none 0 0, .int .i64 0, .int .i64 0] 64)) (hr.below (below_new w _)) hnx)
  obtain ⟨ok, hk⟩ : ∃ ok, decide (r.next < r.l.length) = ok := ⟨_, rfl⟩
  rw [ht, hk] at HC
  obtain ⟨K, T, P⟩ := t
  have hK2 := hk2
  rw [HT.out] at hK2
  simp only at hK2
  clear hk2
  have hK1 := hk1
  rw [HT.out] at hK1
  simp only at hK1
  clear hk1
  clear HL HN hok hr h ht hk
  go_enter Tryd.func85, Tryd.ntmps85
  go_wp2_with fail
  refine HC.out.mono ?_
  rintro e w1 ⟨rfl, hb1⟩
  have X2 := Lib.hid ((hb1.block w.heap.size (by simp)).trans (heap_alloc_new w _))
  have HRD := Lib.hid ((RdTo.of_below (HR.out.below (below_new w _)) hb1).below (below_new w _) hlt)
  have hs1 := hb1.size
  simp at hs1
  clear hb1
  obtain ⟨wa, hwa⟩ : ∃ wa, w1.alloc (.cells #[.int .i64 K, .string (str T), .int .i64 (P : Int)] 43) = wa := ⟨_, rfl⟩
  have Y2 : Hid (wa.heap[w.heap.size]? = some (.cells #[.slice none 0 0, .int .i64 0, .int .i64 0] 64 (0, 0))) := Lib.hid (by rw [← hwa]; exact stayA X2.out)
  have Y3 : Hid (wa.heap[w1.heap.size]? = some (.cells #[.int .i64 K, .string (str T), .int .i64 (P : Int)] 43 (0, 0))) := Lib.hid (by rw [← hwa]; exact heap_alloc_new w1 _)
  have HRA : Hid (RdTo w wa b mv r) := Lib.hid (by rw [← hwa]; exact HRD.out.then_below (below_new w1 _))
  have HWA := Lib.hid hwa
  clear hwa
  have hb3 : b < w1.heap.size := by omega
  have HRwa := HRA
  have Y2wa := Y2
  have Y3wa := Y3
  have HE : Hid (p = Pt.zero ∧ r' = r.fail 5) := Lib.hid (by
    have := H.out
    have e1 : r.cur.text = T := by rw [HT.out]
    have e2 : r.cur.kind = K := by rw [HT.out]
    simp only [run, h0, h1, h2, h3, if_false, Bool.false_eq_true, e1, e2, hK2] at this
    rw [if_neg hK1] at this
    simp only [Option.some.injEq, Prod.mk.injEq] at this
    exact ⟨this.1.symm, this.2.symm⟩)
  have hKd : (K == 2) = false := by simpa using hK2
  have HK := Lib.hid hK1
  have hcase : (K == 1) = false ∨ ((K == 1) = true ∧ T = []) := by
    by_cases h1 : K = 1
    · right; exact ⟨by simpa using h1, Classical.byContradiction fun hT => hK1 ⟨h1, hT⟩⟩
    · left; simpa using h1
  clear hK2 hK1
  rcases hcase with hKe | ⟨hKe, hT0⟩
  all_goals
    try have HT0 := Lib.hid hT0
    try have hTs3 : (str T).toList.isEmpty = true := by rw [Tr.str_toList, HT0.out]; rfl
    try clear hT0
    go_wp2_with fail
    rw [HWA.out]
    refine (take_at (s := lp) (B := false) rfl (h0) (HRwa.out.rd) hnx).mono ?_
    rintro e wt0 ⟨rfl, hrd⟩
    have HRwt0 : Hid (RdTo w wt0 b mv r) := Lib.hid (HRwa.out.trans hrd)
    have Y2wt0 := Lib.hid (stay hrd.grown Y2wa.out (by omega))
    have Y3wt0 := Lib.hid (stay hrd.grown Y3wa.out (by omega))
    clear hrd
    go_wp2_with fail
    refine (take_at (s := [105, 102]) (B := false) rfl (h1) (HRwt0.out.rd) hnx).mono ?_
    rintro e wt1 ⟨rfl, hrd⟩
    have HRwt1 : Hid (RdTo w wt1 b mv r) := Lib.hid (HRwt0.out.trans hrd)
    have Y2wt1 := Lib.hid (stay hrd.grown Y2wt0.out (by omega))
    have Y3wt1 := Lib.hid (stay hrd.grown Y3wt0.out (by omega))
    clear hrd
    go_wp2_with fail
    refine (take_at (s := [116, 114, 117, 101]) (B := false) rfl (h2) (HRwt1.out.rd) hnx).mono ?_
    rintro e wt2 ⟨rfl, hrd⟩
    have HRwt2 : Hid (RdTo w wt2 b mv r) := Lib.hid (HRwt1.out.trans hrd)
    have Y2wt2 := Lib.hid (stay hrd.grown Y2wt1.out (by omega))
    have Y3wt2 := Lib.hid (stay hrd.grown Y3wt1.out (by omega))
    clear hrd
    go_wp2_with fail
    refine (take_at (s := [102, 97, 108, 115, 101]) (B := false) rfl (h3) (HRwt2.out.rd) hnx).mono ?_
    rintro e wt3 ⟨rfl, hrd⟩
    have HRwt3 : Hid (RdTo w wt3 b mv r) := Lib.hid (HRwt2.out.trans hrd)
    have Y2wt3 := Lib.hid (stay hrd.grown Y2wt2.out (by omega))
    have Y3wt3 := Lib.hid (stay hrd.grown Y3wt2.out (by omega))
    clear hrd
    have q0 : wt3.cell? ⟨w1.heap.size, 0, none⟩ = some (.int .i64 K) := (cell_at Y3wt3.out 0).trans rfl
    have q1 : wt3.cell? ⟨w1.heap.size, 1, none⟩ = some (.string (str T)) := (cell_at Y3wt3.out 1).trans rfl
    go_wp2_with fail
    refine (fail_any b mv r 5 _ (HRwt3.out.rd) hnx).mono ?_
    rintro e w6 ⟨gv, rfl, hpt5, hrd⟩
    have P5 := Lib.hid hpt5
    have HRw6 : Hid (RdTo w w6 b mv (r.fail 5)) := Lib.hid (HRwt3.out.trans hrd)
    have Y2w6 := Lib.hid (stay hrd.grown Y2wt3.out (by omega))
    obtain ⟨⟨Ag, cg, hgv, v1, v2, -⟩, -⟩ := hpt5
    simp only at hgv v1
    subst hgv
    unfold maxLen at v2
    clear hrd q0 q1
    have g0 : w6.cell? ⟨w.heap.size, 0, none⟩ = some (.slice none 0 0) := (cell_at Y2w6.out 0).trans rfl
    have g1 : w6.cell? ⟨w.heap.size, 1, none⟩ = some (.int .i64 0) := (cell_at Y2w6.out 1).trans rfl
    have g2 : w6.cell? ⟨w.heap.size, 2, none⟩ = some (.int .i64 0) := (cell_at Y2w6.out 2).trans rfl
    have e0 : w6.frozen? ⟨w.heap.size, 0, none⟩ = false := free_at Y2w6.out 0
    have e1 : w6.frozen? ⟨w.heap.size, 1, none⟩ = false := free_at Y2w6.out 1
    have e2 : w6.frozen? ⟨w.heap.size, 2, none⟩ = false := free_at Y2w6.out 2
    go_wp2
    refine bodyPost_ret (v := .agg #[.slice Ag Pt.zero.e.length cg, .int .i64 ((Pt.zero).nodes : Int), .int .i64 ((Pt.zero).deep : Int)]) ?_ rfl (PartTo.laid HE.out.1 HE.out.2 HRw6.out hlt (Nat.le_refl _) Y2w6.out P5.out)
    obtain ⟨k0, k1, k2⟩ := trip_cells (.slice Ag Pt.zero.e.length cg) (.int .i64 ((Pt.zero).nodes : Int)) (.int .i64 ((Pt.zero).deep : Int)) Y2w6.out
    clear g0 g1 g2 e0 e1 e2
    simp [results, Tryd.results85, go_sem, k0, k1, k2]
end Go.Proofs.YtgohhnbdicdenaaDoor.Ex

/- The method single of a reader. Conditions: the contracts of level and named at less fuel; a reader lies in memory. -/
namespace Go.Proofs.YtgohhnbdicdenaaDoor.Ex
open Go.ChangeShapes Go.WideShapes Go.ChangeAt Go.RowKit
open Go.Proofs.YtgohhnbdicdenaaDoor.Tr (str ret_bool ret_int Bytes Nd joinM roomM own_block)
set_option linter.unusedVariables false
set_option linter.unusedSimpArgs false

theorem single_any (f : Nat) (HL : ∀ g, g ≤ f → LevOk g) (HN : NamedOk f) : SingleOk (f + 1) := by
  intro r p r' h hok w b mv hr
  rcases Bool.eq_false_or_eq_true (r.isB lp) with h0 | h0
  · exact single_c1 f HL HN r p r' h hok w b mv hr h0
  rcases Bool.eq_false_or_eq_true (r.isB [105, 102]) with h1 | h1
  · exact single_c2 f HL HN r p r' h hok w b mv hr h0 h1
  rcases Bool.eq_false_or_eq_true (r.isB [116, 114, 117, 101]) with h2 | h2
  · exact single_c3 f HL HN r p r' h hok w b mv hr h0 h1 h2
  rcases Bool.eq_false_or_eq_true (r.isB [102, 97, 108, 115, 101]) with h3 | h3
  · exact single_c4 f HL HN r p r' h hok w b mv hr h0 h1 h2 h3
  by_cases hK2 : r.cur.kind = 2
  · exact single_c5 f HL HN r p r' h hok w b mv hr h0 h1 h2 h3 hK2
  by_cases hK1 : r.cur.kind = 1 ∧ r.cur.text ≠ []
  · exact single_c6 f HL HN r p r' h hok w b mv hr h0 h1 h2 h3 hK2 hK1
  · exact single_c7 f HL HN r p r' h hok w b mv hr h0 h1 h2 h3 hK2 hK1
end Go.Proofs.YtgohhnbdicdenaaDoor.Ex

/- The method named of a reader: its list. Conditions: the contract of level at less fuel; a reader lies in memory. -/
namespace Go.Proofs.YtgohhnbdicdenaaDoor.Ex
open Go.ChangeShapes Go.WideShapes Go.ChangeAt Go.RowKit
open Go.Proofs.YtgohhnbdicdenaaDoor.Tr (str ret_bool ret_int Bytes Nd joinM roomM own_block)
set_option linter.unusedVariables false
set_option linter.unusedSimpArgs false

/-- What named has read: the list, as it lies in memory. -/
structure NBase (w : World) (b : Nat) (mv : Nat → Value) (wr : World) (lv : Value) (L : List (Value × Pt)) (rd : Rd) : Prop where
  own : wr.ownsRow (w.heap.size + 1) 64 3 lv L.length (ptsOf L)
  pts : ∀ x ∈ L, PtW wr x
  oks : ∀ x ∈ L, x.2.ok
  h4 : wr.heap[w.heap.size]? = some (.cells #[.slice none 0 0, .int .i64 0, .int .i64 0] 64 (0, 0))
  rd_ : RdTo w wr b mv rd
/-- Behind a call that turns the reader alone. -/
theorem NBase.on {w wr w' : World} {b : Nat} {mv : Nat → Value} {lv : Value} {L : List (Value × Pt)} {rd rd' : Rd} (h : NBase w b mv wr lv L rd) (hlt : b < w.heap.size) (hr : RdTo wr w' b mv rd') : NBase w b mv w' lv L rd' :=
  ⟨own_block h.own (fun g hg => hr.grown.block g (h.own.lt g hg).2 (fun e => by have := (h.own.lt g hg).1; injection e; omega)), fun x hx => (h.pts x hx).grown h.rd_.rd hr.grown, h.oks, (hr.grown.block _ (lt_of_block h.h4) (fun e => by injection e; omega)).trans h.h4, h.rd_.trans hr⟩
/-- Behind a call that writes nothing that is there. -/
theorem NBase.over {w wr w' : World} {b : Nat} {mv : Nat → Value} {lv : Value} {L : List (Value × Pt)} {rd : Rd} (h : NBase w b mv wr lv L rd) (hb : Below wr.heap.size wr w') : NBase w b mv w' lv L rd :=
  ⟨own_block h.own (fun g hg => hb.block g (h.own.lt g hg).2), fun x hx => (h.pts x hx).below hb, h.oks, (hb.block _ (lt_of_block h.h4)).trans h.h4, h.rd_.then_below hb⟩
/-- A round has laid a part. -/
theorem NBase.step {w w4 w5 : World} {b : Nat} {mv : Nat → Value} {lv lv2 fv : Value} {L : List (Value × Pt)} {r3 : Rd} {q3 : Pt} {o5 : Obj} (h : NBase w b mv w4 lv L r3) (hpt : PtW w4 (fv, q3))
    (hg5 : (w4.alloc o5).grownBy w5 lv.ownBlock) (hown5 : w5.ownsRow (w.heap.size + 1) 64 3 lv2 (L.length + 1) (ptsOf L ++ ptCells (fv, q3))) (hlt : b < w.heap.size) (hok : q3.ok) :
    NBase w b mv w5 lv2 (L ++ [(fv, q3)]) r3 := by
  have s5 := hg5.size
  simp at s5
  have z4 := lt_of_block h.h4
  have ol : ∀ g, lv.ownBlock = some g → w.heap.size + 1 ≤ g ∧ g < w4.heap.size := fun g hg => h.own.lt g hg
  have k5 : ∀ g, g < w4.heap.size → lv.ownBlock ≠ some g → w5.heap[g]? = w4.heap[g]? := fun g h1 h2 => (hg5.block g (by simp; omega) (fun e => h2 e.symm)).trans (Below.heap_alloc _ _ _ h1)
  have tl : ∀ k, lv.ownBlock = some k → ∃ cs f, (w4.alloc o5).heap[k]? = some (Obj.cells cs 64 f) := fun k hk => by
    obtain ⟨cs, f, hc⟩ := own_type h.own k hk
    exact ⟨cs, f, (Below.heap_alloc _ _ _ (ol k hk).2).trans hc⟩
  have r5 := (h.rd_.then_below (below_new w4 o5)).rowed hg5 (fun k hk => by have := (ol k hk).1; omega) hlt
  refine ⟨by rw [List.length_append, pts_snoc]; exact hown5, ?_, ?_, ?_, r5⟩
  · intro x hx
    simp only [List.mem_append, List.mem_singleton] at hx
    rcases hx with hx | rfl
    · exact ((h.pts x hx).below (below_new w4 o5)).rowed hg5 tl (by decide)
    · exact (hpt.below (below_new w4 o5)).rowed hg5 tl (by decide)
  · intro x hx
    simp only [List.mem_append, List.mem_singleton] at hx
    rcases hx with hx | rfl
    · exact h.oks x hx
    · exact hok
  · rw [k5 _ z4 (fun e => by have := (ol _ e).1; omega)]; exact h.h4
/-- The loop's head. -/
structure NAt (w : World) (b : Nat) (mv : Nat → Value) (s : Bytes) (p : Pt) (r' : Rd) (g : Nat) (wr : World) (rr : Rd) (lv : Value) (L : List (Value × Pt)) : Prop where
  run_ : run (g + 1) (.args s (L.map Prod.snd)) rr = some (p, r')
  base : NBase w b mv wr lv L rr
  mu : 1 + ((L.map Prod.snd).map Pt.nodes).sum + L.length ≤ rr.mu
  len : 1 ≤ L.length
  okr : OkR rr
theorem args_none {g : Nat} {s : Bytes} {ps : List Pt} {p : Pt} {r1 r' : Rd} (h : run (g + 1) (.args s ps) r1 = some (p, r')) (hs : r1.isB [44] = false) : p = joined 27 0 s ps ∧ r' = r1.need rp := by
  simp only [run, hs, Bool.false_eq_true, if_false, Option.some.injEq, Prod.mk.injEq] at h
  exact ⟨h.1.symm, h.2.symm⟩
theorem args_some {g : Nat} {s : Bytes} {ps : List Pt} {p : Pt} {r1 r' : Rd} (h : run (g + 1) (.args s ps) r1 = some (p, r')) (hs : r1.isB [44] = true) : ∃ x : Pt × Rd, run g (.lev 1) r1.adv = some x ∧ run g (.args s (ps ++ [x.1])) x.2 = some (p, r') := by
  simp only [run, hs, if_true] at h
  obtain ⟨x, ha, hb⟩ := bind_some h
  exact ⟨x, ha, hb⟩
theorem joinedL_at {w : World} {b : Nat} {lv : Value} {L : List (Value × Pt)} {s : Bytes} {S : ByteArray} (hS : S = str s) (h : w.ownsRow b 64 3 lv L.length (ptsOf L)) (hp : ∀ x ∈ L, PtW w x) (ho : ∀ x ∈ L, x.2.ok) (hn : 1 + ((L.map Prod.snd).map Pt.nodes).sum + L.length ≤ 100001) :
    Calls Tryd.prog 87 #[.int .i64 27, .int .i64 0, .string S, lv] w (JoinPost w (joined 27 0 s (L.map Prod.snd))) := by
  subst hS
  have ho' : ∀ p ∈ L.map Prod.snd, p.ok := fun p hp => by
    obtain ⟨x, hx, rfl⟩ := List.mem_map.1 hp
    exact ho x hx
  exact joined_any lv (L.map Prod.snd) 27 0 s w (parts_own h (fun x hx => (hp x hx).inn)) ho' (by rw [nodes_eq, if_pos rfl, List.length_map]; omega) (by rw [List.length_map]; omega) (room_of 27 _ ho' (.inl rfl))
end Go.Proofs.YtgohhnbdicdenaaDoor.Ex

/- The method named of a reader. Conditions: the contract of level at less fuel; a reader lies in memory. -/
namespace Go.Proofs.YtgohhnbdicdenaaDoor.Ex
open Go.ChangeShapes Go.WideShapes Go.ChangeAt Go.RowKit
open Go.Proofs.YtgohhnbdicdenaaDoor.Tr (str ret_bool ret_int Bytes Nd joinM roomM own_block)
set_option linter.unusedVariables false
set_option linter.unusedSimpArgs false

set_option maxRecDepth 100000 in
set_option maxHeartbeats 4000000 in
theorem named_c1 (f : Nat) (HL : ∀ g, g ≤ f → LevOk g) (s : Bytes) (r : Rd) (p : Pt) (r' : Rd) (h : run (f + 1) (.named s) r = some (p, r')) (hok : OkR r) (hnl : r.next < r.l.length) (w : World) (b : Nat) (mv : Nat → Value) (hr : RdAt w b mv r)
    (h0 : r.adv.isB lp = false) : Calls Tryd.prog 107 #[.pointer (some ⟨b, 0, none⟩), .string (str s)] w (PartTo w b mv p r') := by
  have HLH := Lib.hid HL
  have HOK := Lib.hid hok
  have HR := Lib.hid hr
  have hlt := hr.lt
  have hnx := hok.nx
  have H := Lib.hid h
  have hadv := adv_step r hnl
  have HOK1 := Lib.hid (hok.step hadv)
  obtain ⟨lv0, hb0, _⟩ := hr.blk
  have c1 : w.cell? ⟨b, 1, none⟩ = some (.int .i64 (r.next : Int)) := rd_cell hb0 1
  have f1 : w.frozen? ⟨b, 1, none⟩ = false := rd_free hb0 1
  obtain ⟨wa, hwa⟩ : ∃ wa, (w.setCell ⟨b, 1, none⟩ (.int .i64 ((r.next : Int) + 1))).alloc (.cells #[.slice none 0 0, .int .i64 0, .int .i64 0] 64) = wa := ⟨_, rfl⟩
  have HRA : Hid (RdTo w wa b mv r.adv) := Lib.hid (by rw [← hwa]; exact hr.advTo.then_below (below_new _ _))
  have Y2 : Hid (wa.heap[w.heap.size]? = some (.cells #[.slice none 0 0, .int .i64 0, .int .i64 0] 64 (0, 0))) := Lib.hid (by rw [← hwa]; exact new_blk (by simp))
  have HWA := Lib.hid hwa
  clear HL hok hr h hadv hb0 hwa
  go_enter Tryd.func107, Tryd.ntmps107
  go_wp2_with fail
  rw [HWA.out]
  have HRwa := HRA
  have Y2wa := Y2
  have HE : Hid (p = joined 3 0 s [] ∧ r' = r.adv) := Lib.hid (by
    have := H.out
    simp only [run, h0, if_false, Bool.false_eq_true, Option.some.injEq, Prod.mk.injEq] at this
    exact ⟨this.1.symm, this.2.symm⟩)
  refine (take_at (s := lp) (B := false) rfl h0 (HRwa.out.rd) HOK1.out.nx).mono ?_
  rintro e wt0 ⟨rfl, hrd⟩
  have HRwt0 : Hid (RdTo w wt0 b mv r.adv) := Lib.hid (HRwa.out.trans hrd)
  have Y2wt0 := Lib.hid (stay hrd.grown Y2wa.out (by omega))
  clear hrd
  go_wp2_with fail
  refine (joined0_at (s := s) rfl).mono ?_
  rintro e w5 ⟨gv, rfl, hpt5, hb5⟩
  have P5 := Lib.hid hpt5
  have HRw5 := Lib.hid (HRwt0.out.then_below hb5)
  have Y2w5 := Lib.hid (stayB hb5 Y2wt0.out)
  obtain ⟨⟨Ag, cg, hgv, v1, v2, -⟩, -⟩ := hpt5
  simp only at hgv v1
  subst hgv
  unfold maxLen at v2
  clear hb5
  have g0 : w5.cell? ⟨w.heap.size, 0, none⟩ = some (.slice none 0 0) := (cell_at Y2w5.out 0).trans rfl
  have g1 : w5.cell? ⟨w.heap.size, 1, none⟩ = some (.int .i64 0) := (cell_at Y2w5.out 1).trans rfl
  have g2 : w5.cell? ⟨w.heap.size, 2, none⟩ = some (.int .i64 0) := (cell_at Y2w5.out 2).trans rfl
  have e0 : w5.frozen? ⟨w.heap.size, 0, none⟩ = false := free_at Y2w5.out 0
  have e1 : w5.frozen? ⟨w.heap.size, 1, none⟩ = false := free_at Y2w5.out 1
  have e2 : w5.frozen? ⟨w.heap.size, 2, none⟩ = false := free_at Y2w5.out 2
  go_wp2
  refine bodyPost_ret (v := .agg #[.slice Ag (joined 3 0 s []).e.length cg, .int .i64 ((joined 3 0 s []).nodes : Int), .int .i64 ((joined 3 0 s []).deep : Int)]) ?_ rfl (PartTo.laid HE.out.1 HE.out.2 HRw5.out hlt (Nat.le_refl _) Y2w5.out P5.out)
  obtain ⟨k0, k1, k2⟩ := trip_cells (.slice Ag (joined 3 0 s []).e.length cg) (.int .i64 ((joined 3 0 s []).nodes : Int)) (.int .i64 ((joined 3 0 s []).deep : Int)) Y2w5.out
  clear g0 g1 g2 e0 e1 e2
  simp [results, Tryd.results107, go_sem, k0, k1, k2]
end Go.Proofs.YtgohhnbdicdenaaDoor.Ex

/- The method named of a reader. Conditions: the contract of level at less fuel; a reader lies in memory. -/
namespace Go.Proofs.YtgohhnbdicdenaaDoor.Ex
open Go.ChangeShapes Go.WideShapes Go.ChangeAt Go.RowKit
open Go.Proofs.YtgohhnbdicdenaaDoor.Tr (str ret_bool ret_int Bytes Nd joinM roomM own_block)
set_option linter.unusedVariables false
set_option linter.unusedSimpArgs false

set_option maxRecDepth 100000 in
set_option maxHeartbeats 4000000 in
theorem named_c2 (f : Nat) (HL : ∀ g, g ≤ f → LevOk g) (s : Bytes) (r : Rd) (p : Pt) (r' : Rd) (h : run (f + 1) (.named s) r = some (p, r')) (hok : OkR r) (hnl : r.next < r.l.length) (w : World) (b : Nat) (mv : Nat → Value) (hr : RdAt w b mv r)
    (h0 : r.adv.isB lp = true) (h1 : r.adv.adv.isB rp = true) : Calls Tryd.prog 107 #[.pointer (some ⟨b, 0, none⟩), .string (str s)] w (PartTo w b mv p r') := by
  have HLH := Lib.hid HL
  have HOK := Lib.hid hok
  have HR := Lib.hid hr
  have hlt := hr.lt
  have hnx := hok.nx
  have H := Lib.hid h
  have hadv := adv_step r hnl
  have HOK1 := Lib.hid (hok.step hadv)
  obtain ⟨lv0, hb0, _⟩ := hr.blk
  have c1 : w.cell? ⟨b, 1, none⟩ = some (.int .i64 (r.next : Int)) := rd_cell hb0 1
  have f1 : w.frozen? ⟨b, 1, none⟩ = false := rd_free hb0 1
  obtain ⟨wa, hwa⟩ : ∃ wa, (w.setCell ⟨b, 1, none⟩ (.int .i64 ((r.next : Int) + 1))).alloc (.cells #[.slice none 0 0, .int .i64 0, .int .i64 0] 64) = wa := ⟨_, rfl⟩
  have HRA : Hid (RdTo w wa b mv r.adv) := Lib.hid (by rw [← hwa]; exact hr.advTo.then_below (below_new _ _))
  have Y2 : Hid (wa.heap[w.heap.size]? = some (.cells #[.slice none 0 0, .int .i64 0, .int .i64 0] 64 (0, 0))) := Lib.hid (by rw [← hwa]; exact new_blk (by simp))
  have HWA := Lib.hid hwa
  clear HL hok hr h hadv hb0 hwa
  go_enter Tryd.func107, Tryd.ntmps107
  go_wp2_with fail
  rw [HWA.out]
  have HRwa := HRA
  have Y2wa := Y2
  have HE : Hid (p = joined 27 0 s [] ∧ r' = r.adv.adv.adv) := Lib.hid (by
    have := H.out
    simp only [run, h0, h1, if_true, Option.some.injEq, Prod.mk.injEq] at this
    exact ⟨this.1.symm, this.2.symm⟩)
  have HOK2 := Lib.hid (HOK1.out.step (adv_step r.adv (isB_lt h0)))
  refine (take_at (s := lp) (B := true) rfl h0 (HRwa.out.rd) HOK1.out.nx).mono ?_
  rintro e wt0 ⟨rfl, hrd⟩
  have HRwt0 : Hid (RdTo w wt0 b mv r.adv.adv) := Lib.hid (HRwa.out.trans hrd)
  have Y2wt0 := Lib.hid (stay hrd.grown Y2wa.out (by omega))
  clear hrd
  go_wp2_with fail
  refine (take_at (s := rp) (B := true) rfl h1 (HRwt0.out.rd) HOK2.out.nx).mono ?_
  rintro e wt1 ⟨rfl, hrd⟩
  have HRwt1 : Hid (RdTo w wt1 b mv r.adv.adv.adv) := Lib.hid (HRwt0.out.trans hrd)
  have Y2wt1 := Lib.hid (stay hrd.grown Y2wt0.out (by omega))
  clear hrd
  go_wp2_with fail
  refine (joined0_at (s := s) rfl).mono ?_
  rintro e w5 ⟨gv, rfl, hpt5, hb5⟩
  have P5 := Lib.hid hpt5
  have HRw5 := Lib.hid (HRwt1.out.then_below hb5)
  have Y2w5 := Lib.hid (stayB hb5 Y2wt1.out)
  obtain ⟨⟨Ag, cg, hgv, v1, v2, -⟩, -⟩ := hpt5
  simp only at hgv v1
  subst hgv
  unfold maxLen at v2
  clear hb5
  have g0 : w5.cell? ⟨w.heap.size, 0, none⟩ = some (.slice none 0 0) := (cell_at Y2w5.out 0).trans rfl
  have g1 : w5.cell? ⟨w.heap.size, 1, none⟩ = some (.int .i64 0) := (cell_at Y2w5.out 1).trans rfl
  have g2 : w5.cell? ⟨w.heap.size, 2, none⟩ = some (.int .i64 0) := (cell_at Y2w5.out 2).trans rfl
  have e0 : w5.frozen? ⟨w.heap.size, 0, none⟩ = false := free_at Y2w5.out 0
  have e1 : w5.frozen? ⟨w.heap.size, 1, none⟩ = false := free_at Y2w5.out 1
  have e2 : w5.frozen? ⟨w.heap.size, 2, none⟩ = false := free_at Y2w5.out 2
  go_wp2
  refine bodyPost_ret (v := .agg #[.slice Ag (joined 27 0 s []).e.length cg, .int .i64 ((joined 27 0 s []).nodes : Int), .int .i64 ((joined 27 0 s []).deep : Int)]) ?_ rfl (PartTo.laid HE.out.1 HE.out.2 HRw5.out hlt (Nat.le_refl _) Y2w5.out P5.out)
  obtain ⟨k0, k1, k2⟩ := trip_cells (.slice Ag (joined 27 0 s []).e.length cg) (.int .i64 ((joined 27 0 s []).nodes : Int)) (.int .i64 ((joined 27 0 s []).deep : Int)) Y2w5.out
  clear g0 g1 g2 e0 e1 e2
  simp [results, Tryd.results107, go_sem, k0, k1, k2]
end Go.Proofs.YtgohhnbdicdenaaDoor.Ex

/- The method named of a reader. Conditions: the contract of level at less fuel; a reader lies in memory. -/
namespace Go.Proofs.YtgohhnbdicdenaaDoor.Ex
open Go.ChangeShapes Go.WideShapes Go.ChangeAt Go.RowKit
open Go.Proofs.YtgohhnbdicdenaaDoor.Tr (str ret_bool ret_int Bytes Nd joinM roomM own_block)
set_option linter.unusedVariables false
set_option linter.unusedSimpArgs false

set_option maxRecDepth 100000 in
set_option maxHeartbeats 4000000 in
theorem named_c3 (f : Nat) (HL : ∀ g, g ≤ f → LevOk g) (s : Bytes) (r : Rd) (p : Pt) (r' : Rd) (h : run (f + 1) (.named s) r = some (p, r')) (hok : OkR r) (hnl : r.next < r.l.length) (w : World) (b : Nat) (mv : Nat → Value) (hr : RdAt w b mv r)
    (h0 : r.adv.isB lp = true) (h1 : r.adv.adv.isB rp = false) : Calls Tryd.prog 107 #[.pointer (some ⟨b, 0, none⟩), .string (str s)] w (PartTo w b mv p r') := by
  have HLH := Lib.hid HL
  have HOK := Lib.hid hok
  have HR := Lib.hid hr
  have hlt := hr.lt
  have hnx := hok.nx
  have H := Lib.hid h
  have hadv := adv_step r hnl
  have HOK1 := Lib.hid (hok.step hadv)
  obtain ⟨lv0, hb0, _⟩ := hr.blk
  have c1 : w.cell? ⟨b, 1, none⟩ = some (.int .i64 (r.next : Int)) := rd_cell hb0 1
  have f1 : w.frozen? ⟨b, 1, none⟩ = false := rd_free hb0 1
  obtain ⟨wa, hwa⟩ : ∃ wa, (w.setCell ⟨b, 1, none⟩ (.int .i64 ((r.next : Int) + 1))).alloc (.cells #[.slice none 0 0, .int .i64 0, .int .i64 0] 64) = wa := ⟨_, rfl⟩
  have HRA : Hid (RdTo w wa b mv r.adv) := Lib.hid (by rw [← hwa]; exact hr.advTo.then_below (below_new _ _))
  have Y2 : Hid (wa.heap[w.heap.size]? = some (.cells #[.slice none 0 0, .int .i64 0, .int .i64 0] 64 (0, 0))) := Lib.hid (by rw [← hwa]; exact new_blk (by simp))
  have HWA := Lib.hid hwa
  clear HL hok hr h hadv hb0 hwa
  go_enter Tryd.func107, Tryd.ntmps107
  go_wp2_with fail
  rw [HWA.out]
  have HRwa := HRA
  have Y2wa := Y2
  obtain ⟨⟨q, r1⟩, k1, k2⟩ : ∃ x : Pt × Rd, run f (.lev 1) r.adv.adv = some x ∧ run f (.args s [x.1]) x.2 = some (p, r') := by
    have := H.out
    simp only [run, h0, h1, if_true, if_false, Bool.false_eq_true] at this
    obtain ⟨x, ha, hb⟩ := bind_some this
    exact ⟨x, ha, hb⟩
  have hadv2 := adv_step r.adv (isB_lt h0)
  have HOK2 := Lib.hid (HOK1.out.step hadv2)
  obtain ⟨st1, ok1, mu1⟩ := run_step _ _ _ _ _ k1 HOK2.out.fine (by simp [Task.pre])
  have HOK3 := Lib.hid (HOK2.out.step st1)
  have hq1 : 2 + q.nodes ≤ r1.mu := by
    have e1 := adv_mu r.adv; have e2 := adv_mu r
    simp only [Task.base] at mu1
    omega
  have HK1 := Lib.hid k1
  have HK2 := Lib.hid k2
  have HO1 := Lib.hid ok1
  obtain ⟨i1, hi', hz0', hz1', hz2'⟩ := info_parts info64
  clear k1 k2 hadv2 st1 ok1 mu1
  refine (take_at (s := lp) (B := true) rfl h0 (HRwa.out.rd) HOK1.out.nx).mono ?_
  rintro e wt0 ⟨rfl, hrd⟩
  have HRwt0 : Hid (RdTo w wt0 b mv r.adv.adv) := Lib.hid (HRwa.out.trans hrd)
  have Y2wt0 := Lib.hid (stay hrd.grown Y2wa.out (by omega))
  clear hrd
  go_wp2_with fail
  refine (take_at (s := rp) (B := false) rfl h1 (HRwt0.out.rd) HOK2.out.nx).mono ?_
  rintro e wt1 ⟨rfl, hrd⟩
  have HRwt1 : Hid (RdTo w wt1 b mv r.adv.adv) := Lib.hid (HRwt0.out.trans hrd)
  have Y2wt1 := Lib.hid (stay hrd.grown Y2wt0.out (by omega))
  clear hrd
  go_wp2_with fail
  refine (lev_at (i := 1) (n := 1) (HLH.out f (Nat.le_refl _)) HK1.out rfl (by omega) (by omega) HOK2.out (HRwt1.out.rd)).mono ?_
  rintro e w3 ⟨evw3, rfl, hpt, hrd⟩
  have Pw3 := Lib.hid hpt
  have HRw3 : Hid (RdTo w w3 b mv r1) := Lib.hid (HRwt1.out.trans hrd)
  have Y2w3 := Lib.hid (stay hrd.grown Y2wt1.out (by omega))
  obtain ⟨⟨Aw3, cw3, hev, u1w3, u2w3, -⟩, -⟩ := hpt
  simp only at hev u1w3
  subst hev
  unfold maxLen at u2w3
  have hltw3 : w.heap.size < w3.heap.size := lt_of_block Y2w3.out
  have HB : Hid (NBase w b mv (w3.alloc (.cells #[.slice Aw3 q.e.length cw3, .int .i64 (q.nodes : Int), .int .i64 (q.deep : Int)] 64)) (.slice (some ⟨w3.heap.size, 0, none⟩) 1 1) [(.slice Aw3 q.e.length cw3, q)] r1) := Lib.hid
    ⟨⟨by simp [ptsOf, ptCells], .inr ⟨w3.heap.size, 1, _, rfl, by omega, heap_alloc_new w3 _, Nat.le_refl _, by unfold maxLen; omega, by simp, by simp [ptsOf, ptCells]⟩⟩,
      by intro x hx; simp at hx; subst hx; exact Pw3.out.below (below_new w3 _),
      by intro x hx; simp at hx; subst hx; exact HO1.out, stayA Y2w3.out, HRw3.out.then_below (below_new w3 _)⟩
  clear hrd
  cases f with
  | zero => have := HK2.out; simp [run] at this
  | succ f =>
  go_wp2
  go_loopg [5] f (fun g s5 wr => ∃ (rr : Rd) (lv : Value) (L : List (Value × Pt)), g ≤ f ∧ lv = s5 ∧ NAt w b mv s p r' g wr rr lv L)
  case atStart =>
    exact ⟨r1, _, [(.slice Aw3 q.e.length cw3, q)], Nat.le_refl _, rfl, ⟨HK2.out, HB.out, by simp; omega, by simp, HOK3.out⟩⟩
  case round =>
    obtain ⟨rr, lv, L, hgf, rfl, hat⟩ := hrel
    have HAT := Lib.hid hat
    have hmu := hat.mu
    have hmur := hat.okr.mu
    have HLEN := Lib.hid hat.len
    have hlen2 : L.length ≤ 100001 := by omega
    have hws := hat.base.rd_.grown.size
    have z4 := lt_of_block hat.base.h4
    clear hat
    rcases Bool.eq_false_or_eq_true (rr.isB [44]) with hc | hc
    · obtain ⟨⟨q3, r3⟩, k1, k2⟩ := args_some HAT.out.run_ hc
      have hadv3 := adv_step rr (isB_lt hc)
      obtain ⟨st3, ok3, mu3⟩ := run_step _ _ _ _ _ k1 (hadv3.fine HAT.out.okr.fine) (by simp [Task.pre])
      have HOKA := Lib.hid (HAT.out.okr.step hadv3)
      have HOKB := Lib.hid ((HAT.out.okr.step hadv3).step st3)
      have HO3 := Lib.hid ok3
      have hq3 : q3.nodes + rr.adv.mu ≤ r3.mu := by simpa [Task.base] using mu3
      have hm3 := HOKB.out.mu
      have hadm := adv_mu rr
      have HKA := Lib.hid k1
      have HKB := Lib.hid k2
      clear hadv3 k1 k2 st3 ok3 mu3
      go_wp2_with fail
      refine (take_at (s := [44]) (B := true) rfl hc (HAT.out.base.rd_.rd) HAT.out.okr.nx).mono ?_
      rintro e w6 ⟨rfl, hrd6⟩
      have HB6 := Lib.hid (HAT.out.base.on hlt hrd6)
      have hs6 := hrd6.grown.size
      clear hrd6
      go_wp2_with fail
      refine (lev_at (i := 1) (n := 1) (HLH.out gk (by omega)) HKA.out rfl (by omega) (by omega) HOKA.out (HB6.out.rd_.rd)).mono ?_
      rintro e w7 ⟨fv, rfl, hpt7, hrd7⟩
      have HPT7 := Lib.hid hpt7
      have HB7 := Lib.hid (HB6.out.on hlt hrd7)
      have hs7 := hrd7.grown.size
      obtain ⟨⟨Af, cf, hfv, u1, u2, -⟩, -⟩ := hpt7
      simp only at hfv u1
      subst hfv
      unfold maxLen at u2
      clear hrd7
      go_wp2_with (at_builtin; refine wpList_append_own _ rfl (.tmp 27) (.tmp 30) 107 rfl (w.heap.size + 1) 64 i1 _ 3 40 Tryd.underlying107 hi' hz0' hz1' hz2' rfl (by decide) lv L.length (ptsOf L) rfl (HB7.out.own.alloc _) ⟨w7.heap.size, 0, none⟩ 1 1 (ptCells (.slice Af q3.e.length cf, q3)) rfl rfl ?newb ?oneb ?lenb ?bytb ?basb ?_)
      case newb => first | exact (fun j u h => h) | exact news_new _ #[.slice Af q3.e.length cf, .int .i64 (q3.nodes : Int), .int .i64 (q3.deep : Int)] _ (ptCells (.slice Af q3.e.length cf, q3)) rfl rfl
      case oneb => simp [ptCells, Value.oneCell']
      case lenb => unfold maxLen; omega
      case bytb => omega
      case basb => simp; omega
      intro lv2 w8 hown8 hg8 _
      have HB8 := Lib.hid (HB7.out.step HPT7.out hg8 hown8 hlt HO3.out)
      clear hown8 hg8
      cases gk with
      | zero => have := HKB.out; simp [run] at this
      | succ gk =>
      go_wp2
      go_roundg gk
      case measure => omega
      case rel => exact ⟨r3, lv2, L ++ [(.slice Af q3.e.length cf, q3)], by omega, rfl, ⟨by simpa using HKB.out, HB8.out, by simp; simp at hmu; omega, by simp, HOKB.out⟩⟩
    · have HE := Lib.hid (args_none HAT.out.run_ hc)
      obtain ⟨Al, cl, rfl, l1, l2, -⟩ := own_slice HAT.out.base.own
      have hnd := HAT.out.mu
      go_wp2_with fail
      refine (take_at (s := [44]) (B := false) rfl hc (HAT.out.base.rd_.rd) HAT.out.okr.nx).mono ?_
      rintro e w6 ⟨rfl, hrd6⟩
      have HB6 := Lib.hid (HAT.out.base.on hlt hrd6)
      clear hrd6
      go_wp2_with fail
      refine (need_at (s := rp) rfl (HB6.out.rd_.rd) HAT.out.okr.nx).mono ?_
      rintro e w7 ⟨rfl, hrd7⟩
      have HB7 := Lib.hid (HB6.out.on hlt hrd7)
      clear hrd7
      go_wp2_with fail
      refine (joinedL_at (s := s) (L := L) rfl HB7.out.own HB7.out.pts HB7.out.oks (by omega)).mono ?_
      rintro e w5 ⟨gv, rfl, hpt5, hb5⟩
      have P5 := Lib.hid hpt5
      have HB5 := Lib.hid (HB7.out.over hb5)
      have HRw5 := Lib.hid HB5.out.rd_
      have Y2w5 := Lib.hid HB5.out.h4
      obtain ⟨⟨Ag, cg, hgv, v1, v2, -⟩, -⟩ := hpt5
      simp only at hgv v1
      subst hgv
      unfold maxLen at v2
      clear hb5
      have g0 : w5.cell? ⟨w.heap.size, 0, none⟩ = some (.slice none 0 0) := (cell_at Y2w5.out 0).trans rfl
      have g1 : w5.cell? ⟨w.heap.size, 1, none⟩ = some (.int .i64 0) := (cell_at Y2w5.out 1).trans rfl
      have g2 : w5.cell? ⟨w.heap.size, 2, none⟩ = some (.int .i64 0) := (cell_at Y2w5.out 2).trans rfl
      have e0 : w5.frozen? ⟨w.heap.size, 0, none⟩ = false := free_at Y2w5.out 0
      have e1 : w5.frozen? ⟨w.heap.size, 1, none⟩ = false := free_at Y2w5.out 1
      have e2 : w5.frozen? ⟨w.heap.size, 2, none⟩ = false := free_at Y2w5.out 2
      go_wp2
      refine bodyPost_ret (v := .agg #[.slice Ag (joined 27 0 s (L.map Prod.snd)).e.length cg, .int .i64 ((joined 27 0 s (L.map Prod.snd)).nodes : Int), .int .i64 ((joined 27 0 s (L.map Prod.snd)).deep : Int)]) ?_ rfl (PartTo.laid HE.out.1 HE.out.2 HRw5.out hlt (Nat.le_refl _) Y2w5.out P5.out)
      obtain ⟨k0, k1, k2⟩ := trip_cells (.slice Ag (joined 27 0 s (L.map Prod.snd)).e.length cg) (.int .i64 ((joined 27 0 s (L.map Prod.snd)).nodes : Int)) (.int .i64 ((joined 27 0 s (L.map Prod.snd)).deep : Int)) Y2w5.out
      clear g0 g1 g2 e0 e1 e2
      simp [results, Tryd.results107, go_sem, k0, k1, k2]
end Go.Proofs.YtgohhnbdicdenaaDoor.Ex

/- The method named of a reader. Conditions: the contract of level at less fuel; a reader lies in memory. -/
namespace Go.Proofs.YtgohhnbdicdenaaDoor.Ex
open Go.ChangeShapes Go.WideShapes Go.ChangeAt Go.RowKit
open Go.Proofs.YtgohhnbdicdenaaDoor.Tr (str ret_bool ret_int Bytes Nd joinM roomM own_block)
set_option linter.unusedVariables false
set_option linter.unusedSimpArgs false

theorem named_any (f : Nat) (HL : ∀ g, g ≤ f → LevOk g) : NamedOk (f + 1) := by
  intro s r p r' h hok hnl w b mv hr
  rcases Bool.eq_false_or_eq_true (r.adv.isB lp) with h0 | h0
  · rcases Bool.eq_false_or_eq_true (r.adv.adv.isB rp) with h1 | h1
    · exact named_c2 f HL s r p r' h hok hnl w b mv hr h0 h1
    · exact named_c3 f HL s r p r' h hok hnl w b mv hr h0 h1
  · exact named_c1 f HL s r p r' h hok hnl w b mv hr h0
end Go.Proofs.YtgohhnbdicdenaaDoor.Ex

/- The method level of a reader, and all of them together. Conditions: a reader lies in memory. -/
namespace Go.Proofs.YtgohhnbdicdenaaDoor.Ex
open Go.ChangeShapes Go.WideShapes Go.ChangeAt Go.RowKit
open Go.Proofs.YtgohhnbdicdenaaDoor.Tr (str ret_bool ret_int Bytes Nd joinM roomM own_block)
set_option linter.unusedVariables false
set_option linter.unusedSimpArgs false

set_option maxRecDepth 100000 in
set_option maxHeartbeats 4000000 in
theorem level_c1 (f : Nat) (n : Nat) (r : Rd) (p : Pt) (r' : Rd) (hok : OkR r) (w : World) (b : Nat) (mv : Nat → Value) (hr : RdAt w b mv r)
    (HO : OpndOk f) (hn : n = 9) (h : run f .opnd r = some (p, r')) : Calls Tryd.prog 35 #[.pointer (some ⟨b, 0, none⟩), .int .i64 (n : Int)] w (PartTo w b mv p r') := by
  have HOK := Lib.hid hok
  have HR := Lib.hid (hr.below (below_new w (.cells #[.slice none 0 0, .int .i64 0, .int .i64 0] 64)))
  have hlt := hr.lt
  have hd : ((n : Int) == 9) = true := by rw [hn]; rfl
  have HOH := Lib.hid HO
  have H := Lib.hid h
  clear HO h hn
  clear hok hr
  go_enter Tryd.func35, Tryd.ntmps35
  go_wp2_with fail
  refine (HOH.out r p r' H.out HOK.out _ b mv HR.out).mono ?_
  rintro e w5 ⟨gv, rfl, hpt5, hrd5⟩
  have P5 := Lib.hid hpt5
  have HRw5 := Lib.hid (RdTo.below (below_new w _) hlt hrd5)
  have Y2w5 := Lib.hid (stay hrd5.grown (heap_alloc_new w (.cells #[.slice none 0 0, .int .i64 0, .int .i64 0] 64)) (by omega))
  obtain ⟨⟨Ag, cg, hgv, v1, v2, -⟩, -⟩ := hpt5
  simp only at hgv v1
  subst hgv
  unfold maxLen at v2
  clear hrd5
  have g0 : w5.cell? ⟨w.heap.size, 0, none⟩ = some (.slice none 0 0) := (cell_at Y2w5.out 0).trans rfl
  have g1 : w5.cell? ⟨w.heap.size, 1, none⟩ = some (.int .i64 0) := (cell_at Y2w5.out 1).trans rfl
  have g2 : w5.cell? ⟨w.heap.size, 2, none⟩ = some (.int .i64 0) := (cell_at Y2w5.out 2).trans rfl
  have e0 : w5.frozen? ⟨w.heap.size, 0, none⟩ = false := free_at Y2w5.out 0
  have e1 : w5.frozen? ⟨w.heap.size, 1, none⟩ = false := free_at Y2w5.out 1
  have e2 : w5.frozen? ⟨w.heap.size, 2, none⟩ = false := free_at Y2w5.out 2
  go_wp2
  refine bodyPost_ret (v := .agg #[.slice Ag p.e.length cg, .int .i64 (p.nodes : Int), .int .i64 (p.deep : Int)]) ?_ rfl (PartTo.laid rfl rfl HRw5.out hlt (Nat.le_refl _) Y2w5.out P5.out)
  obtain ⟨k0, k1, k2⟩ := trip_cells (.slice Ag p.e.length cg) (.int .i64 (p.nodes : Int)) (.int .i64 (p.deep : Int)) Y2w5.out
  clear g0 g1 g2 e0 e1 e2
  simp [results, Tryd.results35, go_sem, k0, k1, k2]
set_option maxRecDepth 100000 in
set_option maxHeartbeats 4000000 in
theorem level_c2 (f : Nat) (n : Nat) (r : Rd) (p : Pt) (r' : Rd) (hok : OkR r) (w : World) (b : Nat) (mv : Nat → Value) (hr : RdAt w b mv r)
    (HL : ∀ g, g ≤ f → LevOk g) (hn1 : 1 ≤ n) (hn : n ≤ 2) (q : Pt) (r1 : Rd) (h1 : run f (.lev (n + 1)) r = some (q, r1)) (h2 : run f (.rl n [q] []) r1 = some (p, r')) : Calls Tryd.prog 35 #[.pointer (some ⟨b, 0, none⟩), .int .i64 (n : Int)] w (PartTo w b mv p r') := by
  have HOK := Lib.hid hok
  have HR := Lib.hid (hr.below (below_new w (.cells #[.slice none 0 0, .int .i64 0, .int .i64 0] 64)))
  have hlt := hr.lt
  have hd : ((n : Int) == 9) = false := by rw [beq_eq_false_iff_ne]; omega
  have hd2 : decide ((n : Int) ≤ 2) = true := by rw [decide_eq_true_iff]; omega
  have HLH := Lib.hid HL
  have H1 := Lib.hid h1
  have H2 := Lib.hid h2
  clear HL h1 h2
  clear hok hr
  go_enter Tryd.func35, Tryd.ntmps35
  go_wp2_with fail
  refine (right_any f HLH.out n (by omega) (by omega) r r1 r' q p H1.out H2.out HOK.out _ b mv HR.out).mono ?_
  rintro e w5 ⟨gv, rfl, hpt5, hrd5⟩
  have P5 := Lib.hid hpt5
  have HRw5 := Lib.hid (RdTo.below (below_new w _) hlt hrd5)
  have Y2w5 := Lib.hid (stay hrd5.grown (heap_alloc_new w (.cells #[.slice none 0 0, .int .i64 0, .int .i64 0] 64)) (by omega))
  obtain ⟨⟨Ag, cg, hgv, v1, v2, -⟩, -⟩ := hpt5
  simp only at hgv v1
  subst hgv
  unfold maxLen at v2
  clear hrd5
  have g0 : w5.cell? ⟨w.heap.size, 0, none⟩ = some (.slice none 0 0) := (cell_at Y2w5.out 0).trans rfl
  have g1 : w5.cell? ⟨w.heap.size, 1, none⟩ = some (.int .i64 0) := (cell_at Y2w5.out 1).trans rfl
  have g2 : w5.cell? ⟨w.heap.size, 2, none⟩ = some (.int .i64 0) := (cell_at Y2w5.out 2).trans rfl
  have e0 : w5.frozen? ⟨w.heap.size, 0, none⟩ = false := free_at Y2w5.out 0
  have e1 : w5.frozen? ⟨w.heap.size, 1, none⟩ = false := free_at Y2w5.out 1
  have e2 : w5.frozen? ⟨w.heap.size, 2, none⟩ = false := free_at Y2w5.out 2
  go_wp2
  refine bodyPost_ret (v := .agg #[.slice Ag p.e.length cg, .int .i64 (p.nodes : Int), .int .i64 (p.deep : Int)]) ?_ rfl (PartTo.laid rfl rfl HRw5.out hlt (Nat.le_refl _) Y2w5.out P5.out)
  obtain ⟨k0, k1, k2⟩ := trip_cells (.slice Ag p.e.length cg) (.int .i64 (p.nodes : Int)) (.int .i64 (p.deep : Int)) Y2w5.out
  clear g0 g1 g2 e0 e1 e2
  simp [results, Tryd.results35, go_sem, k0, k1, k2]
set_option maxRecDepth 100000 in
set_option maxHeartbeats 4000000 in
theorem level_c3 (f : Nat) (n : Nat) (r : Rd) (p : Pt) (r' : Rd) (hok : OkR r) (w : World) (b : Nat) (mv : Nat → Value) (hr : RdAt w b mv r)
    (HL : ∀ g, g ≤ f → LevOk g) (hn3 : 3 ≤ n) (hn : n ≤ 8) (q : Pt) (r1 : Rd) (h1 : run f (.lev (n + 1)) r = some (q, r1)) (h2 : run f (.ll n q) r1 = some (p, r')) : Calls Tryd.prog 35 #[.pointer (some ⟨b, 0, none⟩), .int .i64 (n : Int)] w (PartTo w b mv p r') := by
  have HOK := Lib.hid hok
  have HR := Lib.hid (hr.below (below_new w (.cells #[.slice none 0 0, .int .i64 0, .int .i64 0] 64)))
  have hlt := hr.lt
  have hd : ((n : Int) == 9) = false := by rw [beq_eq_false_iff_ne]; omega
  have hd2 : decide ((n : Int) ≤ 2) = false := by rw [decide_eq_false_iff_not]; omega
  have HLH := Lib.hid HL
  have H1 := Lib.hid h1
  have H2 := Lib.hid h2
  clear HL h1 h2
  clear hok hr
  go_enter Tryd.func35, Tryd.ntmps35
  go_wp2_with fail
  refine (left_any f HLH.out n (by omega) (by omega) r r1 r' q p H1.out H2.out HOK.out _ b mv HR.out).mono ?_
  rintro e w5 ⟨gv, rfl, hpt5, hrd5⟩
  have P5 := Lib.hid hpt5
  have HRw5 := Lib.hid (RdTo.below (below_new w _) hlt hrd5)
  have Y2w5 := Lib.hid (stay hrd5.grown (heap_alloc_new w (.cells #[.slice none 0 0, .int .i64 0, .int .i64 0] 64)) (by omega))
  obtain ⟨⟨Ag, cg, hgv, v1, v2, -⟩, -⟩ := hpt5
  simp only at hgv v1
  subst hgv
  unfold maxLen at v2
  clear hrd5
  have g0 : w5.cell? ⟨w.heap.size, 0, none⟩ = some (.slice none 0 0) := (cell_at Y2w5.out 0).trans rfl
  have g1 : w5.cell? ⟨w.heap.size, 1, none⟩ = some (.int .i64 0) := (cell_at Y2w5.out 1).trans rfl
  have g2 : w5.cell? ⟨w.heap.size, 2, none⟩ = some (.int .i64 0) := (cell_at Y2w5.out 2).trans rfl
  have e0 : w5.frozen? ⟨w.heap.size, 0, none⟩ = false := free_at Y2w5.out 0
  have e1 : w5.frozen? ⟨w.heap.size, 1, none⟩ = false := free_at Y2w5.out 1
  have e2 : w5.frozen? ⟨w.heap.size, 2, none⟩ = false := free_at Y2w5.out 2
  go_wp2
  refine bodyPost_ret (v := .agg #[.slice Ag p.e.length cg, .int .i64 (p.nodes : Int), .int .i64 (p.deep : Int)]) ?_ rfl (PartTo.laid rfl rfl HRw5.out hlt (Nat.le_refl _) Y2w5.out P5.out)
  obtain ⟨k0, k1, k2⟩ := trip_cells (.slice Ag p.e.length cg) (.int .i64 (p.nodes : Int)) (.int .i64 (p.deep : Int)) Y2w5.out
  clear g0 g1 g2 e0 e1 e2
  simp [results, Tryd.results35, go_sem, k0, k1, k2]
theorem level_any (f : Nat) (HL : ∀ g, g ≤ f → LevOk g) (HO : OpndOk f) : LevOk (f + 1) := by
  intro n r p r' h hn1 hn9 hok w b mv hr
  by_cases h9 : n = 9
  · exact level_c1 f n r p r' hok w b mv hr HO h9 (by simp only [run] at h; rwa [if_pos h9] at h)
  · simp only [run] at h
    rw [if_neg h9] at h
    obtain ⟨⟨q, r1⟩, h1, h2⟩ := bind_some h
    by_cases hn2 : n ≤ 2
    · rw [if_pos hn2] at h2
      exact level_c2 f n r p r' hok w b mv hr HL hn1 hn2 q r1 h1 h2
    · rw [if_neg hn2] at h2
      exact level_c3 f n r p r' hok w b mv hr HL (by omega) (by omega) q r1 h1 h2
structure AllOk (f : Nat) : Prop where
  lev : LevOk f
  opnd : OpndOk f
  single : SingleOk f
  named : NamedOk f
theorem all_ok (f : Nat) : AllOk f := by
  induction f using Nat.strongRecOn with
  | _ f ih =>
    cases f with
    | zero =>
      exact ⟨fun n r p r' h => by simp [run] at h, fun r p r' h => by simp [run] at h, fun r p r' h => by simp [run] at h, fun s r p r' h => by simp [run] at h⟩
    | succ f =>
      have HL : ∀ g, g ≤ f → LevOk g := fun g hg => (ih g (by omega)).lev
      have I := ih f (by omega)
      exact ⟨level_any f HL I.opnd, opnd_any f I.opnd I.single, single_any f HL I.named, named_any f HL⟩
theorem lev_ok (f : Nat) : LevOk f := (all_ok f).lev
end Go.Proofs.YtgohhnbdicdenaaDoor.Ex

/- Contract of the function signs: ten maps. Conditions: none. -/
namespace Go.Proofs.YtgohhnbdicdenaaDoor.Ex
open Go.ChangeShapes Go.WideShapes Go.ChangeAt Go.RowKit Go.ChangeMaps
open Go.Proofs.YtgohhnbdicdenaaDoor.Tr (str ret_bool ret_int Bytes Nd)
set_option linter.unusedVariables false
set_option linter.unusedSimpArgs false

def entOf (x : (Bytes × Int × Bool) × Nat) : MapEntry := { key := .string (str x.1.1), val := .agg #[.int .i64 x.1.2.1, .bool x.1.2.2], born := x.2 }
def entsOf (l : List (Bytes × Int × Bool)) : Array MapEntry := (l.zipIdx.map entOf).toArray
/-- The maps made so far. -/
structure Made (w : World) (L : List (List (Bytes × Int × Bool))) (W : World) : Prop where
  os : W.os = w.os
  tape : W.tape = w.tape
  output : W.output = w.output
  size : W.heap.size = w.heap.size + (1 + L.length)
  below : ∀ g, g < w.heap.size → W.heap[g]? = w.heap[g]?
  res : W.heap[w.heap.size]? = some (.cells #[.map none, .map none, .map none, .map none, .map none, .map none, .map none, .map none, .map none, .map none] 59 (0, 0))
  maps : ∀ i l, L[i]? = some l → W.heap[w.heap.size + 1 + i]? = some (.map (entsOf l) l.length)
theorem Made.start (w : World) : Made w [] (w.alloc (.cells #[.map none, .map none, .map none, .map none, .map none, .map none, .map none, .map none, .map none, .map none] 59)) :=
  ⟨rfl, rfl, rfl, by simp, fun g hg => Below.heap_alloc _ _ _ hg, heap_alloc_new _ _, fun i l h => by simp at h⟩
theorem Made.new {w W : World} {L : List (List (Bytes × Int × Bool))} (h : Made w L W) : Made w (L ++ [[]]) (W.alloc (.map #[] 0)) := by
  have hs := h.size
  refine ⟨h.os, h.tape, h.output, by simp; omega, fun g hg => (Below.heap_alloc _ _ _ (by omega)).trans (h.below g hg), (Below.heap_alloc _ _ _ (by omega)).trans h.res, fun i l hi => ?_⟩
  rw [List.getElem?_append] at hi
  split at hi
  · rename_i hl
    rw [Below.heap_alloc _ _ _ (by omega)]; exact h.maps i l hi
  · rename_i hl
    have hi0 : i - L.length = 0 := by
      cases hk : i - L.length with
      | zero => rfl
      | succ k => rw [hk] at hi; simp at hi
    rw [hi0] at hi
    simp at hi
    subst hi
    have : w.heap.size + 1 + i = W.heap.size := by omega
    rw [this]
    exact heap_alloc_new _ _
theorem ents_snoc (l : List (Bytes × Int × Bool)) (x : Bytes × Int × Bool) : entsOf (l ++ [x]) = (entsOf l).push (entOf (x, l.length)) := by
  simp [entsOf, List.zipIdx_append]
theorem Made.put {w W : World} {L : List (List (Bytes × Int × Bool))} (h : Made w L W) {i : Nat} {l : List (Bytes × Int × Bool)} (hi : L[i]? = some l) (x : Bytes × Int × Bool) :
    Made w (L.set i (l ++ [x])) (setBlock W (w.heap.size + 1 + i) (.map ((entsOf l).push (entOf (x, l.length))) (l.length + 1))) := by
  have hb := h.maps i l hi
  have hil : i < L.length := (List.getElem?_eq_some_iff.1 hi).1
  have hs := h.size
  refine ⟨h.os, h.tape, h.output, by simp [setBlock]; omega, fun g hg => (heap_setBlock_other hb _ (by omega)).trans (h.below g hg), (heap_setBlock_other hb _ (by omega)).trans h.res, fun j m hj => ?_⟩
  rw [List.getElem?_set] at hj
  split at hj
  · rename_i e
    subst e
    simp [hil] at hj
    subst hj
    rw [heap_setBlock_same hb, ents_snoc]
    simp
  · rename_i e
    rw [heap_setBlock_other hb _ (by omega)]; exact h.maps j m hj
theorem ins_run {W : World} {b : Nat} {l : List (Bytes × Int × Bool)} (hb : W.heap[b]? = some (.map (entsOf l) l.length)) (x : Bytes × Int × Bool) (hf : Instr.findNow .string (.string (str x.1)) (entsOf l).toList 0 = some none) :
    (Instr.mapUpdate 58 (.map (some b)) (.string (str x.1)) (.agg #[.int .i64 x.2.1, .bool x.2.2])).run Tryd.prog W = .ok () (setBlock W b (.map ((entsOf l).push (entOf (x, l.length))) (l.length + 1))) := by
  have := find_key hf W
  simp [Instr.mapUpdate, run_underlying Tryd.underlying58, MapKept.run_getObj_map hb, check_key, this, MapKept.run_setObj_map _ hb, Result.andThen, setBlock, entOf]
theorem ins_ex {w W : World} {L : List (List (Bytes × Int × Bool))} (H : Made w L W) (i : Nat) (l : List (Bytes × Int × Bool)) (hi : L[i]? = some l) (x : Bytes × Int × Bool) (hf : Instr.findNow .string (.string (str x.1)) (entsOf l).toList 0 = some none) {b : Nat} (hbb : b = w.heap.size + 1 + i) {S : ByteArray} (hS : S = str x.1) :
    ∃ W', (Instr.mapUpdate 58 (.map (some b)) (.string S) (.agg #[.int .i64 x.2.1, .bool x.2.2])).run Tryd.prog W = .ok () W' ∧ Made w (L.set i (l ++ [x])) W' := by
  subst hbb; subst hS
  exact ⟨_, ins_run (H.maps i l hi) x hf, H.put hi x⟩
theorem zip_fst {α β : Type} (f : α → β) : ∀ (l : List α) (k : Nat), (l.zipIdx k).map (fun x => f x.1) = l.map f
  | [], _ => rfl
  | a :: r, k => by simp [zip_fst f r (k + 1)]
theorem MapAt.made {w W W' : World} {L : List (List (Bytes × Int × Bool))} (h : Made w L W) {n : Nat} (hn : L[n]? = some (signsM (n + 1))) {b : Nat} (hb : W.heap.size ≤ b) (hs : W.heap.size ≤ W'.heap.size) (hk : ∀ g, g < W.heap.size → w.heap.size < g → W'.heap[g]? = W.heap[g]?) : MapAt W' b (n + 1) (.map (some (w.heap.size + 1 + n))) := by
  have hil : n < L.length := (List.getElem?_eq_some_iff.1 hn).1
  have hz := h.size
  refine ⟨_, _, _, rfl, by omega, by omega, (hk _ (by omega) (by omega)).trans (h.maps n _ hn), ?_⟩
  simp [entsOf, entOf, List.map_map, Function.comp_def]
  exact zip_fst (fun x : Bytes × Int × Bool => (Value.string (str x.1), Value.agg #[.int .i64 x.2.1, .bool x.2.2])) _ 0
def mvOf (w : World) (n : Nat) : Value := if n = 0 then .map none else .map (some (w.heap.size + n))
end Go.Proofs.YtgohhnbdicdenaaDoor.Ex

/- Contract of the function signs: ten maps. Conditions: none. -/
namespace Go.Proofs.YtgohhnbdicdenaaDoor.Ex
open Go.ChangeShapes Go.WideShapes Go.ChangeAt Go.RowKit Go.ChangeMaps
open Go.Proofs.YtgohhnbdicdenaaDoor.Tr (str ret_bool ret_int Bytes Nd)
set_option linter.unusedVariables false
set_option linter.unusedSimpArgs false

structure Chg (B : Nat) (W W' : World) : Prop where
  size : W'.heap.size = W.heap.size
  same : ∀ g, g ≠ B → W'.heap[g]? = W.heap[g]?
  below : Below B W W'
theorem Chg.set {B : Nat} {W W' : World} (h : Chg B W W') (k : Nat) (v : Value) : Chg B W (W'.setCell ⟨B, k, none⟩ v) :=
  ⟨by simp [World.setCell, h.size], fun g hg => (Below.heap_setCell _ _ _ _ (by simpa using hg)).trans (h.same g hg), h.below.setCell (Nat.le_refl _) _⟩
set_option maxHeartbeats 1000000 in
theorem ten_cells {W : World} {B T : Nat} {u0 u1 u2 u3 u4 u5 u6 u7 u8 u9 : Value} (h : W.heap[B]? = some (.cells #[u0, u1, u2, u3, u4, u5, u6, u7, u8, u9] T (0, 0))) (v0 v1 v2 v3 v4 v5 v6 v7 v8 v9 : Value) :
    ((((((((((W.setCell ⟨B, 0, none⟩ v0).setCell ⟨B, 1, none⟩ v1).setCell ⟨B, 2, none⟩ v2).setCell ⟨B, 3, none⟩ v3).setCell ⟨B, 4, none⟩ v4).setCell ⟨B, 5, none⟩ v5).setCell ⟨B, 6, none⟩ v6).setCell ⟨B, 7, none⟩ v7).setCell ⟨B, 8, none⟩ v8).setCell ⟨B, 9, none⟩ v9).heap[B]? = some (.cells #[v0, v1, v2, v3, v4, v5, v6, v7, v8, v9] T (0, 0)) := by
  have h0 : (W.setCell ⟨B, 0, none⟩ v0).heap[B]? = some (.cells #[v0, u1, u2, u3, u4, u5, u6, u7, u8, u9] T (0, 0)) := setObj_heap (v := v0) h (k := 0) (by simp)
  have h1 : ((W.setCell ⟨B, 0, none⟩ v0).setCell ⟨B, 1, none⟩ v1).heap[B]? = some (.cells #[v0, v1, u2, u3, u4, u5, u6, u7, u8, u9] T (0, 0)) := setObj_heap (v := v1) h0 (k := 1) (by simp)
  have h2 : (((W.setCell ⟨B, 0, none⟩ v0).setCell ⟨B, 1, none⟩ v1).setCell ⟨B, 2, none⟩ v2).heap[B]? = some (.cells #[v0, v1, v2, u3, u4, u5, u6, u7, u8, u9] T (0, 0)) := setObj_heap (v := v2) h1 (k := 2) (by simp)
  have h3 : ((((W.setCell ⟨B, 0, none⟩ v0).setCell ⟨B, 1, none⟩ v1).setCell ⟨B, 2, none⟩ v2).setCell ⟨B, 3, none⟩ v3).heap[B]? = some (.cells #[v0, v1, v2, v3, u4, u5, u6, u7, u8, u9] T (0, 0)) := setObj_heap (v := v3) h2 (k := 3) (by simp)
  have h4 : (((((W.setCell ⟨B, 0, none⟩ v0).setCell ⟨B, 1, none⟩ v1).setCell ⟨B, 2, none⟩ v2).setCell ⟨B, 3, none⟩ v3).setCell ⟨B, 4, none⟩ v4).heap[B]? = some (.cells #[v0, v1, v2, v3, v4, u5, u6, u7, u8, u9] T (0, 0)) := setObj_heap (v := v4) h3 (k := 4) (by simp)
  have h5 : ((((((W.setCell ⟨B, 0, none⟩ v0).setCell ⟨B, 1, none⟩ v1).setCell ⟨B, 2, none⟩ v2).setCell ⟨B, 3, none⟩ v3).setCell ⟨B, 4, none⟩ v4).setCell ⟨B, 5, none⟩ v5).heap[B]? = some (.cells #[v0, v1, v2, v3, v4, v5, u6, u7, u8, u9] T (0, 0)) := setObj_heap (v := v5) h4 (k := 5) (by simp)
  have h6 : (((((((W.setCell ⟨B, 0, none⟩ v0).setCell ⟨B, 1, none⟩ v1).setCell ⟨B, 2, none⟩ v2).setCell ⟨B, 3, none⟩ v3).setCell ⟨B, 4, none⟩ v4).setCell ⟨B, 5, none⟩ v5).setCell ⟨B, 6, none⟩ v6).heap[B]? = some (.cells #[v0, v1, v2, v3, v4, v5, v6, u7, u8, u9] T (0, 0)) := setObj_heap (v := v6) h5 (k := 6) (by simp)
  have h7 : ((((((((W.setCell ⟨B, 0, none⟩ v0).setCell ⟨B, 1, none⟩ v1).setCell ⟨B, 2, none⟩ v2).setCell ⟨B, 3, none⟩ v3).setCell ⟨B, 4, none⟩ v4).setCell ⟨B, 5, none⟩ v5).setCell ⟨B, 6, none⟩ v6).setCell ⟨B, 7, none⟩ v7).heap[B]? = some (.cells #[v0, v1, v2, v3, v4, v5, v6, v7, u8, u9] T (0, 0)) := setObj_heap (v := v7) h6 (k := 7) (by simp)
  have h8 : (((((((((W.setCell ⟨B, 0, none⟩ v0).setCell ⟨B, 1, none⟩ v1).setCell ⟨B, 2, none⟩ v2).setCell ⟨B, 3, none⟩ v3).setCell ⟨B, 4, none⟩ v4).setCell ⟨B, 5, none⟩ v5).setCell ⟨B, 6, none⟩ v6).setCell ⟨B, 7, none⟩ v7).setCell ⟨B, 8, none⟩ v8).heap[B]? = some (.cells #[v0, v1, v2, v3, v4, v5, v6, v7, v8, u9] T (0, 0)) := setObj_heap (v := v8) h7 (k := 8) (by simp)
  have h9 : ((((((((((W.setCell ⟨B, 0, none⟩ v0).setCell ⟨B, 1, none⟩ v1).setCell ⟨B, 2, none⟩ v2).setCell ⟨B, 3, none⟩ v3).setCell ⟨B, 4, none⟩ v4).setCell ⟨B, 5, none⟩ v5).setCell ⟨B, 6, none⟩ v6).setCell ⟨B, 7, none⟩ v7).setCell ⟨B, 8, none⟩ v8).setCell ⟨B, 9, none⟩ v9).heap[B]? = some (.cells #[v0, v1, v2, v3, v4, v5, v6, v7, v8, v9] T (0, 0)) := setObj_heap (v := v9) h8 (k := 9) (by simp)
  exact h9
theorem ten_chg (W : World) (B : Nat) (v0 v1 v2 v3 v4 v5 v6 v7 v8 v9 : Value) : Chg B W ((((((((((W.setCell ⟨B, 0, none⟩ v0).setCell ⟨B, 1, none⟩ v1).setCell ⟨B, 2, none⟩ v2).setCell ⟨B, 3, none⟩ v3).setCell ⟨B, 4, none⟩ v4).setCell ⟨B, 5, none⟩ v5).setCell ⟨B, 6, none⟩ v6).setCell ⟨B, 7, none⟩ v7).setCell ⟨B, 8, none⟩ v8).setCell ⟨B, 9, none⟩ v9) := by
  have h : Chg B W W := ⟨rfl, fun _ _ => rfl, Below.refl _ _⟩
  exact ((((((((((h.set 0 v0).set 1 v1).set 2 v2).set 3 v3).set 4 v4).set 5 v5).set 6 v6).set 7 v7).set 8 v8).set 9 v9)
end Go.Proofs.YtgohhnbdicdenaaDoor.Ex

/- Contract of the function signs: ten maps. Conditions: none. -/
namespace Go.Proofs.YtgohhnbdicdenaaDoor.Ex
open Go.ChangeShapes Go.WideShapes Go.ChangeAt Go.RowKit Go.ChangeMaps
open Go.Proofs.YtgohhnbdicdenaaDoor.Tr (str ret_bool ret_int Bytes Nd)
set_option linter.unusedVariables false
set_option linter.unusedSimpArgs false

/-- Behind the ten stores. -/
theorem signs_end {w W0 : World} {L : List (List (Bytes × Int × Bool))} (M : Made w L W0) (hl : L.length = 9) (hL : ∀ n, n < 9 → L[n]? = some (signsM (n + 1))) :
    ∃ W, ((((((((((W0.setCell ⟨w.heap.size, 0, none⟩ (.map none)).setCell ⟨w.heap.size, 1, none⟩ (.map (some (w.heap.size + 1)))).setCell ⟨w.heap.size, 2, none⟩ (.map (some (w.heap.size + 2)))).setCell ⟨w.heap.size, 3, none⟩ (.map (some (w.heap.size + 3)))).setCell ⟨w.heap.size, 4, none⟩ (.map (some (w.heap.size + 4)))).setCell ⟨w.heap.size, 5, none⟩ (.map (some (w.heap.size + 5)))).setCell ⟨w.heap.size, 6, none⟩ (.map (some (w.heap.size + 6)))).setCell ⟨w.heap.size, 7, none⟩ (.map (some (w.heap.size + 7)))).setCell ⟨w.heap.size, 8, none⟩ (.map (some (w.heap.size + 8)))).setCell ⟨w.heap.size, 9, none⟩ (.map (some (w.heap.size + 9)))) = W ∧ (∀ k, W.cell? ⟨w.heap.size, k, none⟩ = (#[.map none, .map (some (w.heap.size + 1)), .map (some (w.heap.size + 2)), .map (some (w.heap.size + 3)), .map (some (w.heap.size + 4)), .map (some (w.heap.size + 5)), .map (some (w.heap.size + 6)), .map (some (w.heap.size + 7)), .map (some (w.heap.size + 8)), .map (some (w.heap.size + 9))] : Array Value)[k]?) ∧ Below w.heap.size w W ∧ ∀ n, 1 ≤ n → n ≤ 9 → MapAt W W.heap.size n (mvOf w n) := by
  have t1 : ((((((((((W0.setCell ⟨w.heap.size, 0, none⟩ (.map none)).setCell ⟨w.heap.size, 1, none⟩ (.map (some (w.heap.size + 1)))).setCell ⟨w.heap.size, 2, none⟩ (.map (some (w.heap.size + 2)))).setCell ⟨w.heap.size, 3, none⟩ (.map (some (w.heap.size + 3)))).setCell ⟨w.heap.size, 4, none⟩ (.map (some (w.heap.size + 4)))).setCell ⟨w.heap.size, 5, none⟩ (.map (some (w.heap.size + 5)))).setCell ⟨w.heap.size, 6, none⟩ (.map (some (w.heap.size + 6)))).setCell ⟨w.heap.size, 7, none⟩ (.map (some (w.heap.size + 7)))).setCell ⟨w.heap.size, 8, none⟩ (.map (some (w.heap.size + 8)))).setCell ⟨w.heap.size, 9, none⟩ (.map (some (w.heap.size + 9)))).heap[w.heap.size]? = some (.cells #[.map none, .map (some (w.heap.size + 1)), .map (some (w.heap.size + 2)), .map (some (w.heap.size + 3)), .map (some (w.heap.size + 4)), .map (some (w.heap.size + 5)), .map (some (w.heap.size + 6)), .map (some (w.heap.size + 7)), .map (some (w.heap.size + 8)), .map (some (w.heap.size + 9))] 59 (0, 0)) := ten_cells M.res _ _ _ _ _ _ _ _ _ _
  have tc : Chg w.heap.size W0 ((((((((((W0.setCell ⟨w.heap.size, 0, none⟩ (.map none)).setCell ⟨w.heap.size, 1, none⟩ (.map (some (w.heap.size + 1)))).setCell ⟨w.heap.size, 2, none⟩ (.map (some (w.heap.size + 2)))).setCell ⟨w.heap.size, 3, none⟩ (.map (some (w.heap.size + 3)))).setCell ⟨w.heap.size, 4, none⟩ (.map (some (w.heap.size + 4)))).setCell ⟨w.heap.size, 5, none⟩ (.map (some (w.heap.size + 5)))).setCell ⟨w.heap.size, 6, none⟩ (.map (some (w.heap.size + 6)))).setCell ⟨w.heap.size, 7, none⟩ (.map (some (w.heap.size + 7)))).setCell ⟨w.heap.size, 8, none⟩ (.map (some (w.heap.size + 8)))).setCell ⟨w.heap.size, 9, none⟩ (.map (some (w.heap.size + 9)))) := ten_chg _ _ _ _ _ _ _ _ _ _ _ _
  obtain ⟨W, hW⟩ : ∃ W, ((((((((((W0.setCell ⟨w.heap.size, 0, none⟩ (.map none)).setCell ⟨w.heap.size, 1, none⟩ (.map (some (w.heap.size + 1)))).setCell ⟨w.heap.size, 2, none⟩ (.map (some (w.heap.size + 2)))).setCell ⟨w.heap.size, 3, none⟩ (.map (some (w.heap.size + 3)))).setCell ⟨w.heap.size, 4, none⟩ (.map (some (w.heap.size + 4)))).setCell ⟨w.heap.size, 5, none⟩ (.map (some (w.heap.size + 5)))).setCell ⟨w.heap.size, 6, none⟩ (.map (some (w.heap.size + 6)))).setCell ⟨w.heap.size, 7, none⟩ (.map (some (w.heap.size + 7)))).setCell ⟨w.heap.size, 8, none⟩ (.map (some (w.heap.size + 8)))).setCell ⟨w.heap.size, 9, none⟩ (.map (some (w.heap.size + 9)))) = W := ⟨_, rfl⟩
  rw [hW] at t1 tc
  refine ⟨W, hW, fun k => cell_at t1 k, ?_, ?_⟩
  · exact Below.trans ⟨M.os, M.tape, M.output, by have := M.size; omega, fun g hg => M.below g hg⟩ tc.below
  · intro n h1 h9
    obtain ⟨m, rfl⟩ : ∃ m, n = m + 1 := ⟨n - 1, by omega⟩
    have hm : mvOf w (m + 1) = .map (some (w.heap.size + 1 + m)) := by simp [mvOf]; omega
    rw [hm]
    exact MapAt.made M (hL m (by omega)) (by rw [tc.size]; exact Nat.le_refl _) (by rw [tc.size]; exact Nat.le_refl _) (fun g hg hgw => tc.same g (by omega))
theorem bodyPost_at {P : Program} {fn : Func} {R : Ending → World → Prop} {a : Act} {w w' : World} {v : Value} (e : w = w') (hr : (results fn a.tmps).run P w' = .ok v w') (hd : a.defers = []) (hR : R (.returned v) w') : bodyPost P fn R .ret a w := by
  subst e; exact ⟨hd, v, hr, hR⟩
end Go.Proofs.YtgohhnbdicdenaaDoor.Ex

