/- The method single of a reader. Conditions: the contracts of level and named at less fuel; a reader lies in memory. -/
import Derived.Test.YtgohhnbdicdenaaGreatDoorPz11
namespace Go.Proofs.YtgohhnbdicdenaaGreatDoor.Ex
open Go.ChangeShapes Go.WideShapes Go.ChangeAt Go.RowKit
open Go.Proofs.YtgohhnbdicdenaaGreatDoor.Tr (str ret_bool ret_int Bytes Nd joinM roomM own_block)
set_option linter.unusedVariables false
set_option linter.unusedSimpArgs false

set_option maxRecDepth 100000 in
set_option maxHeartbeats 4000000 in
theorem single_c2 (f : Nat) (HL : ∀ g, g ≤ f → LevOk g) (HN : NamedOk f) (r : Rd) (p : Pt) (r' : Rd) (h : run (f + 1) .single r = some (p, r')) (hok : OkR r) (w : World) (b : Nat) (mv : Nat → Value) (hr : RdAt w b mv r)
    (h0 : r.isB lp = false) (h1 : r.isB [105, 102] = true)  : Calls Tryz.prog 157 #[.pointer (some ⟨b, 0, none⟩)] w (PartTo w b mv p r') := by
  have HLH := Lib.hid HL
  have HNH := Lib.hid HN
  have HOK := Lib.hid hok
  have HR := Lib.hid hr
  have hlt := hr.lt
  have hnx := hok.nx
  have H := Lib.hid h
  obtain ⟨t, ht⟩ : ∃ t, r.cur = t := ⟨_, rfl⟩
  have HT := Lib.hid ht
  have HC := Lib.hid (token_any b mv r (w.alloc (.cells #[.slice none 0 0, .int .i64 0, .int .i64 0] 167)) (hr.below (below_new w _)) hnx)
  obtain ⟨ok, hk⟩ : ∃ ok, decide (r.next < r.l.length) = ok := ⟨_, rfl⟩
  rw [ht, hk] at HC
  obtain ⟨K, T, P⟩ := t
  clear HL HN hok hr h ht hk
  go_enter Tryz.func157, Tryz.ntmps157
  go_wp2_with fail
  refine HC.out.mono ?_
  rintro e w1 ⟨rfl, hb1⟩
  have X2 := Lib.hid ((hb1.block w.heap.size (by simp)).trans (heap_alloc_new w _))
  have HRD := Lib.hid ((RdTo.of_below (HR.out.below (below_new w _)) hb1).below (below_new w _) hlt)
  have hs1 := hb1.size
  simp at hs1
  clear hb1
  obtain ⟨wa, hwa⟩ : ∃ wa, w1.alloc (.cells #[.int .i64 K, .string (str T), .int .i64 (P : Int)] 54) = wa := ⟨_, rfl⟩
  have Y2 : Hid (wa.heap[w.heap.size]? = some (.cells #[.slice none 0 0, .int .i64 0, .int .i64 0] 167 (0, 0))) := Lib.hid (by rw [← hwa]; exact stayA X2.out)
  have Y3 : Hid (wa.heap[w1.heap.size]? = some (.cells #[.int .i64 K, .string (str T), .int .i64 (P : Int)] 54 (0, 0))) := Lib.hid (by rw [← hwa]; exact heap_alloc_new w1 _)
  have HRA : Hid (RdTo w wa b mv r) := Lib.hid (by rw [← hwa]; exact HRD.out.then_below (below_new w1 _))
  have HWA := Lib.hid hwa
  clear hwa
  have hb3 : b < w1.heap.size := by omega
  have HRwa := HRA
  have Y2wa := Y2
  have Y3wa := Y3
  obtain ⟨⟨a, r1⟩, k1, k⟩ : ∃ x : Pt × Rd, run f (.lev 1) r.adv = some x ∧ ((run f (.lev 1) (x.2.need [116, 104, 101, 110])).bind fun (b, r2) => (run f (.lev 1) (r2.need [101, 108, 115, 101])).map fun (c, r3) => (joined 26 0 [] [x.1, b, c], r3)) = some (p, r') := by
    have := H.out
    simp only [run, h0, h1, if_true, if_false, Bool.false_eq_true] at this
    obtain ⟨x, ha, hb⟩ := bind_some this
    exact ⟨x, ha, hb⟩
  obtain ⟨⟨bb, r2⟩, k2, k⟩ := bind_some k
  obtain ⟨⟨c, r3⟩, k3, k⟩ := map_some k
  simp only [Prod.mk.injEq] at k
  simp only at k2 k3
  have hadv := adv_step r (isB_lt h1)
  obtain ⟨st1, ok1, mu1⟩ := run_step _ _ _ _ _ k1 (hadv.fine HOK.out.fine) (by simp [Task.pre])
  have HOKA := Lib.hid (HOK.out.step hadv)
  have HOK1 := Lib.hid (HOKA.out.step st1)
  have hn1 := need_step [116, 104, 101, 110] r1 HOK1.out.fine
  have HOK1n := Lib.hid (HOK1.out.step hn1)
  obtain ⟨st2, ok2, mu2⟩ := run_step _ _ _ _ _ k2 HOK1n.out.fine (by simp [Task.pre])
  have HOK2 := Lib.hid (HOK1n.out.step st2)
  have hn2 := need_step [101, 108, 115, 101] r2 HOK2.out.fine
  have HOK2n := Lib.hid (HOK2.out.step hn2)
  obtain ⟨st3, ok3, mu3⟩ := run_step _ _ _ _ _ k3 HOK2n.out.fine (by simp [Task.pre])
  have HK1 := Lib.hid k1
  have HK2 := Lib.hid k2
  have HK3 := Lib.hid k3
  have HKE := Lib.hid k
  have HQ1 := Lib.hid ok1
  have HQ2 := Lib.hid ok2
  have HQ3 := Lib.hid ok3
  have hnod : a.nodes + bb.nodes + c.nodes ≤ 900000 := by
    have e1 := HOK1.out.mu; have e2 := HOK2.out.mu; have e3 := (HOK2n.out.step st3).mu
    simp only [Task.base] at mu1 mu2 mu3
    omega
  clear k1 k2 k3 k hadv st1 ok1 mu1 hn1 st2 ok2 mu2 hn2 st3 ok3 mu3
  go_wp2_with fail
  rw [HWA.out]
  refine (take_at (s := lp) (B := false) rfl (h0) (HRwa.out.rd) hnx).mono ?_
  rintro e wt0 ⟨rfl, hrd⟩
  have HRwt0 : Hid (RdTo w wt0 b mv r) := Lib.hid (HRwa.out.trans hrd)
  have Y2wt0 := Lib.hid (stay hrd.grown Y2wa.out (by omega))
  have Y3wt0 := Lib.hid (stay hrd.grown Y3wa.out (by omega))
  clear hrd
  go_wp2_with fail
  refine (take_at (s := [105, 102]) (B := true) rfl (h1) (HRwt0.out.rd) hnx).mono ?_
  rintro e wt1 ⟨rfl, hrd⟩
  have HRwt1 : Hid (RdTo w wt1 b mv r.adv) := Lib.hid (HRwt0.out.trans hrd)
  have Y2wt1 := Lib.hid (stay hrd.grown Y2wt0.out (by omega))
  have Y3wt1 := Lib.hid (stay hrd.grown Y3wt0.out (by omega))
  clear hrd
  go_wp2_with fail
  refine (lev_at (i := 1) (n := 1) (HLH.out f (Nat.le_refl _)) HK1.out rfl (by omega) (by omega) HOKA.out (HRwt1.out.rd)).mono ?_
  rintro e w3 ⟨evw3, rfl, hpt, hrd⟩
  have Pw3 := Lib.hid hpt
  have HRw3 : Hid (RdTo w w3 b mv r1) := Lib.hid (HRwt1.out.trans hrd)
  have Y2w3 := Lib.hid (stay hrd.grown Y2wt1.out (by omega))
  obtain ⟨⟨Aw3, cw3, hev, u1w3, u2w3, -⟩, -⟩ := hpt
  simp only at hev u1w3
  subst hev
  unfold maxLen at u2w3
  have hsw3 := hrd.grown.size
  clear hrd
  have hlt3 : w.heap.size < w3.heap.size := lt_of_block Y2w3.out
  go_wp2_with fail
  refine (need_at (s := [116, 104, 101, 110]) rfl (HRw3.out.rd.below (below_new w3 (.cells #[.slice Aw3 a.e.length cw3, .int .i64 (a.nodes : Int), .int .i64 (a.deep : Int)] 167))) HOK1.out.nx).mono ?_
  rintro e w4 ⟨rfl, hrd⟩
  have HRw4 : Hid (RdTo w w4 b mv (r1.need [116, 104, 101, 110])) := Lib.hid ((HRw3.out.then_below (below_new w3 _)).trans hrd)
  have Y2w4 := Lib.hid (stay hrd.grown (stayA Y2w3.out) (by omega))
  have Y6w4 := Lib.hid (stay hrd.grown (heap_alloc_new w3 (.cells #[.slice Aw3 a.e.length cw3, .int .i64 (a.nodes : Int), .int .i64 (a.deep : Int)] 167)) (by omega))
  have Paw4 := Lib.hid ((Pw3.out.below (below_new w3 (.cells #[.slice Aw3 a.e.length cw3, .int .i64 (a.nodes : Int), .int .i64 (a.deep : Int)] 167))).grown (HRw3.out.rd.below (below_new w3 _)) hrd.grown)
  clear hrd
  go_wp2_with fail
  refine (lev_at (i := 1) (n := 1) (HLH.out f (Nat.le_refl _)) HK2.out rfl (by omega) (by omega) HOK1n.out (HRw4.out.rd)).mono ?_
  rintro e w5 ⟨evw5, rfl, hpt, hrd⟩
  have Pw5 := Lib.hid hpt
  have HRw5 : Hid (RdTo w w5 b mv r2) := Lib.hid (HRw4.out.trans hrd)
  have Y2w5 := Lib.hid (stay hrd.grown Y2w4.out (by omega))
  have Y6w5 := Lib.hid (stay hrd.grown Y6w4.out (by omega))
  have Paw5 := Lib.hid (Paw4.out.grown HRw4.out.rd hrd.grown)
  obtain ⟨⟨Aw5, cw5, hev, u1w5, u2w5, -⟩, -⟩ := hpt
  simp only at hev u1w5
  subst hev
  unfold maxLen at u2w5
  have hsw5 := hrd.grown.size
  clear hrd
  have hlt5 : w3.heap.size < w5.heap.size := lt_of_block Y6w5.out
  go_wp2_with fail
  refine (need_at (s := [101, 108, 115, 101]) rfl (HRw5.out.rd.below (below_new w5 (.cells #[.slice Aw5 bb.e.length cw5, .int .i64 (bb.nodes : Int), .int .i64 (bb.deep : Int)] 167))) HOK2.out.nx).mono ?_
  rintro e w6 ⟨rfl, hrd⟩
  have HRw6 : Hid (RdTo w w6 b mv (r2.need [101, 108, 115, 101])) := Lib.hid ((HRw5.out.then_below (below_new w5 _)).trans hrd)
  have Y2w6 := Lib.hid (stay hrd.grown (stayA Y2w5.out) (by omega))
  have Y6w6 := Lib.hid (stay hrd.grown (stayA Y6w5.out) (by omega))
  have Y7w6 := Lib.hid (stay hrd.grown (heap_alloc_new w5 (.cells #[.slice Aw5 bb.e.length cw5, .int .i64 (bb.nodes : Int), .int .i64 (bb.deep : Int)] 167)) (by omega))
  have Paw6 := Lib.hid ((Paw5.out.below (below_new w5 (.cells #[.slice Aw5 bb.e.length cw5, .int .i64 (bb.nodes : Int), .int .i64 (bb.deep : Int)] 167))).grown (HRw5.out.rd.below (below_new w5 _)) hrd.grown)
  have Pbw6 := Lib.hid ((Pw5.out.below (below_new w5 (.cells #[.slice Aw5 bb.e.length cw5, .int .i64 (bb.nodes : Int), .int .i64 (bb.deep : Int)] 167))).grown (HRw5.out.rd.below (below_new w5 _)) hrd.grown)
  have z60 : w6.cell? ⟨w3.heap.size, 0, none⟩ = some (.slice Aw3 a.e.length cw3) := (cell_at Y6w6.out 0).trans rfl
  have z61 : w6.cell? ⟨w3.heap.size, 1, none⟩ = some (.int .i64 (a.nodes : Int)) := (cell_at Y6w6.out 1).trans rfl
  have z62 : w6.cell? ⟨w3.heap.size, 2, none⟩ = some (.int .i64 (a.deep : Int)) := (cell_at Y6w6.out 2).trans rfl
  have z70 : w6.cell? ⟨w5.heap.size, 0, none⟩ = some (.slice Aw5 bb.e.length cw5) := (cell_at Y7w6.out 0).trans rfl
  have z71 : w6.cell? ⟨w5.heap.size, 1, none⟩ = some (.int .i64 (bb.nodes : Int)) := (cell_at Y7w6.out 1).trans rfl
  have z72 : w6.cell? ⟨w5.heap.size, 2, none⟩ = some (.int .i64 (bb.deep : Int)) := (cell_at Y7w6.out 2).trans rfl
  clear hrd
  go_upto_region 11 with fail
  go_region_with ((first | (go_at_call 146; (with_reducible refine (lev_at (i := 1) (n := 1) (HLH.out f (Nat.le_refl _)) HK3.out rfl (by omega) (by omega) HOK2n.out (by first | exact HRw6.out.rd | exact HRw6.out.rd.drew)).mono ?_); rintro e w7 ⟨fv, rfl, hpt3, hrd3⟩; have HPT3 := Lib.hid hpt3; obtain ⟨⟨Af, cf, hfv, v1, v2, -⟩, -⟩ := hpt3; simp only at hfv v1; subst hfv; unfold maxLen at v2; have HG3 := Lib.hid (grown_undrew hrd3.grown); have HR3 := Lib.hid hrd3.rd; have V6 := Lib.hid (stay HG3.out Y6w6.out (by omega)); have V7 := Lib.hid (stay HG3.out Y7w6.out (by omega)); have V2 := Lib.hid (stay HG3.out Y2w6.out (by omega)); have t60 : w7.cell? ⟨w3.heap.size, 0, none⟩ = some (.slice Aw3 a.e.length cw3) := (cell_at V6.out 0).trans rfl; have t61 : w7.cell? ⟨w3.heap.size, 1, none⟩ = some (.int .i64 (a.nodes : Int)) := (cell_at V6.out 1).trans rfl; have t62 : w7.cell? ⟨w3.heap.size, 2, none⟩ = some (.int .i64 (a.deep : Int)) := (cell_at V6.out 2).trans rfl; have t70 : w7.cell? ⟨w5.heap.size, 0, none⟩ = some (.slice Aw5 bb.e.length cw5) := (cell_at V7.out 0).trans rfl; have t71 : w7.cell? ⟨w5.heap.size, 1, none⟩ = some (.int .i64 (bb.nodes : Int)) := (cell_at V7.out 1).trans rfl; have t72 : w7.cell? ⟨w5.heap.size, 2, none⟩ = some (.int .i64 (bb.deep : Int)) := (cell_at V7.out 2).trans rfl) | (go_at_call 159; (with_reducible refine (joined3_at (Paw6.out.grown HRw6.out.rd HG3.out) (Pbw6.out.grown HRw6.out.rd HG3.out) HPT3.out HQ1.out HQ2.out HQ3.out hnod).mono ?_); rintro e w8 ⟨gv, rfl, hpt4, hb4⟩; have HPT4 := Lib.hid hpt4; obtain ⟨⟨Ag, cg, hgv, v3, v4, -⟩, -⟩ := hpt4; simp only at hgv v3; subst hgv; unfold maxLen at v4; have HB4 := Lib.hid ((below_new w7 _).trans (hb4.mono (by simp))); have Y2w8 := Lib.hid (stayB HB4.out V2.out); have g0 : w8.cell? ⟨w.heap.size, 0, none⟩ = some (.slice none 0 0) := (cell_at Y2w8.out 0).trans rfl; have g1 : w8.cell? ⟨w.heap.size, 1, none⟩ = some (.int .i64 0) := (cell_at Y2w8.out 1).trans rfl; have g2 : w8.cell? ⟨w.heap.size, 2, none⟩ = some (.int .i64 0) := (cell_at Y2w8.out 2).trans rfl; have e0 : w8.frozen? ⟨w.heap.size, 0, none⟩ = false := free_at Y2w8.out 0; have e1 : w8.frozen? ⟨w.heap.size, 1, none⟩ = false := free_at Y2w8.out 1; have e2 : w8.frozen? ⟨w.heap.size, 2, none⟩ = false := free_at Y2w8.out 2)))
  all_goals go_wp2_with fail
  all_goals
    have HRw8 := Lib.hid ((HRw6.out.trans ⟨HR3.out, HG3.out⟩).then_below HB4.out)
    refine bodyPost_ret (v := .agg #[.slice Ag (joined 26 0 [] [a, bb, c]).e.length cg, .int .i64 ((joined 26 0 [] [a, bb, c]).nodes : Int), .int .i64 ((joined 26 0 [] [a, bb, c]).deep : Int)]) ?_ rfl (PartTo.laid HKE.out.1.symm HKE.out.2.symm HRw8.out hlt (Nat.le_refl _) Y2w8.out HPT4.out)
    obtain ⟨k0, k1, k2⟩ := trip_cells (.slice Ag (joined 26 0 [] [a, bb, c]).e.length cg) (.int .i64 ((joined 26 0 [] [a, bb, c]).nodes : Int)) (.int .i64 ((joined 26 0 [] [a, bb, c]).deep : Int)) Y2w8.out
    clear g0 g1 g2 e0 e1 e2
    simp [results, Tryz.results157, go_sem, k0, k1, k2]
end Go.Proofs.YtgohhnbdicdenaaGreatDoor.Ex

/- The method single of a reader. Conditions: the contracts of level and named at less fuel; a reader lies in memory. -/
namespace Go.Proofs.YtgohhnbdicdenaaGreatDoor.Ex
open Go.ChangeShapes Go.WideShapes Go.ChangeAt Go.RowKit
open Go.Proofs.YtgohhnbdicdenaaGreatDoor.Tr (str ret_bool ret_int Bytes Nd joinM roomM own_block)
set_option linter.unusedVariables false
set_option linter.unusedSimpArgs false

set_option maxRecDepth 100000 in
set_option maxHeartbeats 4000000 in
theorem single_c3 (f : Nat) (HL : ∀ g, g ≤ f → LevOk g) (HN : NamedOk f) (r : Rd) (p : Pt) (r' : Rd) (h : run (f + 1) .single r = some (p, r')) (hok : OkR r) (w : World) (b : Nat) (mv : Nat → Value) (hr : RdAt w b mv r)
    (h0 : r.isB lp = false) (h1 : r.isB [105, 102] = false) (h2 : r.isB [116, 114, 117, 101] = true)  : Calls Tryz.prog 157 #[.pointer (some ⟨b, 0, none⟩)] w (PartTo w b mv p r') := by
  have HLH := Lib.hid HL
  have HNH := Lib.hid HN
  have HOK := Lib.hid hok
  have HR := Lib.hid hr
  have hlt := hr.lt
  have hnx := hok.nx
  have H := Lib.hid h
  obtain ⟨t, ht⟩ : ∃ t, r.cur = t := ⟨_, rfl⟩
  have HT := Lib.hid ht
  have HC := Lib.hid (token_any b mv r (w.alloc (.cells #[.slice none 0 0, .int .i64 0, .int .i64 0] 167)) (hr.below (below_new w _)) hnx)
  obtain ⟨ok, hk⟩ : ∃ ok, decide (r.next < r.l.length) = ok := ⟨_, rfl⟩
  rw [ht, hk] at HC
  obtain ⟨K, T, P⟩ := t
  clear HL HN hok hr h ht hk
  go_enter Tryz.func157, Tryz.ntmps157
  go_wp2_with fail
  refine HC.out.mono ?_
  rintro e w1 ⟨rfl, hb1⟩
  have X2 := Lib.hid ((hb1.block w.heap.size (by simp)).trans (heap_alloc_new w _))
  have HRD := Lib.hid ((RdTo.of_below (HR.out.below (below_new w _)) hb1).below (below_new w _) hlt)
  have hs1 := hb1.size
  simp at hs1
  clear hb1
  obtain ⟨wa, hwa⟩ : ∃ wa, w1.alloc (.cells #[.int .i64 K, .string (str T), .int .i64 (P : Int)] 54) = wa := ⟨_, rfl⟩
  have Y2 : Hid (wa.heap[w.heap.size]? = some (.cells #[.slice none 0 0, .int .i64 0, .int .i64 0] 167 (0, 0))) := Lib.hid (by rw [← hwa]; exact stayA X2.out)
  have Y3 : Hid (wa.heap[w1.heap.size]? = some (.cells #[.int .i64 K, .string (str T), .int .i64 (P : Int)] 54 (0, 0))) := Lib.hid (by rw [← hwa]; exact heap_alloc_new w1 _)
  have HRA : Hid (RdTo w wa b mv r) := Lib.hid (by rw [← hwa]; exact HRD.out.then_below (below_new w1 _))
  have HWA := Lib.hid hwa
  clear hwa
  have hb3 : b < w1.heap.size := by omega
  have HRwa := HRA
  have Y2wa := Y2
  have Y3wa := Y3
  have HE : Hid (p = joined 2 1 [] [] ∧ r' = r.adv) := Lib.hid (by
    have := H.out
    simp only [run, h0, h1, h2, if_true, if_false, Bool.false_eq_true, Option.some.injEq, Prod.mk.injEq] at this
    exact ⟨this.1.symm, this.2.symm⟩)
  go_wp2_with fail
  rw [HWA.out]
  refine (take_at (s := lp) (B := false) rfl (h0) (HRwa.out.rd) hnx).mono ?_
  rintro e wt0 ⟨rfl, hrd⟩
  have HRwt0 : Hid (RdTo w wt0 b mv r) := Lib.hid (HRwa.out.trans hrd)
  have Y2wt0 := Lib.hid (stay hrd.grown Y2wa.out (by omega))
  have Y3wt0 := Lib.hid (stay hrd.grown Y3wa.out (by omega))
  clear hrd
  go_wp2_with fail
  refine (take_at (s := [105, 102]) (B := false) rfl (h1) (HRwt0.out.rd) hnx).mono ?_
  rintro e wt1 ⟨rfl, hrd⟩
  have HRwt1 : Hid (RdTo w wt1 b mv r) := Lib.hid (HRwt0.out.trans hrd)
  have Y2wt1 := Lib.hid (stay hrd.grown Y2wt0.out (by omega))
  have Y3wt1 := Lib.hid (stay hrd.grown Y3wt0.out (by omega))
  clear hrd
  go_wp2_with fail
  refine (take_at (s := [116, 114, 117, 101]) (B := true) rfl (h2) (HRwt1.out.rd) hnx).mono ?_
  rintro e wt2 ⟨rfl, hrd⟩
  have HRwt2 : Hid (RdTo w wt2 b mv r.adv) := Lib.hid (HRwt1.out.trans hrd)
  have Y2wt2 := Lib.hid (stay hrd.grown Y2wt1.out (by omega))
  have Y3wt2 := Lib.hid (stay hrd.grown Y3wt1.out (by omega))
  clear hrd
  go_wp2_with fail
  refine (joined0_at (s := []) rfl).mono ?_
  rintro e w5 ⟨gv, rfl, hpt5, hb5⟩
  have P5 := Lib.hid hpt5
  have HRw5 := Lib.hid (HRwt2.out.then_below hb5)
  have Y2w5 := Lib.hid (stayB hb5 Y2wt2.out)
  obtain ⟨⟨Ag, cg, hgv, v1, v2, -⟩, -⟩ := hpt5
  simp only at hgv v1
  subst hgv
  unfold maxLen at v2
  clear hb5
  have g0 : w5.cell? ⟨w.heap.size, 0, none⟩ = some (.slice none 0 0) := (cell_at Y2w5.out 0).trans rfl
  have g1 : w5.cell? ⟨w.heap.size, 1, none⟩ = some (.int .i64 0) := (cell_at Y2w5.out 1).trans rfl
  have g2 : w5.cell? ⟨w.heap.size, 2, none⟩ = some (.int .i64 0) := (cell_at Y2w5.out 2).trans rfl
  have e0 : w5.frozen? ⟨w.heap.size, 0, none⟩ = false := free_at Y2w5.out 0
  have e1 : w5.frozen? ⟨w.heap.size, 1, none⟩ = false := free_at Y2w5.out 1
  have e2 : w5.frozen? ⟨w.heap.size, 2, none⟩ = false := free_at Y2w5.out 2
  go_wp2
  refine bodyPost_ret (v := .agg #[.slice Ag (joined 2 1 [] []).e.length cg, .int .i64 ((joined 2 1 [] []).nodes : Int), .int .i64 ((joined 2 1 [] []).deep : Int)]) ?_ rfl (PartTo.laid HE.out.1 HE.out.2 HRw5.out hlt (Nat.le_refl _) Y2w5.out P5.out)
  obtain ⟨k0, k1, k2⟩ := trip_cells (.slice Ag (joined 2 1 [] []).e.length cg) (.int .i64 ((joined 2 1 [] []).nodes : Int)) (.int .i64 ((joined 2 1 [] []).deep : Int)) Y2w5.out
  clear g0 g1 g2 e0 e1 e2
  simp [results, Tryz.results157, go_sem, k0, k1, k2]
end Go.Proofs.YtgohhnbdicdenaaGreatDoor.Ex

/- The method single of a reader. Conditions: the contracts of level and named at less fuel; a reader lies in memory. -/
namespace Go.Proofs.YtgohhnbdicdenaaGreatDoor.Ex
open Go.ChangeShapes Go.WideShapes Go.ChangeAt Go.RowKit
open Go.Proofs.YtgohhnbdicdenaaGreatDoor.Tr (str ret_bool ret_int Bytes Nd joinM roomM own_block)
set_option linter.unusedVariables false
set_option linter.unusedSimpArgs false

set_option maxRecDepth 100000 in
set_option maxHeartbeats 4000000 in
theorem single_c4 (f : Nat) (HL : ∀ g, g ≤ f → LevOk g) (HN : NamedOk f) (r : Rd) (p : Pt) (r' : Rd) (h : run (f + 1) .single r = some (p, r')) (hok : OkR r) (w : World) (b : Nat) (mv : Nat → Value) (hr : RdAt w b mv r)
    (h0 : r.isB lp = false) (h1 : r.isB [105, 102] = false) (h2 : r.isB [116, 114, 117, 101] = false) (h3 : r.isB [102, 97, 108, 115, 101] = true)  : Calls Tryz.prog 157 #[.pointer (some ⟨b, 0, none⟩)] w (PartTo w b mv p r') := by
  have HLH := Lib.hid HL
  have HNH := Lib.hid HN
  have HOK := Lib.hid hok
  have HR := Lib.hid hr
  have hlt := hr.lt
  have hnx := hok.nx
  have H := Lib.hid h
  obtain ⟨t, ht⟩ : ∃ t, r.cur = t := ⟨_, rfl⟩
  have HT := Lib.hid ht
  have HC := Lib.hid (token_any b mv r (w.alloc (.cells #[.slice none 0 0, .int .i64 0, .int .i64 0] 167)) (hr.below (below_new w _)) hnx)
  obtain ⟨ok, hk⟩ : ∃ ok, decide (r.next < r.l.length) = ok := ⟨_, rfl⟩
  rw [ht, hk] at HC
  obtain ⟨K, T, P⟩ := t
  clear HL HN hok hr h ht hk
  go_enter Tryz.func157, Tryz.ntmps157
  go_wp2_with fail
  refine HC.out.mono ?_
  rintro e w1 ⟨rfl, hb1⟩
  have X2 := Lib.hid ((hb1.block w.heap.size (by simp)).trans (heap_alloc_new w _))
  have HRD := Lib.hid ((RdTo.of_below (HR.out.below (below_new w _)) hb1).below (below_new w _) hlt)
  have hs1 := hb1.size
  simp at hs1
  clear hb1
  obtain ⟨wa, hwa⟩ : ∃ wa, w1.alloc (.cells #[.int .i64 K, .string (str T), .int .i64 (P : Int)] 54) = wa := ⟨_, rfl⟩
  have Y2 : Hid (wa.heap[w.heap.size]? = some (.cells #[.slice none 0 0, .int .i64 0, .int .i64 0] 167 (0, 0))) := Lib.hid (by rw [← hwa]; exact stayA X2.out)
  have Y3 : Hid (wa.heap[w1.heap.size]? = some (.cells #[.int .i64 K, .string (str T), .int .i64 (P : Int)] 54 (0, 0))) := Lib.hid (by rw [← hwa]; exact heap_alloc_new w1 _)
  have HRA : Hid (RdTo w wa b mv r) := Lib.hid (by rw [← hwa]; exact HRD.out.then_below (below_new w1 _))
  have HWA := Lib.hid hwa
  clear hwa
  have hb3 : b < w1.heap.size := by omega
  have HRwa := HRA
  have Y2wa := Y2
  have Y3wa := Y3
  have HE : Hid (p = joined 2 0 [] [] ∧ r' = r.adv) := Lib.hid (by
    have := H.out
    simp only [run, h0, h1, h2, h3, if_true, if_false, Bool.false_eq_true, Option.some.injEq, Prod.mk.injEq] at this
    exact ⟨this.1.symm, this.2.symm⟩)
  go_wp2_with fail
  rw [HWA.out]
  refine (take_at (s := lp) (B := false) rfl (h0) (HRwa.out.rd) hnx).mono ?_
  rintro e wt0 ⟨rfl, hrd⟩
  have HRwt0 : Hid (RdTo w wt0 b mv r) := Lib.hid (HRwa.out.trans hrd)
  have Y2wt0 := Lib.hid (stay hrd.grown Y2wa.out (by omega))
  have Y3wt0 := Lib.hid (stay hrd.grown Y3wa.out (by omega))
  clear hrd
  go_wp2_with fail
  refine (take_at (s := [105, 102]) (B := false) rfl (h1) (HRwt0.out.rd) hnx).mono ?_
  rintro e wt1 ⟨rfl, hrd⟩
  have HRwt1 : Hid (RdTo w wt1 b mv r) := Lib.hid (HRwt0.out.trans hrd)
  have Y2wt1 := Lib.hid (stay hrd.grown Y2wt0.out (by omega))
  have Y3wt1 := Lib.hid (stay hrd.grown Y3wt0.out (by omega))
  clear hrd
  go_wp2_with fail
  refine (take_at (s := [116, 114, 117, 101]) (B := false) rfl (h2) (HRwt1.out.rd) hnx).mono ?_
  rintro e wt2 ⟨rfl, hrd⟩
  have HRwt2 : Hid (RdTo w wt2 b mv r) := Lib.hid (HRwt1.out.trans hrd)
  have Y2wt2 := Lib.hid (stay hrd.grown Y2wt1.out (by omega))
  have Y3wt2 := Lib.hid (stay hrd.grown Y3wt1.out (by omega))
  clear hrd
  go_wp2_with fail
  refine (take_at (s := [102, 97, 108, 115, 101]) (B := true) rfl (h3) (HRwt2.out.rd) hnx).mono ?_
  rintro e wt3 ⟨rfl, hrd⟩
  have HRwt3 : Hid (RdTo w wt3 b mv r.adv) := Lib.hid (HRwt2.out.trans hrd)
  have Y2wt3 := Lib.hid (stay hrd.grown Y2wt2.out (by omega))
  have Y3wt3 := Lib.hid (stay hrd.grown Y3wt2.out (by omega))
  clear hrd
  go_wp2_with fail
  refine (joined0_at (s := []) rfl).mono ?_
  rintro e w5 ⟨gv, rfl, hpt5, hb5⟩
  have P5 := Lib.hid hpt5
  have HRw5 := Lib.hid (HRwt3.out.then_below hb5)
  have Y2w5 := Lib.hid (stayB hb5 Y2wt3.out)
  obtain ⟨⟨Ag, cg, hgv, v1, v2, -⟩, -⟩ := hpt5
  simp only at hgv v1
  subst hgv
  unfold maxLen at v2
  clear hb5
  have g0 : w5.cell? ⟨w.heap.size, 0, none⟩ = some (.slice none 0 0) := (cell_at Y2w5.out 0).trans rfl
  have g1 : w5.cell? ⟨w.heap.size, 1, none⟩ = some (.int .i64 0) := (cell_at Y2w5.out 1).trans rfl
  have g2 : w5.cell? ⟨w.heap.size, 2, none⟩ = some (.int .i64 0) := (cell_at Y2w5.out 2).trans rfl
  have e0 : w5.frozen? ⟨w.heap.size, 0, none⟩ = false := free_at Y2w5.out 0
  have e1 : w5.frozen? ⟨w.heap.size, 1, none⟩ = false := free_at Y2w5.out 1
  have e2 : w5.frozen? ⟨w.heap.size, 2, none⟩ = false := free_at Y2w5.out 2
  go_wp2
  refine bodyPost_ret (v := .agg #[.slice Ag (joined 2 0 [] []).e.length cg, .int .i64 ((joined 2 0 [] []).nodes : Int), .int .i64 ((joined 2 0 [] []).deep : Int)]) ?_ rfl (PartTo.laid HE.out.1 HE.out.2 HRw5.out hlt (Nat.le_refl _) Y2w5.out P5.out)
  obtain ⟨k0, k1, k2⟩ := trip_cells (.slice Ag (joined 2 0 [] []).e.length cg) (.int .i64 ((joined 2 0 [] []).nodes : Int)) (.int .i64 ((joined 2 0 [] []).deep : Int)) Y2w5.out
  clear g0 g1 g2 e0 e1 e2
  simp [results, Tryz.results157, go_sem, k0, k1, k2]
end Go.Proofs.YtgohhnbdicdenaaGreatDoor.Ex

/- The method single of a reader. Conditions: the contracts of level and named at less fuel; a reader lies in memory. -/
namespace Go.Proofs.YtgohhnbdicdenaaGreatDoor.Ex
open Go.ChangeShapes Go.WideShapes Go.ChangeAt Go.RowKit
open Go.Proofs.YtgohhnbdicdenaaGreatDoor.Tr (str ret_bool ret_int Bytes Nd joinM roomM own_block)
set_option linter.unusedVariables false
set_option linter.unusedSimpArgs false

set_option maxRecDepth 100000 in
set_option maxHeartbeats 4000000 in
theorem single_c5 (f : Nat) (HL : ∀ g, g ≤ f → LevOk g) (HN : NamedOk f) (r : Rd) (p : Pt) (r' : Rd) (h : run (f + 1) .single r = some (p, r')) (hok : OkR r) (w : World) (b : Nat) (mv : Nat → Value) (hr : RdAt w b mv r)
    (h0 : r.isB lp = false) (h1 : r.isB [105, 102] = false) (h2 : r.isB [116, 114, 117, 101] = false) (h3 : r.isB [102, 97, 108, 115, 101] = false) (hk2 : r.cur.kind = 2) : Calls Tryz.prog 157 #[.pointer (some ⟨b, 0, none⟩)] w (PartTo w b mv p r') := by
  have HLH := Lib.hid HL
  have HNH := Lib.hid HN
  have HOK := Lib.hid hok
  have HR := Lib.hid hr
  have hlt := hr.lt
  have hnx := hok.nx
  have H := Lib.hid h
  obtain ⟨t, ht⟩ : ∃ t, r.cur = t := ⟨_, rfl⟩
  have HT := Lib.hid ht
  have HC := Lib.hid (token_any b mv r (w.alloc (.cells #[.slice none 0 0, .int .i64 0, .int .i64 0] 167)) (hr.below (below_new w _)) hnx)
  obtain ⟨ok, hk⟩ : ∃ ok, decide (r.next < r.l.length) = ok := ⟨_, rfl⟩
  rw [ht, hk] at HC
  obtain ⟨K, T, P⟩ := t
  have hK2 := hk2
  rw [HT.out] at hK2
  simp only at hK2
  clear hk2
  clear HL HN hok hr h ht hk
  go_enter Tryz.func157, Tryz.ntmps157
  go_wp2_with fail
  refine HC.out.mono ?_
  rintro e w1 ⟨rfl, hb1⟩
  have X2 := Lib.hid ((hb1.block w.heap.size (by simp)).trans (heap_alloc_new w _))
  have HRD := Lib.hid ((RdTo.of_below (HR.out.below (below_new w _)) hb1).below (below_new w _) hlt)
  have hs1 := hb1.size
  simp at hs1
  clear hb1
  obtain ⟨wa, hwa⟩ : ∃ wa, w1.alloc (.cells #[.int .i64 K, .string (str T), .int .i64 (P : Int)] 54) = wa := ⟨_, rfl⟩
  have Y2 : Hid (wa.heap[w.heap.size]? = some (.cells #[.slice none 0 0, .int .i64 0, .int .i64 0] 167 (0, 0))) := Lib.hid (by rw [← hwa]; exact stayA X2.out)
  have Y3 : Hid (wa.heap[w1.heap.size]? = some (.cells #[.int .i64 K, .string (str T), .int .i64 (P : Int)] 54 (0, 0))) := Lib.hid (by rw [← hwa]; exact heap_alloc_new w1 _)
  have HRA : Hid (RdTo w wa b mv r) := Lib.hid (by rw [← hwa]; exact HRD.out.then_below (below_new w1 _))
  have HWA := Lib.hid hwa
  clear hwa
  have hb3 : b < w1.heap.size := by omega
  have HRwa := HRA
  have Y2wa := Y2
  have Y3wa := Y3
  have HE : Hid (p = joined 1 (r.num 2147483647 : Nat) [] [] ∧ r' = r.numR 2147483647) := Lib.hid (by
    have := H.out
    simp only [run, h0, h1, h2, h3, if_true, if_false, Bool.false_eq_true, HT.out, hK2, Option.some.injEq, Prod.mk.injEq] at this
    exact ⟨this.1.symm, this.2.symm⟩)
  have hKd : (K == 2) = true := by simpa using hK2
  have HK := Lib.hid hK2
  clear hK2
  go_wp2_with fail
  rw [HWA.out]
  refine (take_at (s := lp) (B := false) rfl (h0) (HRwa.out.rd) hnx).mono ?_
  rintro e wt0 ⟨rfl, hrd⟩
  have HRwt0 : Hid (RdTo w wt0 b mv r) := Lib.hid (HRwa.out.trans hrd)
  have Y2wt0 := Lib.hid (stay hrd.grown Y2wa.out (by omega))
  have Y3wt0 := Lib.hid (stay hrd.grown Y3wa.out (by omega))
  clear hrd
  go_wp2_with fail
  refine (take_at (s := [105, 102]) (B := false) rfl (h1) (HRwt0.out.rd) hnx).mono ?_
  rintro e wt1 ⟨rfl, hrd⟩
  have HRwt1 : Hid (RdTo w wt1 b mv r) := Lib.hid (HRwt0.out.trans hrd)
  have Y2wt1 := Lib.hid (stay hrd.grown Y2wt0.out (by omega))
  have Y3wt1 := Lib.hid (stay hrd.grown Y3wt0.out (by omega))
  clear hrd
  go_wp2_with fail
  refine (take_at (s := [116, 114, 117, 101]) (B := false) rfl (h2) (HRwt1.out.rd) hnx).mono ?_
  rintro e wt2 ⟨rfl, hrd⟩
  have HRwt2 : Hid (RdTo w wt2 b mv r) := Lib.hid (HRwt1.out.trans hrd)
  have Y2wt2 := Lib.hid (stay hrd.grown Y2wt1.out (by omega))
  have Y3wt2 := Lib.hid (stay hrd.grown Y3wt1.out (by omega))
  clear hrd
  go_wp2_with fail
  refine (take_at (s := [102, 97, 108, 115, 101]) (B := false) rfl (h3) (HRwt2.out.rd) hnx).mono ?_
  rintro e wt3 ⟨rfl, hrd⟩
  have HRwt3 : Hid (RdTo w wt3 b mv r) := Lib.hid (HRwt2.out.trans hrd)
  have Y2wt3 := Lib.hid (stay hrd.grown Y2wt2.out (by omega))
  have Y3wt3 := Lib.hid (stay hrd.grown Y3wt2.out (by omega))
  clear hrd
  have q0 : wt3.cell? ⟨w1.heap.size, 0, none⟩ = some (.int .i64 K) := (cell_at Y3wt3.out 0).trans rfl
  have q1 : wt3.cell? ⟨w1.heap.size, 1, none⟩ = some (.string (str T)) := (cell_at Y3wt3.out 1).trans rfl
  go_wp2_with fail
  refine (number_at (i := 2147483647) (most := 2147483647) rfl (HRwt3.out.rd) hnx HOK.out.good HOK.out.cur (by decide)).mono ?_
  rintro e w6 ⟨rfl, hrd⟩
  have HRw6 : Hid (RdTo w w6 b mv (r.numR 2147483647)) := Lib.hid (HRwt3.out.trans hrd)
  have Y2w6 := Lib.hid (stay hrd.grown Y2wt3.out (by omega))
  clear hrd q0 q1
  go_wp2_with fail
  refine (joined0_at (s := []) rfl).mono ?_
  rintro e w5 ⟨gv, rfl, hpt5, hb5⟩
  have P5 := Lib.hid hpt5
  have HRw5 := Lib.hid (HRw6.out.then_below hb5)
  have Y2w5 := Lib.hid (stayB hb5 Y2w6.out)
  obtain ⟨⟨Ag, cg, hgv, v1, v2, -⟩, -⟩ := hpt5
  simp only at hgv v1
  subst hgv
  unfold maxLen at v2
  clear hb5
  have g0 : w5.cell? ⟨w.heap.size, 0, none⟩ = some (.slice none 0 0) := (cell_at Y2w5.out 0).trans rfl
  have g1 : w5.cell? ⟨w.heap.size, 1, none⟩ = some (.int .i64 0) := (cell_at Y2w5.out 1).trans rfl
  have g2 : w5.cell? ⟨w.heap.size, 2, none⟩ = some (.int .i64 0) := (cell_at Y2w5.out 2).trans rfl
  have e0 : w5.frozen? ⟨w.heap.size, 0, none⟩ = false := free_at Y2w5.out 0
  have e1 : w5.frozen? ⟨w.heap.size, 1, none⟩ = false := free_at Y2w5.out 1
  have e2 : w5.frozen? ⟨w.heap.size, 2, none⟩ = false := free_at Y2w5.out 2
  go_wp2
  refine bodyPost_ret (v := .agg #[.slice Ag (joined 1 (r.num 2147483647 : Nat) [] []).e.length cg, .int .i64 ((joined 1 (r.num 2147483647 : Nat) [] []).nodes : Int), .int .i64 ((joined 1 (r.num 2147483647 : Nat) [] []).deep : Int)]) ?_ rfl (PartTo.laid HE.out.1 HE.out.2 HRw5.out hlt (Nat.le_refl _) Y2w5.out P5.out)
  obtain ⟨k0, k1, k2⟩ := trip_cells (.slice Ag (joined 1 (r.num 2147483647 : Nat) [] []).e.length cg) (.int .i64 ((joined 1 (r.num 2147483647 : Nat) [] []).nodes : Int)) (.int .i64 ((joined 1 (r.num 2147483647 : Nat) [] []).deep : Int)) Y2w5.out
  clear g0 g1 g2 e0 e1 e2
  simp [results, Tryz.results157, go_sem, k0, k1, k2]
end Go.Proofs.YtgohhnbdicdenaaGreatDoor.Ex

/- The method single of a reader. Conditions: the contracts of level and named at less fuel; a reader lies in memory. -/
namespace Go.Proofs.YtgohhnbdicdenaaGreatDoor.Ex
open Go.ChangeShapes Go.WideShapes Go.ChangeAt Go.RowKit
open Go.Proofs.YtgohhnbdicdenaaGreatDoor.Tr (str ret_bool ret_int Bytes Nd joinM roomM own_block)
set_option linter.unusedVariables false
set_option linter.unusedSimpArgs false

set_option maxRecDepth 100000 in
set_option maxHeartbeats 4000000 in
theorem single_c6 (f : Nat) (HL : ∀ g, g ≤ f → LevOk g) (HN : NamedOk f) (r : Rd) (p : Pt) (r' : Rd) (h : run (f + 1) .single r = some (p, r')) (hok : OkR r) (w : World) (b : Nat) (mv : Nat → Value) (hr : RdAt w b mv r)
    (h0 : r.isB lp = false) (h1 : r.isB [105, 102] = false) (h2 : r.isB [116, 114, 117, 101] = false) (h3 : r.isB [102, 97, 108, 115, 101] = false) (hk2 : ¬ r.cur.kind = 2) (hk1 : r.cur.kind = 1 ∧ r.cur.text ≠ []) : Calls Tryz.prog 157 #[.pointer (some ⟨b, 0, none⟩)] w (PartTo w b mv p r') := by
  have HLH := Lib.hid HL
  have HNH := Lib.hid HN
  have HOK := Lib.hid hok
  have HR := Lib.hid hr
  have hlt := hr.lt
  have hnx := hok.nx
  have H := Lib.hid h
  obtain ⟨t, ht⟩ : ∃ t, r.cur = t := ⟨_, rfl⟩
  have HT := Lib.hid ht
  have HC := Lib.hid (token_any b mv r (w.alloc (.cells #[.slice none 0 0, .int .i64 0, .int .i64 0] 167)) (hr.below (below_new w _)) hnx)
  obtain ⟨ok, hk⟩ : ∃ ok, decide (r.next < r.l.length) = ok := ⟨_, rfl⟩
  rw [ht, hk] at HC
  obtain ⟨K, T, P⟩ := t
  have hK2 := hk2
  rw [HT.out] at hK2
  simp only at hK2
  clear hk2
  have hK1 := hk1
  rw [HT.out] at hK1
  simp only at hK1
  clear hk1
  clear HL HN hok hr h ht hk
  go_enter Tryz.func157, Tryz.ntmps157
  go_wp2_with fail
  refine HC.out.mono ?_
  rintro e w1 ⟨rfl, hb1⟩
  have X2 := Lib.hid ((hb1.block w.heap.size (by simp)).trans (heap_alloc_new w _))
  have HRD := Lib.hid ((RdTo.of_below (HR.out.below (below_new w _)) hb1).below (below_new w _) hlt)
  have hs1 := hb1.size
  simp at hs1
  clear hb1
  obtain ⟨wa, hwa⟩ : ∃ wa, w1.alloc (.cells #[.int .i64 K, .string (str T), .int .i64 (P : Int)] 54) = wa := ⟨_, rfl⟩
  have Y2 : Hid (wa.heap[w.heap.size]? = some (.cells #[.slice none 0 0, .int .i64 0, .int .i64 0] 167 (0, 0))) := Lib.hid (by rw [← hwa]; exact stayA X2.out)
  have Y3 : Hid (wa.heap[w1.heap.size]? = some (.cells #[.int .i64 K, .string (str T), .int .i64 (P : Int)] 54 (0, 0))) := Lib.hid (by rw [← hwa]; exact heap_alloc_new w1 _)
  have HRA : Hid (RdTo w wa b mv r) := Lib.hid (by rw [← hwa]; exact HRD.out.then_below (below_new w1 _))
  have HWA := Lib.hid hwa
  clear hwa
  have hb3 : b < w1.heap.size := by omega
  have HRwa := HRA
  have Y2wa := Y2
  have Y3wa := Y3
  have HE : Hid (run f (.named T) r = some (p, r')) := Lib.hid (by
    have := H.out
    have e1 : r.cur.text = T := by rw [HT.out]
    have e2 : r.cur.kind = K := by rw [HT.out]
    simp only [run, h0, h1, h2, h3, if_false, Bool.false_eq_true, e1, e2, hK2, hK1.1] at this
    rw [if_neg (by decide), if_pos ⟨trivial, hK1.2⟩] at this
    exact this)
  have hKd : (K == 2) = false := by simpa using hK2
  have hKe : (K == 1) = true := by simpa using hK1.1
  have hTe3 : (str T).toList.isEmpty = false := by rw [Tr.str_toList]; have := hK1.2; cases T with | nil => contradiction | cons a l => rfl
  have hTe2 : T.isEmpty = false := by have := hK1.2; cases T with | nil => contradiction | cons a l => rfl
  have hnl : r.next < r.l.length := kind_lt (r := r) (by rw [HT.out]; show K ≠ 0; omega)
  have HK := Lib.hid hK1
  clear hK2 hK1
  go_wp2_with fail
  rw [HWA.out]
  refine (take_at (s := lp) (B := false) rfl (h0) (HRwa.out.rd) hnx).mono ?_
  rintro e wt0 ⟨rfl, hrd⟩
  have HRwt0 : Hid (RdTo w wt0 b mv r) := Lib.hid (HRwa.out.trans hrd)
  have Y2wt0 := Lib.hid (stay hrd.grown Y2wa.out (by omega))
  have Y3wt0 := Lib.hid (stay hrd.grown Y3wa.out (by omega))
  clear hrd
  go_wp2_with fail
  refine (take_at (s := [105, 102]) (B := false) rfl (h1) (HRwt0.out.rd) hnx).mono ?_
  rintro e wt1 ⟨rfl, hrd⟩
  have HRwt1 : Hid (RdTo w wt1 b mv r) := Lib.hid (HRwt0.out.trans hrd)
  have Y2wt1 := Lib.hid (stay hrd.grown Y2wt0.out (by omega))
  have Y3wt1 := Lib.hid (stay hrd.grown Y3wt0.out (by omega))
  clear hrd
  go_wp2_with fail
  refine (take_at (s := [116, 114, 117, 101]) (B := false) rfl (h2) (HRwt1.out.rd) hnx).mono ?_
  rintro e wt2 ⟨rfl, hrd⟩
  have HRwt2 : Hid (RdTo w wt2 b mv r) := Lib.hid (HRwt1.out.trans hrd)
  have Y2wt2 := Lib.hid (stay hrd.grown Y2wt1.out (by omega))
  have Y3wt2 := Lib.hid (stay hrd.grown Y3wt1.out (by omega))
  clear hrd
  go_wp2_with fail
  refine (take_at (s := [102, 97, 108, 115, 101]) (B := false) rfl (h3) (HRwt2.out.rd) hnx).mono ?_
  rintro e wt3 ⟨rfl, hrd⟩
  have HRwt3 : Hid (RdTo w wt3 b mv r) := Lib.hid (HRwt2.out.trans hrd)
  have Y2wt3 := Lib.hid (stay hrd.grown Y2wt2.out (by omega))
  have Y3wt3 := Lib.hid (stay hrd.grown Y3wt2.out (by omega))
  clear hrd
  have q0 : wt3.cell? ⟨w1.heap.size, 0, none⟩ = some (.int .i64 K) := (cell_at Y3wt3.out 0).trans rfl
  have q1 : wt3.cell? ⟨w1.heap.size, 1, none⟩ = some (.string (str T)) := (cell_at Y3wt3.out 1).trans rfl
  go_wp2_with fail
  refine (HNH.out T r p r' HE.out HOK.out hnl _ b mv HRwt3.out.rd).mono ?_
  rintro e w6 ⟨gv, rfl, hpt5, hrd⟩
  have P5 := Lib.hid hpt5
  have HRw6 : Hid (RdTo w w6 b mv r') := Lib.hid (HRwt3.out.trans hrd)
  have Y2w6 := Lib.hid (stay hrd.grown Y2wt3.out (by omega))
  obtain ⟨⟨Ag, cg, hgv, v1, v2, -⟩, -⟩ := hpt5
  simp only at hgv v1
  subst hgv
  unfold maxLen at v2
  clear hrd q0 q1
  have g0 : w6.cell? ⟨w.heap.size, 0, none⟩ = some (.slice none 0 0) := (cell_at Y2w6.out 0).trans rfl
  have g1 : w6.cell? ⟨w.heap.size, 1, none⟩ = some (.int .i64 0) := (cell_at Y2w6.out 1).trans rfl
  have g2 : w6.cell? ⟨w.heap.size, 2, none⟩ = some (.int .i64 0) := (cell_at Y2w6.out 2).trans rfl
  have e0 : w6.frozen? ⟨w.heap.size, 0, none⟩ = false := free_at Y2w6.out 0
  have e1 : w6.frozen? ⟨w.heap.size, 1, none⟩ = false := free_at Y2w6.out 1
  have e2 : w6.frozen? ⟨w.heap.size, 2, none⟩ = false := free_at Y2w6.out 2
  go_wp2
  refine bodyPost_ret (v := .agg #[.slice Ag p.e.length cg, .int .i64 ((p).nodes : Int), .int .i64 ((p).deep : Int)]) ?_ rfl (PartTo.laid rfl rfl HRw6.out hlt (Nat.le_refl _) Y2w6.out P5.out)
  obtain ⟨k0, k1, k2⟩ := trip_cells (.slice Ag p.e.length cg) (.int .i64 ((p).nodes : Int)) (.int .i64 ((p).deep : Int)) Y2w6.out
  clear g0 g1 g2 e0 e1 e2
  simp [results, Tryz.results157, go_sem, k0, k1, k2]
end Go.Proofs.YtgohhnbdicdenaaGreatDoor.Ex

/- The method single of a reader. Conditions: the contracts of level and named at less fuel; a reader lies in memory. -/
namespace Go.Proofs.YtgohhnbdicdenaaGreatDoor.Ex
open Go.ChangeShapes Go.WideShapes Go.ChangeAt Go.RowKit
open Go.Proofs.YtgohhnbdicdenaaGreatDoor.Tr (str ret_bool ret_int Bytes Nd joinM roomM own_block)
set_option linter.unusedVariables false
set_option linter.unusedSimpArgs false

set_option maxRecDepth 100000 in
set_option maxHeartbeats 4000000 in
theorem single_c7 (f : Nat) (HL : ∀ g, g ≤ f → LevOk g) (HN : NamedOk f) (r : Rd) (p : Pt) (r' : Rd) (h : run (f + 1) .single r = some (p, r')) (hok : OkR r) (w : World) (b : Nat) (mv : Nat → Value) (hr : RdAt w b mv r)
    (h0 : r.isB lp = false) (h1 : r.isB [105, 102] = false) (h2 : r.isB [116, 114, 117, 101] = false) (h3 : r.isB [102, 97, 108, 115, 101] = false) (hk2 : ¬ r.cur.kind = 2) (hk1 : ¬ (r.cur.kind = 1 ∧ r.cur.text ≠ [])) : Calls Tryz.prog 157 #[.pointer (some ⟨b, 0, none⟩)] w (PartTo w b mv p r') := by
  have HLH := Lib.hid HL
  have HNH := Lib.hid HN
  have HOK := Lib.hid hok
  have HR := Lib.hid hr
  have hlt := hr.lt
  have hnx := hok.nx
  have H := Lib.hid h
  obtain ⟨t, ht⟩ : ∃ t, r.cur = t := ⟨_, rfl⟩
  have HT := Lib.hid ht
  have HC := Lib.hid (token_any b mv r (w.alloc (.cells #[.slice none 0 0, .int .i64 0, .int .i64 0] 167)) (hr.below (below_new w _)) hnx)
  obtain ⟨ok, hk⟩ : ∃ ok, decide (r.next < r.l.length) = ok := ⟨_, rfl⟩
  rw [ht, hk] at HC
  obtain ⟨K, T, P⟩ := t
  have hK2 := hk2
  rw [HT.out] at hK2
  simp only at hK2
  clear hk2
  have hK1 := hk1
  rw [HT.out] at hK1
  simp only at hK1
  clear hk1
  clear HL HN hok hr h ht hk
  go_enter Tryz.func157, Tryz.ntmps157
  go_wp2_with fail
  refine HC.out.mono ?_
  rintro e w1 ⟨rfl, hb1⟩
  have X2 := Lib.hid ((hb1.block w.heap.size (by simp)).trans (heap_alloc_new w _))
  have HRD := Lib.hid ((RdTo.of_below (HR.out.below (below_new w _)) hb1).below (below_new w _) hlt)
  have hs1 := hb1.size
  simp at hs1
  clear hb1
  obtain ⟨wa, hwa⟩ : ∃ wa, w1.alloc (.cells #[.int .i64 K, .string (str T), .int .i64 (P : Int)] 54) = wa := ⟨_, rfl⟩
  have Y2 : Hid (wa.heap[w.heap.size]? = some (.cells #[.slice none 0 0, .int .i64 0, .int .i64 0] 167 (0, 0))) := Lib.hid (by rw [← hwa]; exact stayA X2.out)
  have Y3 : Hid (wa.heap[w1.heap.size]? = some (.cells #[.int .i64 K, .string (str T), .int .i64 (P : Int)] 54 (0, 0))) := Lib.hid (by rw [← hwa]; exact heap_alloc_new w1 _)
  have HRA : Hid (RdTo w wa b mv r) := Lib.hid (by rw [← hwa]; exact HRD.out.then_below (below_new w1 _))
  have HWA := Lib.hid hwa
  clear hwa
  have hb3 : b < w1.heap.size := by omega
  have HRwa := HRA
  have Y2wa := Y2
  have Y3wa := Y3
  have HE : Hid (p = Pt.zero ∧ r' = r.fail 5) := Lib.hid (by
    have := H.out
    have e1 : r.cur.text = T := by rw [HT.out]
    have e2 : r.cur.kind = K := by rw [HT.out]
    simp only [run, h0, h1, h2, h3, if_false, Bool.false_eq_true, e1, e2, hK2] at this
    rw [if_neg hK1] at this
    simp only [Option.some.injEq, Prod.mk.injEq] at this
    exact ⟨this.1.symm, this.2.symm⟩)
  have hKd : (K == 2) = false := by simpa using hK2
  have HK := Lib.hid hK1
  have hcase : (K == 1) = false ∨ ((K == 1) = true ∧ T = []) := by
    by_cases h1 : K = 1
    · right; exact ⟨by simpa using h1, Classical.byContradiction fun hT => hK1 ⟨h1, hT⟩⟩
    · left; simpa using h1
  clear hK2 hK1
  rcases hcase with hKe | ⟨hKe, hT0⟩
  all_goals
    try have HT0 := Lib.hid hT0
    try have hTs3 : (str T).toList.isEmpty = true := by rw [Tr.str_toList, HT0.out]; rfl
    try clear hT0
    go_wp2_with fail
    rw [HWA.out]
    refine (take_at (s := lp) (B := false) rfl (h0) (HRwa.out.rd) hnx).mono ?_
    rintro e wt0 ⟨rfl, hrd⟩
    have HRwt0 : Hid (RdTo w wt0 b mv r) := Lib.hid (HRwa.out.trans hrd)
    have Y2wt0 := Lib.hid (stay hrd.grown Y2wa.out (by omega))
    have Y3wt0 := Lib.hid (stay hrd.grown Y3wa.out (by omega))
    clear hrd
    go_wp2_with fail
    refine (take_at (s := [105, 102]) (B := false) rfl (h1) (HRwt0.out.rd) hnx).mono ?_
    rintro e wt1 ⟨rfl, hrd⟩
    have HRwt1 : Hid (RdTo w wt1 b mv r) := Lib.hid (HRwt0.out.trans hrd)
    have Y2wt1 := Lib.hid (stay hrd.grown Y2wt0.out (by omega))
    have Y3wt1 := Lib.hid (stay hrd.grown Y3wt0.out (by omega))
    clear hrd
    go_wp2_with fail
    refine (take_at (s := [116, 114, 117, 101]) (B := false) rfl (h2) (HRwt1.out.rd) hnx).mono ?_
    rintro e wt2 ⟨rfl, hrd⟩
    have HRwt2 : Hid (RdTo w wt2 b mv r) := Lib.hid (HRwt1.out.trans hrd)
    have Y2wt2 := Lib.hid (stay hrd.grown Y2wt1.out (by omega))
    have Y3wt2 := Lib.hid (stay hrd.grown Y3wt1.out (by omega))
    clear hrd
    go_wp2_with fail
    refine (take_at (s := [102, 97, 108, 115, 101]) (B := false) rfl (h3) (HRwt2.out.rd) hnx).mono ?_
    rintro e wt3 ⟨rfl, hrd⟩
    have HRwt3 : Hid (RdTo w wt3 b mv r) := Lib.hid (HRwt2.out.trans hrd)
    have Y2wt3 := Lib.hid (stay hrd.grown Y2wt2.out (by omega))
    have Y3wt3 := Lib.hid (stay hrd.grown Y3wt2.out (by omega))
    clear hrd
    have q0 : wt3.cell? ⟨w1.heap.size, 0, none⟩ = some (.int .i64 K) := (cell_at Y3wt3.out 0).trans rfl
    have q1 : wt3.cell? ⟨w1.heap.size, 1, none⟩ = some (.string (str T)) := (cell_at Y3wt3.out 1).trans rfl
    go_wp2_with fail
    refine (fail_any b mv r 5 _ (HRwt3.out.rd) hnx).mono ?_
    rintro e w6 ⟨gv, rfl, hpt5, hrd⟩
    have P5 := Lib.hid hpt5
    have HRw6 : Hid (RdTo w w6 b mv (r.fail 5)) := Lib.hid (HRwt3.out.trans hrd)
    have Y2w6 := Lib.hid (stay hrd.grown Y2wt3.out (by omega))
    obtain ⟨⟨Ag, cg, hgv, v1, v2, -⟩, -⟩ := hpt5
    simp only at hgv v1
    subst hgv
    unfold maxLen at v2
    clear hrd q0 q1
    have g0 : w6.cell? ⟨w.heap.size, 0, none⟩ = some (.slice none 0 0) := (cell_at Y2w6.out 0).trans rfl
    have g1 : w6.cell? ⟨w.heap.size, 1, none⟩ = some (.int .i64 0) := (cell_at Y2w6.out 1).trans rfl
    have g2 : w6.cell? ⟨w.heap.size, 2, none⟩ = some (.int .i64 0) := (cell_at Y2w6.out 2).trans rfl
    have e0 : w6.frozen? ⟨w.heap.size, 0, none⟩ = false := free_at Y2w6.out 0
    have e1 : w6.frozen? ⟨w.heap.size, 1, none⟩ = false := free_at Y2w6.out 1
    have e2 : w6.frozen? ⟨w.heap.size, 2, none⟩ = false := free_at Y2w6.out 2
    go_wp2
    refine bodyPost_ret (v := .agg #[.slice Ag Pt.zero.e.length cg, .int .i64 ((Pt.zero).nodes : Int), .int .i64 ((Pt.zero).deep : Int)]) ?_ rfl (PartTo.laid HE.out.1 HE.out.2 HRw6.out hlt (Nat.le_refl _) Y2w6.out P5.out)
    obtain ⟨k0, k1, k2⟩ := trip_cells (.slice Ag Pt.zero.e.length cg) (.int .i64 ((Pt.zero).nodes : Int)) (.int .i64 ((Pt.zero).deep : Int)) Y2w6.out
    clear g0 g1 g2 e0 e1 e2
    simp [results, Tryz.results157, go_sem, k0, k1, k2]
end Go.Proofs.YtgohhnbdicdenaaGreatDoor.Ex

/- The method single of a reader. Conditions: the contracts of level and named at less fuel; a reader lies in memory. -/
namespace Go.Proofs.YtgohhnbdicdenaaGreatDoor.Ex
open Go.ChangeShapes Go.WideShapes Go.ChangeAt Go.RowKit
open Go.Proofs.YtgohhnbdicdenaaGreatDoor.Tr (str ret_bool ret_int Bytes Nd joinM roomM own_block)
set_option linter.unusedVariables false
set_option linter.unusedSimpArgs false

theorem single_any (f : Nat) (HL : ∀ g, g ≤ f → LevOk g) (HN : NamedOk f) : SingleOk (f + 1) := by
  intro r p r' h hok w b mv hr
  rcases Bool.eq_false_or_eq_true (r.isB lp) with h0 | h0
  · exact single_c1 f HL HN r p r' h hok w b mv hr h0
  rcases Bool.eq_false_or_eq_true (r.isB [105, 102]) with h1 | h1
  · exact single_c2 f HL HN r p r' h hok w b mv hr h0 h1
  rcases Bool.eq_false_or_eq_true (r.isB [116, 114, 117, 101]) with h2 | h2
  · exact single_c3 f HL HN r p r' h hok w b mv hr h0 h1 h2
  rcases Bool.eq_false_or_eq_true (r.isB [102, 97, 108, 115, 101]) with h3 | h3
  · exact single_c4 f HL HN r p r' h hok w b mv hr h0 h1 h2 h3
  by_cases hK2 : r.cur.kind = 2
  · exact single_c5 f HL HN r p r' h hok w b mv hr h0 h1 h2 h3 hK2
  by_cases hK1 : r.cur.kind = 1 ∧ r.cur.text ≠ []
  · exact single_c6 f HL HN r p r' h hok w b mv hr h0 h1 h2 h3 hK2 hK1
  · exact single_c7 f HL HN r p r' h hok w b mv hr h0 h1 h2 h3 hK2 hK1
end Go.Proofs.YtgohhnbdicdenaaGreatDoor.Ex

/- The method named of a reader: its list. Conditions: the contract of level at less fuel; a reader lies in memory. -/
namespace Go.Proofs.YtgohhnbdicdenaaGreatDoor.Ex
open Go.ChangeShapes Go.WideShapes Go.ChangeAt Go.RowKit
open Go.Proofs.YtgohhnbdicdenaaGreatDoor.Tr (str ret_bool ret_int Bytes Nd joinM roomM own_block)
set_option linter.unusedVariables false
set_option linter.unusedSimpArgs false

/-- What named has read: the list, as it lies in memory. -/
structure NBase (w : World) (b : Nat) (mv : Nat → Value) (wr : World) (lv : Value) (L : List (Value × Pt)) (rd : Rd) : Prop where
  own : wr.ownsRow (w.heap.size + 1) 167 3 lv L.length (ptsOf L)
  pts : ∀ x ∈ L, PtW wr x
  oks : ∀ x ∈ L, x.2.ok
  h4 : wr.heap[w.heap.size]? = some (.cells #[.slice none 0 0, .int .i64 0, .int .i64 0] 167 (0, 0))
  rd_ : RdTo w wr b mv rd
/-- Behind a call that turns the reader alone. -/
theorem NBase.on {w wr w' : World} {b : Nat} {mv : Nat → Value} {lv : Value} {L : List (Value × Pt)} {rd rd' : Rd} (h : NBase w b mv wr lv L rd) (hlt : b < w.heap.size) (hr : RdTo wr w' b mv rd') : NBase w b mv w' lv L rd' :=
  ⟨own_block h.own (fun g hg => hr.grown.block g (h.own.lt g hg).2 (fun e => by have := (h.own.lt g hg).1; injection e; omega)), fun x hx => (h.pts x hx).grown h.rd_.rd hr.grown, h.oks, (hr.grown.block _ (lt_of_block h.h4) (fun e => by injection e; omega)).trans h.h4, h.rd_.trans hr⟩
/-- Behind a call that writes nothing that is there. -/
theorem NBase.over {w wr w' : World} {b : Nat} {mv : Nat → Value} {lv : Value} {L : List (Value × Pt)} {rd : Rd} (h : NBase w b mv wr lv L rd) (hb : Below wr.heap.size wr w') : NBase w b mv w' lv L rd :=
  ⟨own_block h.own (fun g hg => hb.block g (h.own.lt g hg).2), fun x hx => (h.pts x hx).below hb, h.oks, (hb.block _ (lt_of_block h.h4)).trans h.h4, h.rd_.then_below hb⟩
/-- A round has laid a part. -/
theorem NBase.step {w w4 w5 : World} {b : Nat} {mv : Nat → Value} {lv lv2 fv : Value} {L : List (Value × Pt)} {r3 : Rd} {q3 : Pt} {o5 : Obj} (h : NBase w b mv w4 lv L r3) (hpt : PtW w4 (fv, q3))
    (hg5 : (w4.alloc o5).grownBy w5 lv.ownBlock) (hown5 : w5.ownsRow (w.heap.size + 1) 167 3 lv2 (L.length + 1) (ptsOf L ++ ptCells (fv, q3))) (hlt : b < w.heap.size) (hok : q3.ok) :
    NBase w b mv w5 lv2 (L ++ [(fv, q3)]) r3 := by
  have s5 := hg5.size
  simp at s5
  have z4 := lt_of_block h.h4
  have ol : ∀ g, lv.ownBlock = some g → w.heap.size + 1 ≤ g ∧ g < w4.heap.size := fun g hg => h.own.lt g hg
  have k5 : ∀ g, g < w4.heap.size → lv.ownBlock ≠ some g → w5.heap[g]? = w4.heap[g]? := fun g h1 h2 => (hg5.block g (by simp; omega) (fun e => h2 e.symm)).trans (Below.heap_alloc _ _ _ h1)
  have tl : ∀ k, lv.ownBlock = some k → ∃ cs f, (w4.alloc o5).heap[k]? = some (Obj.cells cs 167 f) := fun k hk => by
    obtain ⟨cs, f, hc⟩ := own_type h.own k hk
    exact ⟨cs, f, (Below.heap_alloc _ _ _ (ol k hk).2).trans hc⟩
  have r5 := (h.rd_.then_below (below_new w4 o5)).rowed hg5 (fun k hk => by have := (ol k hk).1; omega) hlt
  refine ⟨by rw [List.length_append, pts_snoc]; exact hown5, ?_, ?_, ?_, r5⟩
  · intro x hx
    simp only [List.mem_append, List.mem_singleton] at hx
    rcases hx with hx | rfl
    · exact ((h.pts x hx).below (below_new w4 o5)).rowed hg5 tl (by decide)
    · exact (hpt.below (below_new w4 o5)).rowed hg5 tl (by decide)
  · intro x hx
    simp only [List.mem_append, List.mem_singleton] at hx
    rcases hx with hx | rfl
    · exact h.oks x hx
    · exact hok
  · rw [k5 _ z4 (fun e => by have := (ol _ e).1; omega)]; exact h.h4
/-- The loop's head. -/
structure NAt (w : World) (b : Nat) (mv : Nat → Value) (s : Bytes) (p : Pt) (r' : Rd) (g : Nat) (wr : World) (rr : Rd) (lv : Value) (L : List (Value × Pt)) : Prop where
  run_ : run (g + 1) (.args s (L.map Prod.snd)) rr = some (p, r')
  base : NBase w b mv wr lv L rr
  mu : 1 + ((L.map Prod.snd).map Pt.nodes).sum + L.length ≤ rr.mu
  len : 1 ≤ L.length
  okr : OkR rr
theorem args_none {g : Nat} {s : Bytes} {ps : List Pt} {p : Pt} {r1 r' : Rd} (h : run (g + 1) (.args s ps) r1 = some (p, r')) (hs : r1.isB [44] = false) : p = joined 27 0 s ps ∧ r' = r1.need rp := by
  simp only [run, hs, Bool.false_eq_true, if_false, Option.some.injEq, Prod.mk.injEq] at h
  exact ⟨h.1.symm, h.2.symm⟩
theorem args_some {g : Nat} {s : Bytes} {ps : List Pt} {p : Pt} {r1 r' : Rd} (h : run (g + 1) (.args s ps) r1 = some (p, r')) (hs : r1.isB [44] = true) : ∃ x : Pt × Rd, run g (.lev 1) r1.adv = some x ∧ run g (.args s (ps ++ [x.1])) x.2 = some (p, r') := by
  simp only [run, hs, if_true] at h
  obtain ⟨x, ha, hb⟩ := bind_some h
  exact ⟨x, ha, hb⟩
theorem joinedL_at {w : World} {b : Nat} {lv : Value} {L : List (Value × Pt)} {s : Bytes} {S : ByteArray} (hS : S = str s) (h : w.ownsRow b 167 3 lv L.length (ptsOf L)) (hp : ∀ x ∈ L, PtW w x) (ho : ∀ x ∈ L, x.2.ok) (hn : 1 + ((L.map Prod.snd).map Pt.nodes).sum + L.length ≤ 100001) :
    Calls Tryz.prog 159 #[.int .i64 27, .int .i64 0, .string S, lv] w (JoinPost w (joined 27 0 s (L.map Prod.snd))) := by
  subst hS
  have ho' : ∀ p ∈ L.map Prod.snd, p.ok := fun p hp => by
    obtain ⟨x, hx, rfl⟩ := List.mem_map.1 hp
    exact ho x hx
  exact joined_any lv (L.map Prod.snd) 27 0 s w (parts_own h (fun x hx => (hp x hx).inn)) ho' (by rw [nodes_eq, if_pos rfl, List.length_map]; omega) (by rw [List.length_map]; omega) (room_of 27 _ ho' (.inl rfl))
end Go.Proofs.YtgohhnbdicdenaaGreatDoor.Ex

/- The method named of a reader. Conditions: the contract of level at less fuel; a reader lies in memory. -/
namespace Go.Proofs.YtgohhnbdicdenaaGreatDoor.Ex
open Go.ChangeShapes Go.WideShapes Go.ChangeAt Go.RowKit
open Go.Proofs.YtgohhnbdicdenaaGreatDoor.Tr (str ret_bool ret_int Bytes Nd joinM roomM own_block)
set_option linter.unusedVariables false
set_option linter.unusedSimpArgs false

set_option maxRecDepth 100000 in
set_option maxHeartbeats 4000000 in
theorem named_c1 (f : Nat) (HL : ∀ g, g ≤ f → LevOk g) (s : Bytes) (r : Rd) (p : Pt) (r' : Rd) (h : run (f + 1) (.named s) r = some (p, r')) (hok : OkR r) (hnl : r.next < r.l.length) (w : World) (b : Nat) (mv : Nat → Value) (hr : RdAt w b mv r)
    (h0 : r.adv.isB lp = false) : Calls Tryz.prog 166 #[.pointer (some ⟨b, 0, none⟩), .string (str s)] w (PartTo w b mv p r') := by
  have HLH := Lib.hid HL
  have HOK := Lib.hid hok
  have HR := Lib.hid hr
  have hlt := hr.lt
  have hnx := hok.nx
  have H := Lib.hid h
  have hadv := adv_step r hnl
  have HOK1 := Lib.hid (hok.step hadv)
  obtain ⟨lv0, hb0, _⟩ := hr.blk
  have c1 : w.cell? ⟨b, 1, none⟩ = some (.int .i64 (r.next : Int)) := rd_cell hb0 1
  have f1 : w.frozen? ⟨b, 1, none⟩ = false := rd_free hb0 1
  obtain ⟨wa, hwa⟩ : ∃ wa, (w.setCell ⟨b, 1, none⟩ (.int .i64 ((r.next : Int) + 1))).alloc (.cells #[.slice none 0 0, .int .i64 0, .int .i64 0] 167) = wa := ⟨_, rfl⟩
  have HRA : Hid (RdTo w wa b mv r.adv) := Lib.hid (by rw [← hwa]; exact hr.advTo.then_below (below_new _ _))
  have Y2 : Hid (wa.heap[w.heap.size]? = some (.cells #[.slice none 0 0, .int .i64 0, .int .i64 0] 167 (0, 0))) := Lib.hid (by rw [← hwa]; exact new_blk (by simp))
  have HWA := Lib.hid hwa
  clear HL hok hr h hadv hb0 hwa
  go_enter Tryz.func166, Tryz.ntmps166
  go_wp2_with fail
  rw [HWA.out]
  have HRwa := HRA
  have Y2wa := Y2
  have HE : Hid (p = joined 3 0 s [] ∧ r' = r.adv) := Lib.hid (by
    have := H.out
    simp only [run, h0, if_false, Bool.false_eq_true, Option.some.injEq, Prod.mk.injEq] at this
    exact ⟨this.1.symm, this.2.symm⟩)
  refine (take_at (s := lp) (B := false) rfl h0 (HRwa.out.rd) HOK1.out.nx).mono ?_
  rintro e wt0 ⟨rfl, hrd⟩
  have HRwt0 : Hid (RdTo w wt0 b mv r.adv) := Lib.hid (HRwa.out.trans hrd)
  have Y2wt0 := Lib.hid (stay hrd.grown Y2wa.out (by omega))
  clear hrd
  go_wp2_with fail
  refine (joined0_at (s := s) rfl).mono ?_
  rintro e w5 ⟨gv, rfl, hpt5, hb5⟩
  have P5 := Lib.hid hpt5
  have HRw5 := Lib.hid (HRwt0.out.then_below hb5)
  have Y2w5 := Lib.hid (stayB hb5 Y2wt0.out)
  obtain ⟨⟨Ag, cg, hgv, v1, v2, -⟩, -⟩ := hpt5
  simp only at hgv v1
  subst hgv
  unfold maxLen at v2
  clear hb5
  have g0 : w5.cell? ⟨w.heap.size, 0, none⟩ = some (.slice none 0 0) := (cell_at Y2w5.out 0).trans rfl
  have g1 : w5.cell? ⟨w.heap.size, 1, none⟩ = some (.int .i64 0) := (cell_at Y2w5.out 1).trans rfl
  have g2 : w5.cell? ⟨w.heap.size, 2, none⟩ = some (.int .i64 0) := (cell_at Y2w5.out 2).trans rfl
  have e0 : w5.frozen? ⟨w.heap.size, 0, none⟩ = false := free_at Y2w5.out 0
  have e1 : w5.frozen? ⟨w.heap.size, 1, none⟩ = false := free_at Y2w5.out 1
  have e2 : w5.frozen? ⟨w.heap.size, 2, none⟩ = false := free_at Y2w5.out 2
  go_wp2
  refine bodyPost_ret (v := .agg #[.slice Ag (joined 3 0 s []).e.length cg, .int .i64 ((joined 3 0 s []).nodes : Int), .int .i64 ((joined 3 0 s []).deep : Int)]) ?_ rfl (PartTo.laid HE.out.1 HE.out.2 HRw5.out hlt (Nat.le_refl _) Y2w5.out P5.out)
  obtain ⟨k0, k1, k2⟩ := trip_cells (.slice Ag (joined 3 0 s []).e.length cg) (.int .i64 ((joined 3 0 s []).nodes : Int)) (.int .i64 ((joined 3 0 s []).deep : Int)) Y2w5.out
  clear g0 g1 g2 e0 e1 e2
  simp [results, Tryz.results166, go_sem, k0, k1, k2]
end Go.Proofs.YtgohhnbdicdenaaGreatDoor.Ex

