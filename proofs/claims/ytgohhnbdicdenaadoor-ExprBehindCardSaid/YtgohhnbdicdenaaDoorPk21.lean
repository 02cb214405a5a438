/- The method single of a reader. Conditions: the contracts of level and named at less fuel; a reader lies in memory. -/
import Derived.Test.YtgohhnbdicdenaaDoorPk20
namespace Go.Proofs.YtgohhnbdicdenaaDoor.Ex
open Go.ChangeShapes Go.WideShapes Go.ChangeAt Go.RowKit
open Go.Proofs.YtgohhnbdicdenaaDoor.Tr (str ret_bool ret_int Bytes Nd joinM roomM own_block)
set_option linter.unusedVariables false
set_option linter.unusedSimpArgs false

set_option maxRecDepth 100000 in
set_option maxHeartbeats 4000000 in
theorem single_c2 (f : Nat) (HL : ∀ g, g ≤ f → LevOk g) (HN : NamedOk f) (r : Rd) (p : Pt) (r' : Rd) (h : run (f + 1) .single r = some (p, r')) (hok : OkR r) (w : World) (b : Nat) (mv : Nat → Value) (hr : RdAt w b mv r)
    (h0 : r.isB lp = false) (h1 : r.isB [105, 102] = true)  : Calls Tryd.prog 85 #[.pointer (some ⟨b, 0, none⟩)] w (PartTo w b mv p r') := by
  have HLH := Lib.hid HL
  have HNH := Lib.hid HN
  have HOK := Lib.hid hok
  have HR := Lib.hid hr
  have hlt := hr.lt
  have hnx := hok.nx
  have H := Lib.hid h
  obtain ⟨t, ht⟩ : ∃ t, r.cur = t := ⟨_, rfl⟩
  have HT := Lib.hid ht
  have HC := Lib.hid (token_any b mv r (w.alloc (.cells #[.slice none 0 0, .int .i64 0, .int .i64 0] 64)) (hr.below (below_new w _)) hnx)
  obtain ⟨ok, hk⟩ : ∃ ok, decide (r.next < r.l.length) = ok := ⟨_, rfl⟩
  rw [ht, hk] at HC
  obtain ⟨K, T, P⟩ := t
  clear HL HN hok hr h ht hk
  go_enter Tryd.func85, Tryd.ntmps85
  go_wp2_with fail
  refine HC.out.mono ?_
  rintro e w1 ⟨rfl, hb1⟩
  have X2 := Lib.hid ((hb1.block w.heap.size (by simp)).trans (heap_alloc_new w _))
  have HRD := Lib.hid ((RdTo.of_below (HR.out.below (below_new w _)) hb1).below (below_new w _) hlt)
  have hs1 := hb1.size
  simp at hs1
  clear hb1
  obtain ⟨wa, hwa⟩ : ∃ wa, w1.alloc (.cells #[.int .i64 K, .string (str T), .int .i64 (P : Int)] 43) = wa := ⟨_, rfl⟩
  have Y2 : Hid (wa.heap[w.heap.size]? = some (.cells #[.slice none 0 0, .int .i64 0, .int .i64 0] 64 (0, 0))) := Lib.hid (by rw [← hwa]; exact stayA X2.out)
  have Y3 : Hid (wa.heap[w1.heap.size]? = some (.cells #[.int .i64 K, .string (str T), .int .i64 (P : Int)] 43 (0, 0))) := Lib.hid (by rw [← hwa]; exact heap_alloc_new w1 _)
  have HRA : Hid (RdTo w wa b mv r) := Lib.hid (by rw [← hwa]; exact HRD.out.then_below (below_new w1 _))
  have HWA := Lib.hid hwa
  clear hwa
  have hb3 : b < w1.heap.size := by omega
  have HRwa := HRA
  have Y2wa := Y2
  have Y3wa := Y3
  obtain ⟨⟨a, r1⟩, k1, k⟩ : ∃ x : Pt × Rd, run f (.lev 1) r.adv = some x ∧ ((run f (.lev 1) (x.2.need [116, 104, 101, 110])).bind fun (b, r2) => (run f (.lev 1) (r2.need [101, 108, 115, 101])).map fun (c, r3) => (joined 26 0 [] [x.1, b, c], r3)) = some (p, r') := by
    have := H.out
    simp only [run, h0, h1, if_true, if_false, Bool.false_eq_true] at this
    obtain ⟨x, ha, hb⟩ := bind_some this
    exact ⟨x, ha, hb⟩
  obtain ⟨⟨bb, r2⟩, k2, k⟩ := bind_some k
  obtain ⟨⟨c, r3⟩, k3, k⟩ := map_some k
  simp only [Prod.mk.injEq] at k
  simp only at k2 k3
  have hadv := adv_step r (isB_lt h1)
  obtain ⟨st1, ok1, mu1⟩ := run_step _ _ _ _ _ k1 (hadv.fine HOK.out.fine) (by simp [Task.pre])
  have HOKA := Lib.hid (HOK.out.step hadv)
  have HOK1 := Lib.hid (HOKA.out.step st1)
  have hn1 := need_step [116, 104, 101, 110] r1 HOK1.out.fine
  have HOK1n := Lib.hid (HOK1.out.step hn1)
  obtain ⟨st2, ok2, mu2⟩ := run_step _ _ _ _ _ k2 HOK1n.out.fine (by simp [Task.pre])
  have HOK2 := Lib.hid (HOK1n.out.step st2)
  have hn2 := need_step [101, 108, 115, 101] r2 HOK2.out.fine
  have HOK2n := Lib.hid (HOK2.out.step hn2)
  obtain ⟨st3, ok3, mu3⟩ := run_step _ _ _ _ _ k3 HOK2n.out.fine (by simp [Task.pre])
  have HK1 := Lib.hid k1
  have HK2 := Lib.hid k2
  have HK3 := Lib.hid k3
  have HKE := Lib.hid k
  have HQ1 := Lib.hid ok1
  have HQ2 := Lib.hid ok2
  have HQ3 := Lib.hid ok3
  have hnod : a.nodes + bb.nodes + c.nodes ≤ 900000 := by
    have e1 := HOK1.out.mu; have e2 := HOK2.out.mu; have e3 := (HOK2n.out.step st3).mu
    simp only [Task.base] at mu1 mu2 mu3
    omega
  clear k1 k2 k3 k hadv st1 ok1 mu1 hn1 st2 ok2 mu2 hn2 st3 ok3 mu3
  go_wp2_with fail
  rw [HWA.out]
  refine (take_at (s := lp) (B := false) rfl (h0) (HRwa.out.rd) hnx).mono ?_
  rintro e wt0 ⟨rfl, hrd⟩
  have HRwt0 : Hid (RdTo w wt0 b mv r) := Lib.hid (HRwa.out.trans hrd)
  have Y2wt0 := Lib.hid (stay hrd.grown Y2wa.out (by omega))
  have Y3wt0 := Lib.hid (stay hrd.grown Y3wa.out (by omega))
  clear hrd
  go_wp2_with fail
  refine (take_at (s := [105, 102]) (B := true) rfl (h1) (HRwt0.out.rd) hnx).mono ?_
  rintro e wt1 ⟨rfl, hrd⟩
  have HRwt1 : Hid (RdTo w wt1 b mv r.adv) := Lib.hid (HRwt0.out.trans hrd)
  have Y2wt1 := Lib.hid (stay hrd.grown Y2wt0.out (by omega))
  have Y3wt1 := Lib.hid (stay hrd.grown Y3wt0.out (by omega))
  clear hrd
  go_wp2_with fail
  refine (lev_at (i := 1) (n := 1) (HLH.out f (Nat.le_refl _)) HK1.out rfl (by omega) (by omega) HOKA.out (HRwt1.out.rd)).mono ?_
  rintro e w3 ⟨evw3, rfl, hpt, hrd⟩
  have Pw3 := Lib.hid hpt
  have HRw3 : Hid (RdTo w w3 b mv r1) := Lib.hid (HRwt1.out.trans hrd)
  have Y2w3 := Lib.hid (stay hrd.grown Y2wt1.out (by omega))
  obtain ⟨⟨Aw3, cw3, hev, u1w3, u2w3, -⟩, -⟩ := hpt
  simp only at hev u1w3
  subst hev
  unfold maxLen at u2w3
  have hsw3 := hrd.grown.size
  clear hrd
  have hlt3 : w.heap.size < w3.heap.size := lt_of_block Y2w3.out
  go_wp2_with fail
  refine (need_at (s := [116, 104, 101, 110]) rfl (HRw3.out.rd.below (below_new w3 (.cells #[.slice Aw3 a.e.length cw3, .int .i64 (a.nodes : Int), .int .i64 (a.deep : Int)] 64))) HOK1.out.nx).mono ?_
  rintro e w4 ⟨rfl, hrd⟩
  have HRw4 : Hid (RdTo w w4 b mv (r1.need [116, 104, 101, 110])) := Lib.hid ((HRw3.out.then_below (below_new w3 _)).trans hrd)
  have Y2w4 := Lib.hid (stay hrd.grown (stayA Y2w3.out) (by omega))
  have Y6w4 := Lib.hid (stay hrd.grown (heap_alloc_new w3 (.cells #[.slice Aw3 a.e.length cw3, .int .i64 (a.nodes : Int), .int .i64 (a.deep : Int)] 64)) (by omega))
  have Paw4 := Lib.hid ((Pw3.out.below (below_new w3 (.cells #[.slice Aw3 a.e.length cw3, .int .i64 (a.nodes : Int), .int .i64 (a.deep : Int)] 64))).grown (HRw3.out.rd.below (below_new w3 _)) hrd.grown)
  clear hrd
  go_wp2_with fail
  refine (lev_at (i := 1) (n := 1) (HLH.out f (Nat.le_refl _)) HK2.out rfl (by omega) (by omega) HOK1n.out (HRw4.out.rd)).mono ?_
  rintro e w5 ⟨evw5, rfl, hpt, hrd⟩
  have Pw5 := Lib.hid hpt
  have HRw5 : Hid (RdTo w w5 b mv r2) := Lib.hid (HRw4.out.trans hrd)
  have Y2w5 := Lib.hid (stay hrd.grown Y2w4.out (by omega))
  have Y6w5 := Lib.hid (stay hrd.grown Y6w4.out (by omega))
  have Paw5 := Lib.hid (Paw4.out.grown HRw4.out.rd hrd.grown)
  obtain ⟨⟨Aw5, cw5, hev, u1w5, u2w5, -⟩, -⟩ := hpt
  simp only at hev u1w5
  subst hev
  unfold maxLen at u2w5
  have hsw5 := hrd.grown.size
  clear hrd
  have hlt5 : w3.heap.size < w5.heap.size := lt_of_block Y6w5.out
  go_wp2_with fail
  refine (need_at (s := [101, 108, 115, 101]) rfl (HRw5.out.rd.below (below_new w5 (.cells #[.slice Aw5 bb.e.length cw5, .int .i64 (bb.nodes : Int), .int .i64 (bb.deep : Int)] 64))) HOK2.out.nx).mono ?_
  rintro e w6 ⟨rfl, hrd⟩
  have HRw6 : Hid (RdTo w w6 b mv (r2.need [101, 108, 115, 101])) := Lib.hid ((HRw5.out.then_below (below_new w5 _)).trans hrd)
  have Y2w6 := Lib.hid (stay hrd.grown (stayA Y2w5.out) (by omega))
  have Y6w6 := Lib.hid (stay hrd.grown (stayA Y6w5.out) (by omega))
  have Y7w6 := Lib.hid (stay hrd.grown (heap_alloc_new w5 (.cells #[.slice Aw5 bb.e.length cw5, .int .i64 (bb.nodes : Int), .int .i64 (bb.deep : Int)] 64)) (by omega))
  have Paw6 := Lib.hid ((Paw5.out.below (below_new w5 (.cells #[.slice Aw5 bb.e.length cw5, .int .i64 (bb.nodes : Int), .int .i64 (bb.deep : Int)] 64))).grown (HRw5.out.rd.below (below_new w5 _)) hrd.grown)
  have Pbw6 := Lib.hid ((Pw5.out.below (below_new w5 (.cells #[.slice Aw5 bb.e.length cw5, .int .i64 (bb.nodes : Int), .int .i64 (bb.deep : Int)] 64))).grown (HRw5.out.rd.below (below_new w5 _)) hrd.grown)
  have z60 : w6.cell? ⟨w3.heap.size, 0, none⟩ = some (.slice Aw3 a.e.length cw3) := (cell_at Y6w6.out 0).trans rfl
  have z61 : w6.cell? ⟨w3.heap.size, 1, none⟩ = some (.int .i64 (a.nodes : Int)) := (cell_at Y6w6.out 1).trans rfl
  have z62 : w6.cell? ⟨w3.heap.size, 2, none⟩ = some (.int .i64 (a.deep : Int)) := (cell_at Y6w6.out 2).trans rfl
  have z70 : w6.cell? ⟨w5.heap.size, 0, none⟩ = some (.slice Aw5 bb.e.length cw5) := (cell_at Y7w6.out 0).trans rfl
  have z71 : w6.cell? ⟨w5.heap.size, 1, none⟩ = some (.int .i64 (bb.nodes : Int)) := (cell_at Y7w6.out 1).trans rfl
  have z72 : w6.cell? ⟨w5.heap.size, 2, none⟩ = some (.int .i64 (bb.deep : Int)) := (cell_at Y7w6.out 2).trans rfl
  clear hrd
  go_upto_region 11 with fail
  go_region_with ((first | (go_at_call 35; (with_reducible refine (lev_at (i := 1) (n := 1) (HLH.out f (Nat.le_refl _)) HK3.out rfl (by omega) (by omega) HOK2n.out (by first | exact HRw6.out.rd | exact HRw6.out.rd.drew)).mono ?_); rintro e w7 ⟨fv, rfl, hpt3, hrd3⟩; have HPT3 := Lib.hid hpt3; obtain ⟨⟨Af, cf, hfv, v1, v2, -⟩, -⟩ := hpt3; simp only at hfv v1; subst hfv; unfold maxLen at v2; have HG3 := Lib.hid (grown_undrew hrd3.grown); have HR3 := Lib.hid hrd3.rd; have V6 := Lib.hid (stay HG3.out Y6w6.out (by omega)); have V7 := Lib.hid (stay HG3.out Y7w6.out (by omega)); have V2 := Lib.hid (stay HG3.out Y2w6.out (by omega)); have t60 : w7.cell? ⟨w3.heap.size, 0, none⟩ = some (.slice Aw3 a.e.length cw3) := (cell_at V6.out 0).trans rfl; have t61 : w7.cell? ⟨w3.heap.size, 1, none⟩ = some (.int .i64 (a.nodes : Int)) := (cell_at V6.out 1).trans rfl; have t62 : w7.cell? ⟨w3.heap.size, 2, none⟩ = some (.int .i64 (a.deep : Int)) := (cell_at V6.out 2).trans rfl; have t70 : w7.cell? ⟨w5.heap.size, 0, none⟩ = some (.slice Aw5 bb.e.length cw5) := (cell_at V7.out 0).trans rfl; have t71 : w7.cell? ⟨w5.heap.size, 1, none⟩ = some (.int .i64 (bb.nodes : Int)) := (cell_at V7.out 1).trans rfl; have t72 : w7.cell? ⟨w5.heap.size, 2, none⟩ = some (.int .i64 (bb.deep : Int)) := (cell_at V7.out 2).trans rfl) | (go_at_call 87; (with_reducible refine (joined3_at (Paw6.out.grown HRw6.out.rd HG3.out) (Pbw6.out.grown HRw6.out.rd HG3.out) HPT3.out HQ1.out HQ2.out HQ3.out hnod).mono ?_); rintro e w8 ⟨gv, rfl, hpt4, hb4⟩; have HPT4 := Lib.hid hpt4; obtain ⟨⟨Ag, cg, hgv, v3, v4, -⟩, -⟩ := hpt4; simp only at hgv v3; subst hgv; unfold maxLen at v4; have HB4 := Lib.hid ((below_new w7 _).trans (hb4.mono (by simp))); have Y2w8 := Lib.hid (stayB HB4.out V2.out); have g0 : w8.cell? ⟨w.heap.size, 0, none⟩ = some (.slice none 0 0) := (cell_at Y2w8.out 0).trans rfl; have g1 : w8.cell? ⟨w.heap.size, 1, none⟩ = some (.int .i64 0) := (cell_at Y2w8.out 1).trans rfl; have g2 : w8.cell? ⟨w.heap.size, 2, none⟩ = some (.int .i64 0) := (cell_at Y2w8.out 2).trans rfl; have e0 : w8.frozen? ⟨w.heap.size, 0, none⟩ = false := free_at Y2w8.out 0; have e1 : w8.frozen? ⟨w.heap.size, 1, none⟩ = false := free_at Y2w8.out 1; have e2 : w8.frozen? ⟨w.heap.size, 2, none⟩ = false := free_at Y2w8.out 2)))
  all_goals go_wp2_with fail
  all_goals
    have HRw8 := Lib.hid ((HRw6.out.trans ⟨HR3.out, HG3.out⟩).then_below HB4.out)
    refine bodyPost_ret (v := .agg #[.slice Ag (joined 26 0 [] [a, bb, c]).e.length cg, .int .i64 ((joined 26 0 [] [a, bb, c]).nodes : Int), .int .i64 ((joined 26 0 [] [a, bb, c]).deep : Int)]) ?_ rfl (PartTo.laid HKE.out.1.symm HKE.out.2.symm HRw8.out hlt (Nat.le_refl _) Y2w8.out HPT4.out)
    obtain ⟨k0, k1, k2⟩ := trip_cells (.slice Ag (joined 26 0 [] [a, bb, c]).e.length cg) (.int .i64 ((joined 26 0 [] [a, bb, c]).nodes : Int)) (.int .i64 ((joined 26 0 [] [a, bb, c]).deep : Int)) Y2w8.out
    clear g0 g1 g2 e0 e1 e2
    simp [results, Tryd.results85, go_sem, k0, k1, k2]
end Go.Proofs.YtgohhnbdicdenaaDoor.Ex

