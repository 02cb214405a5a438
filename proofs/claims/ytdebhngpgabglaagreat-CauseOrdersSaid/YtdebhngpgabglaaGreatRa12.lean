/- Contracts of the document's reader of programs: an item. Conditions: a reader lies in memory. -/
import Derived.Test.YtdebhngpgabglaaGreatRa10
import Derived.Test.YtdebhngpgabglaaGreatRa11
set_option linter.unusedVariables false
set_option linter.unusedSimpArgs false
namespace Go.Proofs.YtdebhngpgabglaaGreat.Rp
open Go.ChangeShapes Go.WideShapes Go.ChangeAt Go.RowKit
open Go.Proofs.YtdebhngpgabglaaGreat.Ex
open Go.Proofs.YtdebhngpgabglaaGreat.Tr (str ret_bool ret_int Bytes Nd)
open Go.Proofs.YtdebhngpgabglaaGreat.Pg
set_option maxRecDepth 100000 in
set_option maxHeartbeats 8000000 in
theorem item_mode (b : Nat) (r : Rd) (w : World) (hr : RdIn w b r) (n : Bytes) (E F : List Nd) (r0 r1 r2 r3 r4 r5 r6 : Rd) (X : Option Itm × Rd) (t1 : takeQ wAssume r = (false, r)) (t2 : takeQ wGuarantee r = (false, r)) (t3 : takeQ wGhost r = (false, r)) (t4 : takeQ wMode r = (true, r0)) (h1 : nameP r0 = (n, r1)) (h2 : (needQ wRequire r1).2 = r2) (h3 : exprQ r2 = (E, r3)) (h4 : (needQ wEnsure r3).2 = r4) (h5 : exprQ r4 = (F, r5)) (h6 : (needQ sSemi r5).2 = r6) (he : (some (⟨4, n, 0, E, F, []⟩ : Itm), r6) = X) : Calls Tryz.prog 73 #[.pointer (some ⟨b, 0, none⟩)] w (ItmO w b X) := by
 have HR := Lib.hid hr
 have hlt := hr.lt
 have HE := Lib.hid he
 have T1 := Lib.hid t1
 have T2 := Lib.hid t2
 have T3 := Lib.hid t3
 have T4 := Lib.hid t4
 have H1 := Lib.hid h1
 have H2 := Lib.hid h2
 have HC3 : Hid (∀ w', RdIn w' b r2 → Calls Tryz.prog 74 #[.pointer (some ⟨b, 0, none⟩)] w' (ExpG w' b (E, r3))) := Lib.hid (fun w' h => by rw [← h3]; exact expr_any b r2 w' h)
 have H4 := Lib.hid h4
 have HC5 : Hid (∀ w', RdIn w' b r4 → Calls Tryz.prog 74 #[.pointer (some ⟨b, 0, none⟩)] w' (ExpG w' b (F, r5))) := Lib.hid (fun w' h => by rw [← h5]; exact expr_any b r4 w' h)
 have H6 := Lib.hid h6
 clear t1 t2 t3 t4 h1 h2 h3 h4 h5 h6 he hr
 have hBW : Below w.heap.size w ((w.alloc (.cells #[.int .i64 0, .string ⟨#[]⟩, .int .i64 0, .slice none 0 0, .slice none 0 0, .slice none 0 0] 129)).alloc (.cells #[.int .i64 0, .string ⟨#[]⟩, .int .i64 0, .slice none 0 0, .slice none 0 0, .slice none 0 0] 129)) := (below_new w _).alloc (below_new w _).size _
 have X0 : Hid (((w.alloc (.cells #[.int .i64 0, .string ⟨#[]⟩, .int .i64 0, .slice none 0 0, .slice none 0 0, .slice none 0 0] 129)).alloc (.cells #[.int .i64 0, .string ⟨#[]⟩, .int .i64 0, .slice none 0 0, .slice none 0 0, .slice none 0 0] 129)).heap[w.heap.size]? = some (.cells #[.int .i64 0, .string ⟨#[]⟩, .int .i64 0, .slice none 0 0, .slice none 0 0, .slice none 0 0] 129 (0, 0))) := Lib.hid (stayA (heap_alloc_new w _))
 have Y0 : Hid (((w.alloc (.cells #[.int .i64 0, .string ⟨#[]⟩, .int .i64 0, .slice none 0 0, .slice none 0 0, .slice none 0 0] 129)).alloc (.cells #[.int .i64 0, .string ⟨#[]⟩, .int .i64 0, .slice none 0 0, .slice none 0 0, .slice none 0 0] 129)).heap[w.heap.size + 1]? = some (.cells #[.int .i64 0, .string ⟨#[]⟩, .int .i64 0, .slice none 0 0, .slice none 0 0, .slice none 0 0] 129 (0, 0))) := Lib.hid (new_blk (by simp))
 have HG0 := Lib.hid (RdBy.of_below HR.out hBW)
 have hne : w.heap.size ≠ w.heap.size + 1 := by omega
 clear hBW
 go_enter Tryz.func73, Tryz.ntmps73
 go_wp2_with fail
 refine (take_lit (s := wAssume) rfl HG0.out.rd T1.out).mono ?_
 rintro e w1 ⟨rfl, hg1⟩
 have HG1 := Lib.hid (HG0.out.trans hg1)
 have x1 := hg1.block X0.out (by omega)
 have y1 := hg1.block Y0.out (by omega)
 have X1 := Lib.hid x1
 have Y1 := Lib.hid y1
 have lx1 := lt_of_block x1
 have ly1 := lt_of_block y1
 clear hg1 x1 y1 
 go_wp2_with fail
 refine (take_lit (s := wGuarantee) rfl HG1.out.rd T2.out).mono ?_
 rintro e w2 ⟨rfl, hg2⟩
 have HG2 := Lib.hid (HG1.out.trans hg2)
 have x2 := hg2.block X1.out (by omega)
 have y2 := hg2.block Y1.out (by omega)
 have X2 := Lib.hid x2
 have Y2 := Lib.hid y2
 have lx2 := lt_of_block x2
 have ly2 := lt_of_block y2
 clear hg2 x2 y2 
 go_wp2_with fail
 refine (take_lit (s := wGhost) rfl HG2.out.rd T3.out).mono ?_
 rintro e w3 ⟨rfl, hg3⟩
 have HG3 := Lib.hid (HG2.out.trans hg3)
 have x3 := hg3.block X2.out (by omega)
 have y3 := hg3.block Y2.out (by omega)
 have X3 := Lib.hid x3
 have Y3 := Lib.hid y3
 have lx3 := lt_of_block x3
 have ly3 := lt_of_block y3
 clear hg3 x3 y3 
 go_wp2_with fail
 refine (take_lit (s := wMode) rfl HG3.out.rd T4.out).mono ?_
 rintro e w4 ⟨rfl, hg4⟩
 have HG4 := Lib.hid (HG3.out.trans hg4)
 have x4 := hg4.block X3.out (by omega)
 have y4 := hg4.block Y3.out (by omega)
 have X4 := Lib.hid x4
 have Y4 := Lib.hid y4
 have lx4 := lt_of_block x4
 have ly4 := lt_of_block y4
 clear hg4 x4 y4 
 have q4_0 : w4.cell? ⟨w.heap.size + 1, 0, none⟩ = some (.int .i64 0) := (cell_at Y4.out 0).trans rfl
 have k4_0 : w4.frozen? ⟨w.heap.size + 1, 0, none⟩ = false := free_at Y4.out 0
 have Y4a : Hid ((w4.setCell ⟨w.heap.size + 1, 0, none⟩ (.int .i64 4)).heap[w.heap.size + 1]? = some (.cells #[.int .i64 4, .string ⟨#[]⟩, .int .i64 0, .slice none 0 0, .slice none 0 0, .slice none 0 0] 129 (0, 0))) := Lib.hid (by have z := setObj_heap (v := .int .i64 4) Y4.out (k := 0) (by simp); simpa using z)
 have X4a := Lib.hid (set_other (k := 0) (v := .int .i64 4) X4.out hne)
 have HG4a := Lib.hid (HG4.out.setLocal (k := 0) (B := w.heap.size + 1) (by omega) hlt (.int .i64 4))
 go_wp2_with fail
 refine (name_lit HG4a.out.rd H1.out).mono ?_
 rintro e w5 ⟨rfl, hg5⟩
 have HG5 := Lib.hid (HG4a.out.trans hg5)
 have x5 := hg5.block X4a.out (by omega)
 have y5 := hg5.block Y4a.out (by omega)
 have X5 := Lib.hid x5
 have Y5 := Lib.hid y5
 have lx5 := lt_of_block x5
 have ly5 := lt_of_block y5
 clear hg5 x5 y5 
 clear q4_0 k4_0
 have q5_1 : w5.cell? ⟨w.heap.size + 1, 1, none⟩ = some (.string ⟨#[]⟩) := (cell_at Y5.out 1).trans rfl
 have k5_1 : w5.frozen? ⟨w.heap.size + 1, 1, none⟩ = false := free_at Y5.out 1
 have Y5a : Hid ((w5.setCell ⟨w.heap.size + 1, 1, none⟩ (.string (str n))).heap[w.heap.size + 1]? = some (.cells #[.int .i64 4, .string (str n), .int .i64 0, .slice none 0 0, .slice none 0 0, .slice none 0 0] 129 (0, 0))) := Lib.hid (by have z := setObj_heap (v := .string (str n)) Y5.out (k := 1) (by simp); simpa using z)
 have X5a := Lib.hid (set_other (k := 1) (v := .string (str n)) X5.out hne)
 have HG5a := Lib.hid (HG5.out.setLocal (k := 1) (B := w.heap.size + 1) (by omega) hlt (.string (str n)))
 go_wp2_with fail
 refine (need_lit (s := wRequire) rfl HG5a.out.rd H2.out).mono ?_
 rintro e w6 ⟨rfl, hg6⟩
 have HG6 := Lib.hid (HG5a.out.trans hg6)
 have x6 := hg6.block X5a.out (by omega)
 have y6 := hg6.block Y5a.out (by omega)
 have X6 := Lib.hid x6
 have Y6 := Lib.hid y6
 have lx6 := lt_of_block x6
 have ly6 := lt_of_block y6
 clear hg6 x6 y6 
 clear q5_1 k5_1
 go_wp2_with fail
 refine (HC3.out _ HG6.out.rd).mono ?_
 rintro e w7 ⟨ev, rfl, hp7, hg7⟩
 have HG7 := Lib.hid (HG6.out.trans hg7)
 have x7 := hg7.block X6.out (by omega)
 have y7 := hg7.block Y6.out (by omega)
 have X7 := Lib.hid x7
 have Y7 := Lib.hid y7
 have lx7 := lt_of_block x7
 have ly7 := lt_of_block y7
 obtain ⟨A1, n1, c1, rfl, u1, v1⟩ := pt_form hp7
 have F1_7 := Lib.hid hp7
 clear hg7 x7 y7 hp7
 have q7_3 : w7.cell? ⟨w.heap.size + 1, 3, none⟩ = some (.slice none 0 0) := (cell_at Y7.out 3).trans rfl
 have k7_3 : w7.frozen? ⟨w.heap.size + 1, 3, none⟩ = false := free_at Y7.out 3
 have Y7a : Hid ((w7.setCell ⟨w.heap.size + 1, 3, none⟩ (.slice A1 n1 c1)).heap[w.heap.size + 1]? = some (.cells #[.int .i64 4, .string (str n), .int .i64 0, .slice A1 n1 c1, .slice none 0 0, .slice none 0 0] 129 (0, 0))) := Lib.hid (by have z := setObj_heap (v := .slice A1 n1 c1) Y7.out (k := 3) (by simp); simpa using z)
 have X7a := Lib.hid (set_other (k := 3) (v := .slice A1 n1 c1) X7.out hne)
 have HG7a := Lib.hid (HG7.out.setLocal (k := 3) (B := w.heap.size + 1) (by omega) hlt (.slice A1 n1 c1))
 have F1_7a := Lib.hid ((stay_set (P := fun t => t = 129) (k := 3) Y7.out rfl (.slice A1 n1 c1)).pt (by decide) F1_7.out)
 go_wp2_with fail
 refine (need_lit (s := wEnsure) rfl HG7a.out.rd H4.out).mono ?_
 rintro e w8 ⟨rfl, hg8⟩
 have HG8 := Lib.hid (HG7a.out.trans hg8)
 have x8 := hg8.block X7a.out (by omega)
 have y8 := hg8.block Y7a.out (by omega)
 have X8 := Lib.hid x8
 have Y8 := Lib.hid y8
 have lx8 := lt_of_block x8
 have ly8 := lt_of_block y8
 have F1_8 := Lib.hid ((RdBy.stay HG7a.out.rd hg8).pt (by decide) F1_7a.out)
 clear hg8 x8 y8 
 clear q7_3 k7_3
 go_wp2_with fail
 refine (HC5.out _ HG8.out.rd).mono ?_
 rintro e w9 ⟨fv, rfl, hp9, hg9⟩
 have HG9 := Lib.hid (HG8.out.trans hg9)
 have x9 := hg9.block X8.out (by omega)
 have y9 := hg9.block Y8.out (by omega)
 have X9 := Lib.hid x9
 have Y9 := Lib.hid y9
 have lx9 := lt_of_block x9
 have ly9 := lt_of_block y9
 have F1_9 := Lib.hid ((RdBy.stay HG8.out.rd hg9).pt (by decide) F1_8.out)
 obtain ⟨A2, n2, c2, rfl, u2, v2⟩ := pt_form hp9
 have F2_9 := Lib.hid hp9
 clear hg9 x9 y9 hp9
 have q9_4 : w9.cell? ⟨w.heap.size + 1, 4, none⟩ = some (.slice none 0 0) := (cell_at Y9.out 4).trans rfl
 have k9_4 : w9.frozen? ⟨w.heap.size + 1, 4, none⟩ = false := free_at Y9.out 4
 have Y9a : Hid ((w9.setCell ⟨w.heap.size + 1, 4, none⟩ (.slice A2 n2 c2)).heap[w.heap.size + 1]? = some (.cells #[.int .i64 4, .string (str n), .int .i64 0, .slice A1 n1 c1, .slice A2 n2 c2, .slice none 0 0] 129 (0, 0))) := Lib.hid (by have z := setObj_heap (v := .slice A2 n2 c2) Y9.out (k := 4) (by simp); simpa using z)
 have X9a := Lib.hid (set_other (k := 4) (v := .slice A2 n2 c2) X9.out hne)
 have HG9a := Lib.hid (HG9.out.setLocal (k := 4) (B := w.heap.size + 1) (by omega) hlt (.slice A2 n2 c2))
 have F1_9a := Lib.hid ((stay_set (P := fun t => t = 129) (k := 4) Y9.out rfl (.slice A2 n2 c2)).pt (by decide) F1_9.out)
 have F2_9a := Lib.hid ((stay_set (P := fun t => t = 129) (k := 4) Y9.out rfl (.slice A2 n2 c2)).pt (by decide) F2_9.out)
 go_wp2_with fail
 refine (need_lit (s := sSemi) rfl HG9a.out.rd H6.out).mono ?_
 rintro e w10 ⟨rfl, hg10⟩
 have HG10 := Lib.hid (HG9a.out.trans hg10)
 have x10 := hg10.block X9a.out (by omega)
 have y10 := hg10.block Y9a.out (by omega)
 have X10 := Lib.hid x10
 have Y10 := Lib.hid y10
 have lx10 := lt_of_block x10
 have ly10 := lt_of_block y10
 have F1_10 := Lib.hid ((RdBy.stay HG9a.out.rd hg10).pt (by decide) F1_9a.out)
 have F2_10 := Lib.hid ((RdBy.stay HG9a.out.rd hg10).pt (by decide) F2_9a.out)
 clear hg10 x10 y10 
 clear q9_4 k9_4
 have q10_0 : w10.cell? ⟨w.heap.size + 1, 0, none⟩ = some (.int .i64 4) := (cell_at Y10.out 0).trans rfl
 have p0 : w10.cell? ⟨w.heap.size, 0, none⟩ = some (.int .i64 0) := (cell_at X10.out 0).trans rfl
 have g0 : w10.frozen? ⟨w.heap.size, 0, none⟩ = false := free_at X10.out 0
 have q10_1 : w10.cell? ⟨w.heap.size + 1, 1, none⟩ = some (.string (str n)) := (cell_at Y10.out 1).trans rfl
 have p1 : w10.cell? ⟨w.heap.size, 1, none⟩ = some (.string ⟨#[]⟩) := (cell_at X10.out 1).trans rfl
 have g1 : w10.frozen? ⟨w.heap.size, 1, none⟩ = false := free_at X10.out 1
 have q10_2 : w10.cell? ⟨w.heap.size + 1, 2, none⟩ = some (.int .i64 0) := (cell_at Y10.out 2).trans rfl
 have p2 : w10.cell? ⟨w.heap.size, 2, none⟩ = some (.int .i64 0) := (cell_at X10.out 2).trans rfl
 have g2 : w10.frozen? ⟨w.heap.size, 2, none⟩ = false := free_at X10.out 2
 have q10_3 : w10.cell? ⟨w.heap.size + 1, 3, none⟩ = some (.slice A1 n1 c1) := (cell_at Y10.out 3).trans rfl
 have p3 : w10.cell? ⟨w.heap.size, 3, none⟩ = some (.slice none 0 0) := (cell_at X10.out 3).trans rfl
 have g3 : w10.frozen? ⟨w.heap.size, 3, none⟩ = false := free_at X10.out 3
 have q10_4 : w10.cell? ⟨w.heap.size + 1, 4, none⟩ = some (.slice A2 n2 c2) := (cell_at Y10.out 4).trans rfl
 have p4 : w10.cell? ⟨w.heap.size, 4, none⟩ = some (.slice none 0 0) := (cell_at X10.out 4).trans rfl
 have g4 : w10.frozen? ⟨w.heap.size, 4, none⟩ = false := free_at X10.out 4
 have q10_5 : w10.cell? ⟨w.heap.size + 1, 5, none⟩ = some (.slice none 0 0) := (cell_at Y10.out 5).trans rfl
 have p5 : w10.cell? ⟨w.heap.size, 5, none⟩ = some (.slice none 0 0) := (cell_at X10.out 5).trans rfl
 have g5 : w10.frozen? ⟨w.heap.size, 5, none⟩ = false := free_at X10.out 5
 go_wp2
 have Z := blk6 X10.out (.int .i64 4) (.string (str n)) (.int .i64 0) (.slice A1 n1 c1) (.slice A2 n2 c2) (.slice none 0 0)
 have hsz : w10.heap.size ≤ ((((((w10.setCell ⟨w.heap.size, 0, none⟩ (.int .i64 4)).setCell ⟨w.heap.size, 1, none⟩ (.string (str n))).setCell ⟨w.heap.size, 2, none⟩ (.int .i64 0)).setCell ⟨w.heap.size, 3, none⟩ (.slice A1 n1 c1)).setCell ⟨w.heap.size, 4, none⟩ (.slice A2 n2 c2)).setCell ⟨w.heap.size, 5, none⟩ (.slice none 0 0)).heap.size := by simp [World.setCell]
 have hst : Stay (fun t => t = 129) w10 ((((((w10.setCell ⟨w.heap.size, 0, none⟩ (.int .i64 4)).setCell ⟨w.heap.size, 1, none⟩ (.string (str n))).setCell ⟨w.heap.size, 2, none⟩ (.int .i64 0)).setCell ⟨w.heap.size, 3, none⟩ (.slice A1 n1 c1)).setCell ⟨w.heap.size, 4, none⟩ (.slice A2 n2 c2)).setCell ⟨w.heap.size, 5, none⟩ (.slice none 0 0)) := stay_sets X10.out rfl hsz (fun g hg => by simp only [set_ne hg])
 have z0 := (cell_at Z 0).trans (show _ = some (.int .i64 4) from rfl)
 have z1 := (cell_at Z 1).trans (show _ = some (.string (str n)) from rfl)
 have z2 := (cell_at Z 2).trans (show _ = some (.int .i64 0) from rfl)
 have z3 := (cell_at Z 3).trans (show _ = some (.slice A1 n1 c1) from rfl)
 have z4 := (cell_at Z 4).trans (show _ = some (.slice A2 n2 c2) from rfl)
 have z5 := (cell_at Z 5).trans (show _ = some (.slice none 0 0) from rfl)
 clear p0 g0 p1 g1 p2 g2 p3 g3 p4 g4 p5 g5 q10_0 q10_1 q10_2 q10_3 q10_4 q10_5
 exact bodyPost_ret (v := .tuple #[.agg #[.int .i64 4, .string (str n), .int .i64 0, .slice A1 n1 c1, .slice A2 n2 c2, .slice none 0 0], .bool true]) (by simp [results, Tryz.results73, go_sem, z0, z1, z2, z3, z4, z5]) rfl (ItmO.of HE.out (hst.pt (by decide) F1_10.out) (hst.pt (by decide) F2_10.out) (RowR.nil _ _ _ _) ((((((HG10.out.setLocal (by omega) hlt _).setLocal (by omega) hlt _).setLocal (by omega) hlt _).setLocal (by omega) hlt _).setLocal (by omega) hlt _).setLocal (by omega) hlt _))
end Go.Proofs.YtdebhngpgabglaaGreat.Rp
/- Contracts of the document's reader of programs: arguments. Conditions: a reader lies in memory. -/
namespace Go.Proofs.YtdebhngpgabglaaGreat.Rp
open Go.ChangeShapes Go.WideShapes Go.ChangeAt Go.RowKit
open Go.Proofs.YtdebhngpgabglaaGreat.Ex
open Go.Proofs.YtdebhngpgabglaaGreat.Tr (str ret_bool ret_int Bytes Nd)
open Go.Proofs.YtdebhngpgabglaaGreat.Pg
theorem info23_args : (Tryz.prog.info? 23).map (fun i => (i.zero, i.size, i.bytes)) = some (some (.slice none 0 0), 1, 24) := by kernel_rfl
set_option maxRecDepth 100000 in
set_option maxHeartbeats 8000000 in
theorem args_any (b : Nat) (r : Rd) (w : World) (hr : RdIn w b r) : Calls Tryz.prog 86 #[.pointer (some ⟨b, 0, none⟩)] w (RowG 23 1 ExpV w b (inQ sComma exprQ r)) := by
 have HR := Lib.hid hr
 have hlt := hr.lt
 obtain ⟨i0, hi, hz0, hz1, hz2⟩ := info_parts info23_args
 obtain ⟨r1, h1⟩ : ∃ x, (needQ [40] r).2 = x := ⟨_, rfl⟩
 obtain ⟨⟨B, r2⟩, h2⟩ : ∃ x, takeQ [41] r1 = x := ⟨_, rfl⟩
 obtain ⟨X, hX⟩ : ∃ X, inQ sComma exprQ r = X := ⟨_, rfl⟩
 have HX : Hid ((if B then ([], r2) else inF sComma exprQ rowMax [] r2) = X) := Lib.hid ((inQ_eq h1 h2).symm.trans hX)
 have H1 := Lib.hid h1
 have H2 := Lib.hid h2
 rw [hX]
 clear h1 h2 hX hr
 go_enter Tryz.func86, Tryz.ntmps86
 go_wp2_with fail
 refine (need_lit (s := [40]) rfl HR.out H1.out).mono ?_
 rintro e wa ⟨rfl, hga⟩
 have HGA := Lib.hid hga
 clear hga
 go_wp2_with fail
 refine (take_lit (s := [41]) rfl HGA.out.rd H2.out).mono ?_
 rintro e wb ⟨rfl, hgb⟩
 have HGB := Lib.hid (HGA.out.trans hgb)
 clear hgb
 cases B with
 | true =>
  have HE : Hid (([], r2) = X) := Lib.hid HX.out
  go_wp2
  go_ret
  exact RowG.of HE.out (RowR.nil _ _ _ _) HGB.out
 | false =>
 have HE0 : Hid (inF sComma exprQ rowMax [] r2 = X) := Lib.hid HX.out
 go_wp2
 go_loopg [3] rowMax (fun g s3 wr => ∃ (rr : Rd) (ov : Value) (acc : List (List Nd)) (xs : List (List Value)), ov = s3 ∧ acc.length ≤ 201 ∧ 1 ≤ g ∧ (rr.code = 0 → acc.length ≤ 200 ∧ 202 ≤ acc.length + g) ∧ OList 23 1 ExpV wr w.heap.size ov acc xs ∧ RdBy w wr b rr ∧ inF sComma exprQ g acc rr = X)
 case atStart => exact ⟨r2, _, [], [], rfl, by simp, by simp [rowMax], fun _ => by simp [rowMax], OList.nil _ _, HGB.out, HE0.out⟩
 case round =>
  obtain ⟨rr, ov, acc, xs, hov, ha, hg1, hag, hol, hgr, hrow⟩ := hrel
  subst hov
  have HOL := Lib.hid hol
  have HGR := Lib.hid hgr
  have HROW := Lib.hid hrow
  obtain ⟨A0, c0, hv0, hn1, hn2⟩ := own_form hol.own
  subst hv0
  have hs0 := hgr.grown.size
  clear hol hgr hrow
  cases gk with
  | zero => omega
  | succ gk =>
  by_cases hc : rr.code = 0
  rotate_left
  · have HE : Hid (([], rr) = X) := Lib.hid ((inF_dead hc).symm.trans HROW.out)
    have HOK := Lib.hid (ok_lit (B := false) HGR.out.rd (by simpa using hc))
    clear hc
    go_wp2_with fail
    refine HOK.out.mono ?_
    rintro e w1 ⟨rfl, rfl⟩
    go_wp2
    go_ret
    exact RowG.of HE.out (RowR.nil _ _ _ _) HGR.out
  have hag' := hag hc
  have HOK := Lib.hid (ok_lit (B := true) HGR.out.rd (by rw [hc]; rfl))
  clear hag
  obtain ⟨r1, k1⟩ : ∃ x, (roomQ acc.length rr).2 = x := ⟨_, rfl⟩
  have HK1 := Lib.hid (room_lit (n := acc.length) (by omega) HGR.out.rd k1)
  obtain ⟨⟨a, r2⟩, k2⟩ : ∃ x, exprQ r1 = x := ⟨_, rfl⟩
  have HO : Hid (∀ w', RdIn w' b r1 → Calls Tryz.prog 74 #[.pointer (some ⟨b, 0, none⟩)] w' (ExpG w' b (a, r2))) := Lib.hid (fun w' h => by rw [← k2]; exact expr_any b r1 w' h)
  obtain ⟨⟨B, r3⟩, k3⟩ : ∃ x, takeQ [41] r2 = x := ⟨_, rfl⟩
  obtain ⟨r4, k4⟩ : ∃ x, (needQ sComma r3).2 = x := ⟨_, rfl⟩
  have HST : Hid (r4.code = 0 → acc.length < 200) := Lib.hid (fun h => room_code k1 (Classical.byContradiction fun hn => by
   have s1 := stick_expr r1 hn
   rw [k2] at s1
   have s2 := stick_take [41] r2 s1
   rw [k3] at s2
   have s3 := stick_need sComma r3 s2
   rw [k4] at s3
   exact s3 h))
  have HE : Hid ((if B then (acc ++ [a], r3) else inF sComma exprQ gk (acc ++ [a]) r4) = X) := Lib.hid (by
   rw [← HROW.out]
   cases B with
   | true => exact (inF_end hc k1 k2 k3).symm
   | false => exact (inF_step hc k1 k2 k3 k4).symm)
  have K3 := Lib.hid k3
  have K4 := Lib.hid k4
  clear k1 k2 k3 k4 hc
  go_wp2_with fail
  refine HOK.out.mono ?_
  rintro e w0 ⟨rfl, rfl⟩
  go_wp2_with fail
  refine HK1.out.mono ?_
  rintro e w1 ⟨rfl, hg1⟩
  have HG1 := Lib.hid hg1
  have hs1 := hg1.grown.size
  have HOL1 := Lib.hid (HOL.out.stay (RdBy.stay HGR.out.rd hg1) (by decide) (fun a x hx => ExpV.stay (RdBy.stay HGR.out.rd hg1) (by decide) a x hx))
  clear hg1
  go_wp2_with fail
  refine (HO.out w1 HG1.out.rd).mono ?_
  rintro e w2 ⟨ev, rfl, hp, hg2⟩
  have HG2 := Lib.hid hg2
  have hs2 := hg2.grown.size
  have HOL2 := Lib.hid (HOL1.out.stay (RdBy.stay HG1.out.rd hg2) (by decide) (fun a x hx => ExpV.stay (RdBy.stay HG1.out.rd hg2) (by decide) a x hx))
  clear hg2
  obtain ⟨A2, n2, c2, rfl, y1, y2⟩ := pt_form hp
  have HXV : Hid (ExpV w2 a [.slice A2 n2 c2]) := Lib.hid ⟨_, rfl, hp⟩
  clear hp
  go_wp2_with (at_builtin; refine wpList_append_own _ rfl (.tmp 14) (.tmp 17) 127 rfl w.heap.size 23 i0 _ 1 24 Tryz.underlying127 hi hz0 hz1 hz2 rfl (by decide) _ acc.length xs.flatten rfl (HOL2.out.own.alloc _) ⟨w2.heap.size, 0, none⟩ 1 1 [.slice A2 n2 c2] rfl rfl ?a1 ?b1 ?c1 ?d1 ?e1 ?_)
  case a1 => first | exact (fun j u h => h) | exact news_new _ #[.slice A2 n2 c2] _ [.slice A2 n2 c2] rfl rfl
  case b1 => simp [Value.oneCell']
  case c1 => unfold maxLen; omega
  case d1 => omega
  case e1 => simp; omega
  intro v3 w3 hown3 hg3 _
  have HOL3 := Lib.hid (HOL2.out.snoc HXV.out rfl (below_new w2 _) hown3 hg3 (fun st => ExpV.stay st (by decide)))
  have HGR3 := Lib.hid (RdBy.row ((HGR.out.trans HG1.out).trans HG2.out) hlt (below_new w2 _) hg3 (fun g hg => (HOL2.out.own.lt g hg).1))
  obtain ⟨A3, c3, hv3, y3, y4⟩ := own_form hown3
  subst hv3
  clear hown3 hg3
  go_wp2_with fail
  refine (take_lit (s := [41]) rfl HGR3.out.rd K3.out).mono ?_
  rintro e w4 ⟨rfl, hg4⟩
  have HGR4 := Lib.hid (HGR3.out.trans hg4)
  have HOL4 := Lib.hid (HOL3.out.stay (RdBy.stay HGR3.out.rd hg4) (by decide) (fun a x hx => ExpV.stay (RdBy.stay HGR3.out.rd hg4) (by decide) a x hx))
  clear hg4
  cases B with
  | true =>
   have HE1 : Hid ((acc ++ [a], r3) = X) := Lib.hid HE.out
   go_wp2
   go_ret
   have hol := HOL4.out.row
   exact RowG.of HE1.out hol HGR4.out
  | false =>
   have HE1 : Hid (inF sComma exprQ gk (acc ++ [a]) r4 = X) := Lib.hid HE.out
   go_wp2_with fail
   refine (need_lit (s := sComma) rfl HGR4.out.rd K4.out).mono ?_
   rintro e w5 ⟨rfl, hg5⟩
   have HGR5 := Lib.hid (HGR4.out.trans hg5)
   have HOL5 := Lib.hid (HOL4.out.stay (RdBy.stay HGR4.out.rd hg5) (by decide) (fun a x hx => ExpV.stay (RdBy.stay HGR4.out.rd hg5) (by decide) a x hx))
   clear hg5
   go_wp2
   go_roundg gk
   case measure => omega
   case rel => exact ⟨r4, _, acc ++ [a], xs ++ [[.slice A2 n2 c2]], rfl, by simp; omega, by omega, fun h => by have := HST.out h; simp; omega, HOL5.out, HGR5.out, HE1.out⟩
end Go.Proofs.YtdebhngpgabglaaGreat.Rp
/- Contracts of the document's reader of programs: an item. Conditions: a reader lies in memory. -/
namespace Go.Proofs.YtdebhngpgabglaaGreat.Rp
open Go.ChangeShapes Go.WideShapes Go.ChangeAt Go.RowKit
open Go.Proofs.YtdebhngpgabglaaGreat.Ex
open Go.Proofs.YtdebhngpgabglaaGreat.Tr (str ret_bool ret_int Bytes Nd)
open Go.Proofs.YtdebhngpgabglaaGreat.Pg
set_option maxRecDepth 100000 in
set_option maxHeartbeats 8000000 in
theorem item_import (b : Nat) (r : Rd) (w : World) (hr : RdIn w b r) (n : Bytes) (l : List (List Nd)) (r0 r1 r2 r3 : Rd) (X : Option Itm × Rd) (t1 : takeQ wAssume r = (false, r)) (t2 : takeQ wGuarantee r = (false, r)) (t3 : takeQ wGhost r = (false, r)) (t4 : takeQ wMode r = (false, r)) (t5 : takeQ wImport r = (true, r0)) (h1 : nameP r0 = (n, r1)) (h2 : inQ sComma exprQ r1 = (l, r2)) (h3 : (needQ sSemi r2).2 = r3) (he : (some (⟨5, n, 0, [], [], l⟩ : Itm), r3) = X) : Calls Tryz.prog 73 #[.pointer (some ⟨b, 0, none⟩)] w (ItmO w b X) := by
 have HR := Lib.hid hr
 have hlt := hr.lt
 have HE := Lib.hid he
 have T1 := Lib.hid t1
 have T2 := Lib.hid t2
 have T3 := Lib.hid t3
 have T4 := Lib.hid t4
 have T5 := Lib.hid t5
 have H1 := Lib.hid h1
 have HC2 : Hid (∀ w', RdIn w' b r1 → Calls Tryz.prog 86 #[.pointer (some ⟨b, 0, none⟩)] w' (RowG 23 1 ExpV w' b (l, r2))) := Lib.hid (fun w' h => by rw [← h2]; exact args_any b r1 w' h)
 have H3 := Lib.hid h3
 clear t1 t2 t3 t4 t5 h1 h2 h3 he hr
 have hBW : Below w.heap.size w ((w.alloc (.cells #[.int .i64 0, .string ⟨#[]⟩, .int .i64 0, .slice none 0 0, .slice none 0 0, .slice none 0 0] 129)).alloc (.cells #[.int .i64 0, .string ⟨#[]⟩, .int .i64 0, .slice none 0 0, .slice none 0 0, .slice none 0 0] 129)) := (below_new w _).alloc (below_new w _).size _
 have X0 : Hid (((w.alloc (.cells #[.int .i64 0, .string ⟨#[]⟩, .int .i64 0, .slice none 0 0, .slice none 0 0, .slice none 0 0] 129)).alloc (.cells #[.int .i64 0, .string ⟨#[]⟩, .int .i64 0, .slice none 0 0, .slice none 0 0, .slice none 0 0] 129)).heap[w.heap.size]? = some (.cells #[.int .i64 0, .string ⟨#[]⟩, .int .i64 0, .slice none 0 0, .slice none 0 0, .slice none 0 0] 129 (0, 0))) := Lib.hid (stayA (heap_alloc_new w _))
 have Y0 : Hid (((w.alloc (.cells #[.int .i64 0, .string ⟨#[]⟩, .int .i64 0, .slice none 0 0, .slice none 0 0, .slice none 0 0] 129)).alloc (.cells #[.int .i64 0, .string ⟨#[]⟩, .int .i64 0, .slice none 0 0, .slice none 0 0, .slice none 0 0] 129)).heap[w.heap.size + 1]? = some (.cells #[.int .i64 0, .string ⟨#[]⟩, .int .i64 0, .slice none 0 0, .slice none 0 0, .slice none 0 0] 129 (0, 0))) := Lib.hid (new_blk (by simp))
 have HG0 := Lib.hid (RdBy.of_below HR.out hBW)
 have hne : w.heap.size ≠ w.heap.size + 1 := by omega
 clear hBW
 go_enter Tryz.func73, Tryz.ntmps73
 go_wp2_with fail
 refine (take_lit (s := wAssume) rfl HG0.out.rd T1.out).mono ?_
 rintro e w1 ⟨rfl, hg1⟩
 have HG1 := Lib.hid (HG0.out.trans hg1)
 have x1 := hg1.block X0.out (by omega)
 have y1 := hg1.block Y0.out (by omega)
 have X1 := Lib.hid x1
 have Y1 := Lib.hid y1
 have lx1 := lt_of_block x1
 have ly1 := lt_of_block y1
 clear hg1 x1 y1 
 go_wp2_with fail
 refine (take_lit (s := wGuarantee) rfl HG1.out.rd T2.out).mono ?_
 rintro e w2 ⟨rfl, hg2⟩
 have HG2 := Lib.hid (HG1.out.trans hg2)
 have x2 := hg2.block X1.out (by omega)
 have y2 := hg2.block Y1.out (by omega)
 have X2 := Lib.hid x2
 have Y2 := Lib.hid y2
 have lx2 := lt_of_block x2
 have ly2 := lt_of_block y2
 clear hg2 x2 y2 
 go_wp2_with fail
 refine (take_lit (s := wGhost) rfl HG2.out.rd T3.out).mono ?_
 rintro e w3 ⟨rfl, hg3⟩
 have HG3 := Lib.hid (HG2.out.trans hg3)
 have x3 := hg3.block X2.out (by omega)
 have y3 := hg3.block Y2.out (by omega)
 have X3 := Lib.hid x3
 have Y3 := Lib.hid y3
 have lx3 := lt_of_block x3
 have ly3 := lt_of_block y3
 clear hg3 x3 y3 
 go_wp2_with fail
 refine (take_lit (s := wMode) rfl HG3.out.rd T4.out).mono ?_
 rintro e w4 ⟨rfl, hg4⟩
 have HG4 := Lib.hid (HG3.out.trans hg4)
 have x4 := hg4.block X3.out (by omega)
 have y4 := hg4.block Y3.out (by omega)
 have X4 := Lib.hid x4
 have Y4 := Lib.hid y4
 have lx4 := lt_of_block x4
 have ly4 := lt_of_block y4
 clear hg4 x4 y4 
 go_wp2_with fail
 refine (take_lit (s := wImport) rfl HG4.out.rd T5.out).mono ?_
 rintro e w5 ⟨rfl, hg5⟩
 have HG5 := Lib.hid (HG4.out.trans hg5)
 have x5 := hg5.block X4.out (by omega)
 have y5 := hg5.block Y4.out (by omega)
 have X5 := Lib.hid x5
 have Y5 := Lib.hid y5
 have lx5 := lt_of_block x5
 have ly5 := lt_of_block y5
 clear hg5 x5 y5 
 have q5_0 : w5.cell? ⟨w.heap.size + 1, 0, none⟩ = some (.int .i64 0) := (cell_at Y5.out 0).trans rfl
 have k5_0 : w5.frozen? ⟨w.heap.size + 1, 0, none⟩ = false := free_at Y5.out 0
 have Y5a : Hid ((w5.setCell ⟨w.heap.size + 1, 0, none⟩ (.int .i64 5)).heap[w.heap.size + 1]? = some (.cells #[.int .i64 5, .string ⟨#[]⟩, .int .i64 0, .slice none 0 0, .slice none 0 0, .slice none 0 0] 129 (0, 0))) := Lib.hid (by have z := setObj_heap (v := .int .i64 5) Y5.out (k := 0) (by simp); simpa using z)
 have X5a := Lib.hid (set_other (k := 0) (v := .int .i64 5) X5.out hne)
 have HG5a := Lib.hid (HG5.out.setLocal (k := 0) (B := w.heap.size + 1) (by omega) hlt (.int .i64 5))
 go_wp2_with fail
 refine (name_lit HG5a.out.rd H1.out).mono ?_
 rintro e w6 ⟨rfl, hg6⟩
 have HG6 := Lib.hid (HG5a.out.trans hg6)
 have x6 := hg6.block X5a.out (by omega)
 have y6 := hg6.block Y5a.out (by omega)
 have X6 := Lib.hid x6
 have Y6 := Lib.hid y6
 have lx6 := lt_of_block x6
 have ly6 := lt_of_block y6
 clear hg6 x6 y6 
 clear q5_0 k5_0
 have q6_1 : w6.cell? ⟨w.heap.size + 1, 1, none⟩ = some (.string ⟨#[]⟩) := (cell_at Y6.out 1).trans rfl
 have k6_1 : w6.frozen? ⟨w.heap.size + 1, 1, none⟩ = false := free_at Y6.out 1
 have Y6a : Hid ((w6.setCell ⟨w.heap.size + 1, 1, none⟩ (.string (str n))).heap[w.heap.size + 1]? = some (.cells #[.int .i64 5, .string (str n), .int .i64 0, .slice none 0 0, .slice none 0 0, .slice none 0 0] 129 (0, 0))) := Lib.hid (by have z := setObj_heap (v := .string (str n)) Y6.out (k := 1) (by simp); simpa using z)
 have X6a := Lib.hid (set_other (k := 1) (v := .string (str n)) X6.out hne)
 have HG6a := Lib.hid (HG6.out.setLocal (k := 1) (B := w.heap.size + 1) (by omega) hlt (.string (str n)))
 go_wp2_with fail
 refine (HC2.out _ HG6a.out.rd).mono ?_
 rintro e w7 ⟨av, rfl, hl7, hg7⟩
 have HG7 := Lib.hid (HG6a.out.trans hg7)
 have x7 := hg7.block X6a.out (by omega)
 have y7 := hg7.block Y6a.out (by omega)
 have X7 := Lib.hid x7
 have Y7 := Lib.hid y7
 have lx7 := lt_of_block x7
 have ly7 := lt_of_block y7
 obtain ⟨A1, n1, c1, rfl, u1, v1⟩ := row_form hl7
 have F1_7 := Lib.hid hl7
 clear hg7 x7 y7 hl7
 clear q6_1 k6_1
 have q7_5 : w7.cell? ⟨w.heap.size + 1, 5, none⟩ = some (.slice none 0 0) := (cell_at Y7.out 5).trans rfl
 have k7_5 : w7.frozen? ⟨w.heap.size + 1, 5, none⟩ = false := free_at Y7.out 5
 have Y7a : Hid ((w7.setCell ⟨w.heap.size + 1, 5, none⟩ (.slice A1 n1 c1)).heap[w.heap.size + 1]? = some (.cells #[.int .i64 5, .string (str n), .int .i64 0, .slice none 0 0, .slice none 0 0, .slice A1 n1 c1] 129 (0, 0))) := Lib.hid (by have z := setObj_heap (v := .slice A1 n1 c1) Y7.out (k := 5) (by simp); simpa using z)
 have X7a := Lib.hid (set_other (k := 5) (v := .slice A1 n1 c1) X7.out hne)
 have HG7a := Lib.hid (HG7.out.setLocal (k := 5) (B := w.heap.size + 1) (by omega) hlt (.slice A1 n1 c1))
 have F1_7a := Lib.hid (F1_7.out.stay (stay_set (P := fun t => t = 129) (k := 5) Y7.out rfl (.slice A1 n1 c1)) (by decide) (fun a x hx => ExpV.stay (stay_set (P := fun t => t = 129) (k := 5) Y7.out rfl (.slice A1 n1 c1)) (by decide) a x hx))
 go_wp2_with fail
 refine (need_lit (s := sSemi) rfl HG7a.out.rd H3.out).mono ?_
 rintro e w8 ⟨rfl, hg8⟩
 have HG8 := Lib.hid (HG7a.out.trans hg8)
 have x8 := hg8.block X7a.out (by omega)
 have y8 := hg8.block Y7a.out (by omega)
 have X8 := Lib.hid x8
 have Y8 := Lib.hid y8
 have lx8 := lt_of_block x8
 have ly8 := lt_of_block y8
 have F1_8 := Lib.hid (F1_7a.out.stay (RdBy.stay HG7a.out.rd hg8) (by decide) (fun a x hx => ExpV.stay (RdBy.stay HG7a.out.rd hg8) (by decide) a x hx))
 clear hg8 x8 y8 
 clear q7_5 k7_5
 have q8_0 : w8.cell? ⟨w.heap.size + 1, 0, none⟩ = some (.int .i64 5) := (cell_at Y8.out 0).trans rfl
 have p0 : w8.cell? ⟨w.heap.size, 0, none⟩ = some (.int .i64 0) := (cell_at X8.out 0).trans rfl
 have g0 : w8.frozen? ⟨w.heap.size, 0, none⟩ = false := free_at X8.out 0
 have q8_1 : w8.cell? ⟨w.heap.size + 1, 1, none⟩ = some (.string (str n)) := (cell_at Y8.out 1).trans rfl
 have p1 : w8.cell? ⟨w.heap.size, 1, none⟩ = some (.string ⟨#[]⟩) := (cell_at X8.out 1).trans rfl
 have g1 : w8.frozen? ⟨w.heap.size, 1, none⟩ = false := free_at X8.out 1
 have q8_2 : w8.cell? ⟨w.heap.size + 1, 2, none⟩ = some (.int .i64 0) := (cell_at Y8.out 2).trans rfl
 have p2 : w8.cell? ⟨w.heap.size, 2, none⟩ = some (.int .i64 0) := (cell_at X8.out 2).trans rfl
 have g2 : w8.frozen? ⟨w.heap.size, 2, none⟩ = false := free_at X8.out 2
 have q8_3 : w8.cell? ⟨w.heap.size + 1, 3, none⟩ = some (.slice none 0 0) := (cell_at Y8.out 3).trans rfl
 have p3 : w8.cell? ⟨w.heap.size, 3, none⟩ = some (.slice none 0 0) := (cell_at X8.out 3).trans rfl
 have g3 : w8.frozen? ⟨w.heap.size, 3, none⟩ = false := free_at X8.out 3
 have q8_4 : w8.cell? ⟨w.heap.size + 1, 4, none⟩ = some (.slice none 0 0) := (cell_at Y8.out 4).trans rfl
 have p4 : w8.cell? ⟨w.heap.size, 4, none⟩ = some (.slice none 0 0) := (cell_at X8.out 4).trans rfl
 have g4 : w8.frozen? ⟨w.heap.size, 4, none⟩ = false := free_at X8.out 4
 have q8_5 : w8.cell? ⟨w.heap.size + 1, 5, none⟩ = some (.slice A1 n1 c1) := (cell_at Y8.out 5).trans rfl
 have p5 : w8.cell? ⟨w.heap.size, 5, none⟩ = some (.slice none 0 0) := (cell_at X8.out 5).trans rfl
 have g5 : w8.frozen? ⟨w.heap.size, 5, none⟩ = false := free_at X8.out 5
 go_wp2
 have Z := blk6 X8.out (.int .i64 5) (.string (str n)) (.int .i64 0) (.slice none 0 0) (.slice none 0 0) (.slice A1 n1 c1)
 have hsz : w8.heap.size ≤ ((((((w8.setCell ⟨w.heap.size, 0, none⟩ (.int .i64 5)).setCell ⟨w.heap.size, 1, none⟩ (.string (str n))).setCell ⟨w.heap.size, 2, none⟩ (.int .i64 0)).setCell ⟨w.heap.size, 3, none⟩ (.slice none 0 0)).setCell ⟨w.heap.size, 4, none⟩ (.slice none 0 0)).setCell ⟨w.heap.size, 5, none⟩ (.slice A1 n1 c1)).heap.size := by simp [World.setCell]
 have hst : Stay (fun t => t = 129) w8 ((((((w8.setCell ⟨w.heap.size, 0, none⟩ (.int .i64 5)).setCell ⟨w.heap.size, 1, none⟩ (.string (str n))).setCell ⟨w.heap.size, 2, none⟩ (.int .i64 0)).setCell ⟨w.heap.size, 3, none⟩ (.slice none 0 0)).setCell ⟨w.heap.size, 4, none⟩ (.slice none 0 0)).setCell ⟨w.heap.size, 5, none⟩ (.slice A1 n1 c1)) := stay_sets X8.out rfl hsz (fun g hg => by simp only [set_ne hg])
 have z0 := (cell_at Z 0).trans (show _ = some (.int .i64 5) from rfl)
 have z1 := (cell_at Z 1).trans (show _ = some (.string (str n)) from rfl)
 have z2 := (cell_at Z 2).trans (show _ = some (.int .i64 0) from rfl)
 have z3 := (cell_at Z 3).trans (show _ = some (.slice none 0 0) from rfl)
 have z4 := (cell_at Z 4).trans (show _ = some (.slice none 0 0) from rfl)
 have z5 := (cell_at Z 5).trans (show _ = some (.slice A1 n1 c1) from rfl)
 clear p0 g0 p1 g1 p2 g2 p3 g3 p4 g4 p5 g5 q8_0 q8_1 q8_2 q8_3 q8_4 q8_5
 exact bodyPost_ret (v := .tuple #[.agg #[.int .i64 5, .string (str n), .int .i64 0, .slice none 0 0, .slice none 0 0, .slice A1 n1 c1], .bool true]) (by simp [results, Tryz.results73, go_sem, z0, z1, z2, z3, z4, z5]) rfl (ItmO.of HE.out (PtW.nil _ _ rfl) (PtW.nil _ _ rfl) (F1_8.out.stay hst (by decide) (fun a x hx => ExpV.stay hst (by decide) a x hx)) ((((((HG8.out.setLocal (by omega) hlt _).setLocal (by omega) hlt _).setLocal (by omega) hlt _).setLocal (by omega) hlt _).setLocal (by omega) hlt _).setLocal (by omega) hlt _))
end Go.Proofs.YtdebhngpgabglaaGreat.Rp
/- Contracts of the document's reader of programs: an item. Conditions: a reader lies in memory. -/
namespace Go.Proofs.YtdebhngpgabglaaGreat.Rp
open Go.ChangeShapes Go.WideShapes Go.ChangeAt Go.RowKit
open Go.Proofs.YtdebhngpgabglaaGreat.Ex
open Go.Proofs.YtdebhngpgabglaaGreat.Tr (str ret_bool ret_int Bytes Nd)
open Go.Proofs.YtdebhngpgabglaaGreat.Pg
theorem take_false {s : Bytes} {r : Rd} (h : r.isB s = false) : takeQ s r = (false, r) := by unfold takeQ; rw [h]; rfl
theorem take_true {s : Bytes} {r : Rd} (h : r.isB s = true) : takeQ s r = (true, r.adv) := by unfold takeQ; rw [h]; rfl
theorem item_any (b : Nat) (r : Rd) (w : World) (hr : RdIn w b r) : Calls Tryz.prog 73 #[.pointer (some ⟨b, 0, none⟩)] w (ItmO w b (itemQ r)) := by
 have hq : itemQ r = if kindQ r = 0 then (none, r) else pBind (itemOfQ (kindQ r)) (fun i => pPure (some i)) r.adv := rfl
 rcases Bool.eq_false_or_eq_true (r.isB wAssume) with a1 | a1
 · have hk : kindQ r = 1 := by unfold kindQ; rw [a1]; rfl
   obtain ⟨⟨E, r1⟩, h1⟩ : ∃ x, exprQ r.adv = x := ⟨_, rfl⟩
   refine item_assume b r w hr E r.adv r1 _ _ (take_true a1) h1 rfl ?_
   rw [hq, hk, if_neg (by decide)]
   refine Eq.symm ?_
   refine (pb (show itemOfQ 1 r.adv = (⟨1, [], 0, E, [], []⟩, _) from ?_)).trans rfl
   unfold itemOfQ
   rw [if_neg (by decide), if_neg (by decide), if_neg (by decide), pb h1]; rfl
 rcases Bool.eq_false_or_eq_true (r.isB wGuarantee) with a2 | a2
 · have hk : kindQ r = 2 := by unfold kindQ; rw [a1, a2]; rfl
   obtain ⟨⟨E, r1⟩, h1⟩ : ∃ x, exprQ r.adv = x := ⟨_, rfl⟩
   refine item_guarantee b r w hr E r.adv r1 _ _ (take_false a1) (take_true a2) h1 rfl ?_
   rw [hq, hk, if_neg (by decide)]
   refine Eq.symm ?_
   refine (pb (show itemOfQ 2 r.adv = (⟨2, [], 0, E, [], []⟩, _) from ?_)).trans rfl
   unfold itemOfQ
   rw [if_neg (by decide), if_neg (by decide), if_neg (by decide), pb h1]; rfl
 rcases Bool.eq_false_or_eq_true (r.isB wGhost) with a3 | a3
 · have hk : kindQ r = 3 := by unfold kindQ; rw [a1, a2, a3]; rfl
   obtain ⟨⟨⟨pn, pt⟩, r1⟩, h1⟩ : ∃ x, paramQ r.adv = x := ⟨_, rfl⟩
   obtain ⟨r2, h2⟩ : ∃ x, (needQ sEq r1).2 = x := ⟨_, rfl⟩
   obtain ⟨⟨E, r3⟩, h3⟩ : ∃ x, exprQ r2 = x := ⟨_, rfl⟩
   refine item_ghost b r w hr pn pt E r.adv r1 r2 r3 _ _ (take_false a1) (take_false a2) (take_true a3) h1 h2 h3 rfl ?_
   rw [hq, hk, if_neg (by decide)]
   refine Eq.symm ?_
   refine (pb (show itemOfQ 3 r.adv = (⟨3, pn, pt, E, [], []⟩, _) from ?_)).trans rfl
   unfold itemOfQ
   rw [if_pos rfl, pb h1, pu h2, pb h3]; rfl
 rcases Bool.eq_false_or_eq_true (r.isB wMode) with a4 | a4
 · have hk : kindQ r = 4 := by unfold kindQ; rw [a1, a2, a3, a4]; rfl
   obtain ⟨⟨n, r1⟩, h1⟩ : ∃ x, nameP r.adv = x := ⟨_, rfl⟩
   obtain ⟨r2, h2⟩ : ∃ x, (needQ wRequire r1).2 = x := ⟨_, rfl⟩
   obtain ⟨⟨E, r3⟩, h3⟩ : ∃ x, exprQ r2 = x := ⟨_, rfl⟩
   obtain ⟨r4, h4⟩ : ∃ x, (needQ wEnsure r3).2 = x := ⟨_, rfl⟩
   obtain ⟨⟨F, r5⟩, h5⟩ : ∃ x, exprQ r4 = x := ⟨_, rfl⟩
   refine item_mode b r w hr n E F r.adv r1 r2 r3 r4 r5 _ _ (take_false a1) (take_false a2) (take_false a3) (take_true a4) h1 h2 h3 h4 h5 rfl ?_
   rw [hq, hk, if_neg (by decide)]
   refine Eq.symm ?_
   refine (pb (show itemOfQ 4 r.adv = (⟨4, n, 0, E, F, []⟩, _) from ?_)).trans rfl
   unfold itemOfQ
   rw [if_neg (by decide), if_pos rfl, pb h1, pu h2, pb h3, pu h4, pb h5]; rfl
 rcases Bool.eq_false_or_eq_true (r.isB wImport) with a5 | a5
 · have hk : kindQ r = 5 := by unfold kindQ; rw [a1, a2, a3, a4, a5]; rfl
   obtain ⟨⟨n, r1⟩, h1⟩ : ∃ x, nameP r.adv = x := ⟨_, rfl⟩
   obtain ⟨⟨l, r2⟩, h2⟩ : ∃ x, inQ sComma exprQ r1 = x := ⟨_, rfl⟩
   refine item_import b r w hr n l r.adv r1 r2 _ _ (take_false a1) (take_false a2) (take_false a3) (take_false a4) (take_true a5) h1 h2 rfl ?_
   rw [hq, hk, if_neg (by decide)]
   refine Eq.symm ?_
   refine (pb (show itemOfQ 5 r.adv = (⟨5, n, 0, [], [], l⟩, _) from ?_)).trans rfl
   unfold itemOfQ
   rw [if_neg (by decide), if_neg (by decide), if_pos rfl, pb h1, pb h2]; rfl
 · have hk : kindQ r = 0 := by unfold kindQ; rw [a1, a2, a3, a4, a5]; rfl
   exact item_none b r w hr _ (take_false a1) (take_false a2) (take_false a3) (take_false a4) (take_false a5) (by rw [hq, hk]; rfl)
end Go.Proofs.YtdebhngpgabglaaGreat.Rp
