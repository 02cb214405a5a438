/- Contracts of the document's reader of programs: an item. Conditions: a reader lies in memory. -/
import Derived.Test.YtdebhngpgabglaaGreatRa10
set_option linter.unusedVariables false
set_option linter.unusedSimpArgs false
namespace Go.Proofs.YtdebhngpgabglaaGreat.Rp
open Go.ChangeShapes Go.WideShapes Go.ChangeAt Go.RowKit
open Go.Proofs.YtdebhngpgabglaaGreat.Ex
open Go.Proofs.YtdebhngpgabglaaGreat.Tr (str ret_bool ret_int Bytes Nd)
open Go.Proofs.YtdebhngpgabglaaGreat.Pg
set_option maxRecDepth 100000 in
set_option maxHeartbeats 8000000 in
theorem item_assume (b : Nat) (r : Rd) (w : World) (hr : RdIn w b r) (E : List Nd) (r0 r1 r2 : Rd) (X : Option Itm × Rd)  (t1 : takeQ wAssume r = (true, r0)) (h1 : exprQ r0 = (E, r1)) (h2 : (needQ sSemi r1).2 = r2) (he : (some (⟨1, [], 0, E, [], []⟩ : Itm), r2) = X) : Calls Tryz.prog 73 #[.pointer (some ⟨b, 0, none⟩)] w (ItmO w b X) := by
 have HR := Lib.hid hr
 have hlt := hr.lt
 have HE := Lib.hid he
 have T1 := Lib.hid t1
 have HC1 : Hid (∀ w', RdIn w' b r0 → Calls Tryz.prog 74 #[.pointer (some ⟨b, 0, none⟩)] w' (ExpG w' b (E, r1))) := Lib.hid (fun w' h => by rw [← h1]; exact expr_any b r0 w' h)
 have H2 := Lib.hid h2
 clear t1 h1 h2 he hr
 have hBW : Below w.heap.size w ((w.alloc (.cells #[.int .i64 0, .string ⟨#[]⟩, .int .i64 0, .slice none 0 0, .slice none 0 0, .slice none 0 0] 129)).alloc (.cells #[.int .i64 0, .string ⟨#[]⟩, .int .i64 0, .slice none 0 0, .slice none 0 0, .slice none 0 0] 129)) := (below_new w _).alloc (below_new w _).size _
 have X0 : Hid (((w.alloc (.cells #[.int .i64 0, .string ⟨#[]⟩, .int .i64 0, .slice none 0 0, .slice none 0 0, .slice none 0 0] 129)).alloc (.cells #[.int .i64 0, .string ⟨#[]⟩, .int .i64 0, .slice none 0 0, .slice none 0 0, .slice none 0 0] 129)).heap[w.heap.size]? = some (.cells #[.int .i64 0, .string ⟨#[]⟩, .int .i64 0, .slice none 0 0, .slice none 0 0, .slice none 0 0] 129 (0, 0))) := Lib.hid (stayA (heap_alloc_new w _))
 have Y0 : Hid (((w.alloc (.cells #[.int .i64 0, .string ⟨#[]⟩, .int .i64 0, .slice none 0 0, .slice none 0 0, .slice none 0 0] 129)).alloc (.cells #[.int .i64 0, .string ⟨#[]⟩, .int .i64 0, .slice none 0 0, .slice none 0 0, .slice none 0 0] 129)).heap[w.heap.size + 1]? = some (.cells #[.int .i64 0, .string ⟨#[]⟩, .int .i64 0, .slice none 0 0, .slice none 0 0, .slice none 0 0] 129 (0, 0))) := Lib.hid (new_blk (by simp))
 have HG0 := Lib.hid (RdBy.of_below HR.out hBW)
 have hne : w.heap.size ≠ w.heap.size + 1 := by omega
 clear hBW
 go_enter Tryz.func73, Tryz.ntmps73
 go_wp2_with fail
 refine (take_lit (s := wAssume) rfl HG0.out.rd T1.out).mono ?_
 rintro e w1 ⟨rfl, hg1⟩
 have HG1 := Lib.hid (HG0.out.trans hg1)
 have x1 := hg1.block X0.out (by omega)
 have y1 := hg1.block Y0.out (by omega)
 have X1 := Lib.hid x1
 have Y1 := Lib.hid y1
 have lx1 := lt_of_block x1
 have ly1 := lt_of_block y1
 clear hg1 x1 y1 
 have q1_0 : w1.cell? ⟨w.heap.size + 1, 0, none⟩ = some (.int .i64 0) := (cell_at Y1.out 0).trans rfl
 have k1_0 : w1.frozen? ⟨w.heap.size + 1, 0, none⟩ = false := free_at Y1.out 0
 have Y1a : Hid ((w1.setCell ⟨w.heap.size + 1, 0, none⟩ (.int .i64 1)).heap[w.heap.size + 1]? = some (.cells #[.int .i64 1, .string ⟨#[]⟩, .int .i64 0, .slice none 0 0, .slice none 0 0, .slice none 0 0] 129 (0, 0))) := Lib.hid (by have z := setObj_heap (v := .int .i64 1) Y1.out (k := 0) (by simp); simpa using z)
 have X1a := Lib.hid (set_other (k := 0) (v := .int .i64 1) X1.out hne)
 have HG1a := Lib.hid (HG1.out.setLocal (k := 0) (B := w.heap.size + 1) (by omega) hlt (.int .i64 1))
 go_wp2_with fail
 refine (HC1.out _ HG1a.out.rd).mono ?_
 rintro e w2 ⟨ev, rfl, hp2, hg2⟩
 have HG2 := Lib.hid (HG1a.out.trans hg2)
 have x2 := hg2.block X1a.out (by omega)
 have y2 := hg2.block Y1a.out (by omega)
 have X2 := Lib.hid x2
 have Y2 := Lib.hid y2
 have lx2 := lt_of_block x2
 have ly2 := lt_of_block y2
 obtain ⟨A1, n1, c1, rfl, u1, v1⟩ := pt_form hp2
 have F1_2 := Lib.hid hp2
 clear hg2 x2 y2 hp2
 clear q1_0 k1_0
 have q2_3 : w2.cell? ⟨w.heap.size + 1, 3, none⟩ = some (.slice none 0 0) := (cell_at Y2.out 3).trans rfl
 have k2_3 : w2.frozen? ⟨w.heap.size + 1, 3, none⟩ = false := free_at Y2.out 3
 have Y2a : Hid ((w2.setCell ⟨w.heap.size + 1, 3, none⟩ (.slice A1 n1 c1)).heap[w.heap.size + 1]? = some (.cells #[.int .i64 1, .string ⟨#[]⟩, .int .i64 0, .slice A1 n1 c1, .slice none 0 0, .slice none 0 0] 129 (0, 0))) := Lib.hid (by have z := setObj_heap (v := .slice A1 n1 c1) Y2.out (k := 3) (by simp); simpa using z)
 have X2a := Lib.hid (set_other (k := 3) (v := .slice A1 n1 c1) X2.out hne)
 have HG2a := Lib.hid (HG2.out.setLocal (k := 3) (B := w.heap.size + 1) (by omega) hlt (.slice A1 n1 c1))
 have F1_2a := Lib.hid ((stay_set (P := fun t => t = 129) (k := 3) Y2.out rfl (.slice A1 n1 c1)).pt (by decide) F1_2.out)
 go_wp2_with fail
 refine (need_lit (s := sSemi) rfl HG2a.out.rd H2.out).mono ?_
 rintro e w3 ⟨rfl, hg3⟩
 have HG3 := Lib.hid (HG2a.out.trans hg3)
 have x3 := hg3.block X2a.out (by omega)
 have y3 := hg3.block Y2a.out (by omega)
 have X3 := Lib.hid x3
 have Y3 := Lib.hid y3
 have lx3 := lt_of_block x3
 have ly3 := lt_of_block y3
 have F1_3 := Lib.hid ((RdBy.stay HG2a.out.rd hg3).pt (by decide) F1_2a.out)
 clear hg3 x3 y3 
 clear q2_3 k2_3
 have q3_0 : w3.cell? ⟨w.heap.size + 1, 0, none⟩ = some (.int .i64 1) := (cell_at Y3.out 0).trans rfl
 have p0 : w3.cell? ⟨w.heap.size, 0, none⟩ = some (.int .i64 0) := (cell_at X3.out 0).trans rfl
 have g0 : w3.frozen? ⟨w.heap.size, 0, none⟩ = false := free_at X3.out 0
 have q3_1 : w3.cell? ⟨w.heap.size + 1, 1, none⟩ = some (.string ⟨#[]⟩) := (cell_at Y3.out 1).trans rfl
 have p1 : w3.cell? ⟨w.heap.size, 1, none⟩ = some (.string ⟨#[]⟩) := (cell_at X3.out 1).trans rfl
 have g1 : w3.frozen? ⟨w.heap.size, 1, none⟩ = false := free_at X3.out 1
 have q3_2 : w3.cell? ⟨w.heap.size + 1, 2, none⟩ = some (.int .i64 0) := (cell_at Y3.out 2).trans rfl
 have p2 : w3.cell? ⟨w.heap.size, 2, none⟩ = some (.int .i64 0) := (cell_at X3.out 2).trans rfl
 have g2 : w3.frozen? ⟨w.heap.size, 2, none⟩ = false := free_at X3.out 2
 have q3_3 : w3.cell? ⟨w.heap.size + 1, 3, none⟩ = some (.slice A1 n1 c1) := (cell_at Y3.out 3).trans rfl
 have p3 : w3.cell? ⟨w.heap.size, 3, none⟩ = some (.slice none 0 0) := (cell_at X3.out 3).trans rfl
 have g3 : w3.frozen? ⟨w.heap.size, 3, none⟩ = false := free_at X3.out 3
 have q3_4 : w3.cell? ⟨w.heap.size + 1, 4, none⟩ = some (.slice none 0 0) := (cell_at Y3.out 4).trans rfl
 have p4 : w3.cell? ⟨w.heap.size, 4, none⟩ = some (.slice none 0 0) := (cell_at X3.out 4).trans rfl
 have g4 : w3.frozen? ⟨w.heap.size, 4, none⟩ = false := free_at X3.out 4
 have q3_5 : w3.cell? ⟨w.heap.size + 1, 5, none⟩ = some (.slice none 0 0) := (cell_at Y3.out 5).trans rfl
 have p5 : w3.cell? ⟨w.heap.size, 5, none⟩ = some (.slice none 0 0) := (cell_at X3.out 5).trans rfl
 have g5 : w3.frozen? ⟨w.heap.size, 5, none⟩ = false := free_at X3.out 5
 go_wp2
 have Z := blk6 X3.out (.int .i64 1) (.string ⟨#[]⟩) (.int .i64 0) (.slice A1 n1 c1) (.slice none 0 0) (.slice none 0 0)
 have hsz : w3.heap.size ≤ ((((((w3.setCell ⟨w.heap.size, 0, none⟩ (.int .i64 1)).setCell ⟨w.heap.size, 1, none⟩ (.string ⟨#[]⟩)).setCell ⟨w.heap.size, 2, none⟩ (.int .i64 0)).setCell ⟨w.heap.size, 3, none⟩ (.slice A1 n1 c1)).setCell ⟨w.heap.size, 4, none⟩ (.slice none 0 0)).setCell ⟨w.heap.size, 5, none⟩ (.slice none 0 0)).heap.size := by simp [World.setCell]
 have hst : Stay (fun t => t = 129) w3 ((((((w3.setCell ⟨w.heap.size, 0, none⟩ (.int .i64 1)).setCell ⟨w.heap.size, 1, none⟩ (.string ⟨#[]⟩)).setCell ⟨w.heap.size, 2, none⟩ (.int .i64 0)).setCell ⟨w.heap.size, 3, none⟩ (.slice A1 n1 c1)).setCell ⟨w.heap.size, 4, none⟩ (.slice none 0 0)).setCell ⟨w.heap.size, 5, none⟩ (.slice none 0 0)) := stay_sets X3.out rfl hsz (fun g hg => by simp only [set_ne hg])
 have z0 := (cell_at Z 0).trans (show _ = some (.int .i64 1) from rfl)
 have z1 := (cell_at Z 1).trans (show _ = some (.string ⟨#[]⟩) from rfl)
 have z2 := (cell_at Z 2).trans (show _ = some (.int .i64 0) from rfl)
 have z3 := (cell_at Z 3).trans (show _ = some (.slice A1 n1 c1) from rfl)
 have z4 := (cell_at Z 4).trans (show _ = some (.slice none 0 0) from rfl)
 have z5 := (cell_at Z 5).trans (show _ = some (.slice none 0 0) from rfl)
 clear p0 g0 p1 g1 p2 g2 p3 g3 p4 g4 p5 g5 q3_0 q3_1 q3_2 q3_3 q3_4 q3_5
 exact bodyPost_ret (v := .tuple #[.agg #[.int .i64 1, .string ⟨#[]⟩, .int .i64 0, .slice A1 n1 c1, .slice none 0 0, .slice none 0 0], .bool true]) (by simp [results, Tryz.results73, go_sem, z0, z1, z2, z3, z4, z5]) rfl (ItmO.of HE.out (hst.pt (by decide) F1_3.out) (PtW.nil _ _ rfl) (RowR.nil _ _ _ _) ((((((HG3.out.setLocal (by omega) hlt _).setLocal (by omega) hlt _).setLocal (by omega) hlt _).setLocal (by omega) hlt _).setLocal (by omega) hlt _).setLocal (by omega) hlt _))
end Go.Proofs.YtdebhngpgabglaaGreat.Rp
/- Contracts of the document's reader of programs: an item. Conditions: a reader lies in memory. -/
namespace Go.Proofs.YtdebhngpgabglaaGreat.Rp
open Go.ChangeShapes Go.WideShapes Go.ChangeAt Go.RowKit
open Go.Proofs.YtdebhngpgabglaaGreat.Ex
open Go.Proofs.YtdebhngpgabglaaGreat.Tr (str ret_bool ret_int Bytes Nd)
open Go.Proofs.YtdebhngpgabglaaGreat.Pg
set_option maxRecDepth 100000 in
set_option maxHeartbeats 8000000 in
theorem item_guarantee (b : Nat) (r : Rd) (w : World) (hr : RdIn w b r) (E : List Nd) (r0 r1 r2 : Rd) (X : Option Itm × Rd) (t1 : takeQ wAssume r = (false, r)) (t2 : takeQ wGuarantee r = (true, r0)) (h1 : exprQ r0 = (E, r1)) (h2 : (needQ sSemi r1).2 = r2) (he : (some (⟨2, [], 0, E, [], []⟩ : Itm), r2) = X) : Calls Tryz.prog 73 #[.pointer (some ⟨b, 0, none⟩)] w (ItmO w b X) := by
 have HR := Lib.hid hr
 have hlt := hr.lt
 have HE := Lib.hid he
 have T1 := Lib.hid t1
 have T2 := Lib.hid t2
 have HC1 : Hid (∀ w', RdIn w' b r0 → Calls Tryz.prog 74 #[.pointer (some ⟨b, 0, none⟩)] w' (ExpG w' b (E, r1))) := Lib.hid (fun w' h => by rw [← h1]; exact expr_any b r0 w' h)
 have H2 := Lib.hid h2
 clear t1 t2 h1 h2 he hr
 have hBW : Below w.heap.size w ((w.alloc (.cells #[.int .i64 0, .string ⟨#[]⟩, .int .i64 0, .slice none 0 0, .slice none 0 0, .slice none 0 0] 129)).alloc (.cells #[.int .i64 0, .string ⟨#[]⟩, .int .i64 0, .slice none 0 0, .slice none 0 0, .slice none 0 0] 129)) := (below_new w _).alloc (below_new w _).size _
 have X0 : Hid (((w.alloc (.cells #[.int .i64 0, .string ⟨#[]⟩, .int .i64 0, .slice none 0 0, .slice none 0 0, .slice none 0 0] 129)).alloc (.cells #[.int .i64 0, .string ⟨#[]⟩, .int .i64 0, .slice none 0 0, .slice none 0 0, .slice none 0 0] 129)).heap[w.heap.size]? = some (.cells #[.int .i64 0, .string ⟨#[]⟩, .int .i64 0, .slice none 0 0, .slice none 0 0, .slice none 0 0] 129 (0, 0))) := Lib.hid (stayA (heap_alloc_new w _))
 have Y0 : Hid (((w.alloc (.cells #[.int .i64 0, .string ⟨#[]⟩, .int .i64 0, .slice none 0 0, .slice none 0 0, .slice none 0 0] 129)).alloc (.cells #[.int .i64 0, .string ⟨#[]⟩, .int .i64 0, .slice none 0 0, .slice none 0 0, .slice none 0 0] 129)).heap[w.heap.size + 1]? = some (.cells #[.int .i64 0, .string ⟨#[]⟩, .int .i64 0, .slice none 0 0, .slice none 0 0, .slice none 0 0] 129 (0, 0))) := Lib.hid (new_blk (by simp))
 have HG0 := Lib.hid (RdBy.of_below HR.out hBW)
 have hne : w.heap.size ≠ w.heap.size + 1 := by omega
 clear hBW
 go_enter Tryz.func73, Tryz.ntmps73
 go_wp2_with fail
 refine (take_lit (s := wAssume) rfl HG0.out.rd T1.out).mono ?_
 rintro e w1 ⟨rfl, hg1⟩
 have HG1 := Lib.hid (HG0.out.trans hg1)
 have x1 := hg1.block X0.out (by omega)
 have y1 := hg1.block Y0.out (by omega)
 have X1 := Lib.hid x1
 have Y1 := Lib.hid y1
 have lx1 := lt_of_block x1
 have ly1 := lt_of_block y1
 clear hg1 x1 y1 
 go_wp2_with fail
 refine (take_lit (s := wGuarantee) rfl HG1.out.rd T2.out).mono ?_
 rintro e w2 ⟨rfl, hg2⟩
 have HG2 := Lib.hid (HG1.out.trans hg2)
 have x2 := hg2.block X1.out (by omega)
 have y2 := hg2.block Y1.out (by omega)
 have X2 := Lib.hid x2
 have Y2 := Lib.hid y2
 have lx2 := lt_of_block x2
 have ly2 := lt_of_block y2
 clear hg2 x2 y2 
 have q2_0 : w2.cell? ⟨w.heap.size + 1, 0, none⟩ = some (.int .i64 0) := (cell_at Y2.out 0).trans rfl
 have k2_0 : w2.frozen? ⟨w.heap.size + 1, 0, none⟩ = false := free_at Y2.out 0
 have Y2a : Hid ((w2.setCell ⟨w.heap.size + 1, 0, none⟩ (.int .i64 2)).heap[w.heap.size + 1]? = some (.cells #[.int .i64 2, .string ⟨#[]⟩, .int .i64 0, .slice none 0 0, .slice none 0 0, .slice none 0 0] 129 (0, 0))) := Lib.hid (by have z := setObj_heap (v := .int .i64 2) Y2.out (k := 0) (by simp); simpa using z)
 have X2a := Lib.hid (set_other (k := 0) (v := .int .i64 2) X2.out hne)
 have HG2a := Lib.hid (HG2.out.setLocal (k := 0) (B := w.heap.size + 1) (by omega) hlt (.int .i64 2))
 go_wp2_with fail
 refine (HC1.out _ HG2a.out.rd).mono ?_
 rintro e w3 ⟨ev, rfl, hp3, hg3⟩
 have HG3 := Lib.hid (HG2a.out.trans hg3)
 have x3 := hg3.block X2a.out (by omega)
 have y3 := hg3.block Y2a.out (by omega)
 have X3 := Lib.hid x3
 have Y3 := Lib.hid y3
 have lx3 := lt_of_block x3
 have ly3 := lt_of_block y3
 obtain ⟨A1, n1, c1, rfl, u1, v1⟩ := pt_form hp3
 have F1_3 := Lib.hid hp3
 clear hg3 x3 y3 hp3
 clear q2_0 k2_0
 have q3_3 : w3.cell? ⟨w.heap.size + 1, 3, none⟩ = some (.slice none 0 0) := (cell_at Y3.out 3).trans rfl
 have k3_3 : w3.frozen? ⟨w.heap.size + 1, 3, none⟩ = false := free_at Y3.out 3
 have Y3a : Hid ((w3.setCell ⟨w.heap.size + 1, 3, none⟩ (.slice A1 n1 c1)).heap[w.heap.size + 1]? = some (.cells #[.int .i64 2, .string ⟨#[]⟩, .int .i64 0, .slice A1 n1 c1, .slice none 0 0, .slice none 0 0] 129 (0, 0))) := Lib.hid (by have z := setObj_heap (v := .slice A1 n1 c1) Y3.out (k := 3) (by simp); simpa using z)
 have X3a := Lib.hid (set_other (k := 3) (v := .slice A1 n1 c1) X3.out hne)
 have HG3a := Lib.hid (HG3.out.setLocal (k := 3) (B := w.heap.size + 1) (by omega) hlt (.slice A1 n1 c1))
 have F1_3a := Lib.hid ((stay_set (P := fun t => t = 129) (k := 3) Y3.out rfl (.slice A1 n1 c1)).pt (by decide) F1_3.out)
 go_wp2_with fail
 refine (need_lit (s := sSemi) rfl HG3a.out.rd H2.out).mono ?_
 rintro e w4 ⟨rfl, hg4⟩
 have HG4 := Lib.hid (HG3a.out.trans hg4)
 have x4 := hg4.block X3a.out (by omega)
 have y4 := hg4.block Y3a.out (by omega)
 have X4 := Lib.hid x4
 have Y4 := Lib.hid y4
 have lx4 := lt_of_block x4
 have ly4 := lt_of_block y4
 have F1_4 := Lib.hid ((RdBy.stay HG3a.out.rd hg4).pt (by decide) F1_3a.out)
 clear hg4 x4 y4 
 clear q3_3 k3_3
 have q4_0 : w4.cell? ⟨w.heap.size + 1, 0, none⟩ = some (.int .i64 2) := (cell_at Y4.out 0).trans rfl
 have p0 : w4.cell? ⟨w.heap.size, 0, none⟩ = some (.int .i64 0) := (cell_at X4.out 0).trans rfl
 have g0 : w4.frozen? ⟨w.heap.size, 0, none⟩ = false := free_at X4.out 0
 have q4_1 : w4.cell? ⟨w.heap.size + 1, 1, none⟩ = some (.string ⟨#[]⟩) := (cell_at Y4.out 1).trans rfl
 have p1 : w4.cell? ⟨w.heap.size, 1, none⟩ = some (.string ⟨#[]⟩) := (cell_at X4.out 1).trans rfl
 have g1 : w4.frozen? ⟨w.heap.size, 1, none⟩ = false := free_at X4.out 1
 have q4_2 : w4.cell? ⟨w.heap.size + 1, 2, none⟩ = some (.int .i64 0) := (cell_at Y4.out 2).trans rfl
 have p2 : w4.cell? ⟨w.heap.size, 2, none⟩ = some (.int .i64 0) := (cell_at X4.out 2).trans rfl
 have g2 : w4.frozen? ⟨w.heap.size, 2, none⟩ = false := free_at X4.out 2
 have q4_3 : w4.cell? ⟨w.heap.size + 1, 3, none⟩ = some (.slice A1 n1 c1) := (cell_at Y4.out 3).trans rfl
 have p3 : w4.cell? ⟨w.heap.size, 3, none⟩ = some (.slice none 0 0) := (cell_at X4.out 3).trans rfl
 have g3 : w4.frozen? ⟨w.heap.size, 3, none⟩ = false := free_at X4.out 3
 have q4_4 : w4.cell? ⟨w.heap.size + 1, 4, none⟩ = some (.slice none 0 0) := (cell_at Y4.out 4).trans rfl
 have p4 : w4.cell? ⟨w.heap.size, 4, none⟩ = some (.slice none 0 0) := (cell_at X4.out 4).trans rfl
 have g4 : w4.frozen? ⟨w.heap.size, 4, none⟩ = false := free_at X4.out 4
 have q4_5 : w4.cell? ⟨w.heap.size + 1, 5, none⟩ = some (.slice none 0 0) := (cell_at Y4.out 5).trans rfl
 have p5 : w4.cell? ⟨w.heap.size, 5, none⟩ = some (.slice none 0 0) := (cell_at X4.out 5).trans rfl
 have g5 : w4.frozen? ⟨w.heap.size, 5, none⟩ = false := free_at X4.out 5
 go_wp2
 have Z := blk6 X4.out (.int .i64 2) (.string ⟨#[]⟩) (.int .i64 0) (.slice A1 n1 c1) (.slice none 0 0) (.slice none 0 0)
 have hsz : w4.heap.size ≤ ((((((w4.setCell ⟨w.heap.size, 0, none⟩ (.int .i64 2)).setCell ⟨w.heap.size, 1, none⟩ (.string ⟨#[]⟩)).setCell ⟨w.heap.size, 2, none⟩ (.int .i64 0)).setCell ⟨w.heap.size, 3, none⟩ (.slice A1 n1 c1)).setCell ⟨w.heap.size, 4, none⟩ (.slice none 0 0)).setCell ⟨w.heap.size, 5, none⟩ (.slice none 0 0)).heap.size := by simp [World.setCell]
 have hst : Stay (fun t => t = 129) w4 ((((((w4.setCell ⟨w.heap.size, 0, none⟩ (.int .i64 2)).setCell ⟨w.heap.size, 1, none⟩ (.string ⟨#[]⟩)).setCell ⟨w.heap.size, 2, none⟩ (.int .i64 0)).setCell ⟨w.heap.size, 3, none⟩ (.slice A1 n1 c1)).setCell ⟨w.heap.size, 4, none⟩ (.slice none 0 0)).setCell ⟨w.heap.size, 5, none⟩ (.slice none 0 0)) := stay_sets X4.out rfl hsz (fun g hg => by simp only [set_ne hg])
 have z0 := (cell_at Z 0).trans (show _ = some (.int .i64 2) from rfl)
 have z1 := (cell_at Z 1).trans (show _ = some (.string ⟨#[]⟩) from rfl)
 have z2 := (cell_at Z 2).trans (show _ = some (.int .i64 0) from rfl)
 have z3 := (cell_at Z 3).trans (show _ = some (.slice A1 n1 c1) from rfl)
 have z4 := (cell_at Z 4).trans (show _ = some (.slice none 0 0) from rfl)
 have z5 := (cell_at Z 5).trans (show _ = some (.slice none 0 0) from rfl)
 clear p0 g0 p1 g1 p2 g2 p3 g3 p4 g4 p5 g5 q4_0 q4_1 q4_2 q4_3 q4_4 q4_5
 exact bodyPost_ret (v := .tuple #[.agg #[.int .i64 2, .string ⟨#[]⟩, .int .i64 0, .slice A1 n1 c1, .slice none 0 0, .slice none 0 0], .bool true]) (by simp [results, Tryz.results73, go_sem, z0, z1, z2, z3, z4, z5]) rfl (ItmO.of HE.out (hst.pt (by decide) F1_4.out) (PtW.nil _ _ rfl) (RowR.nil _ _ _ _) ((((((HG4.out.setLocal (by omega) hlt _).setLocal (by omega) hlt _).setLocal (by omega) hlt _).setLocal (by omega) hlt _).setLocal (by omega) hlt _).setLocal (by omega) hlt _))
end Go.Proofs.YtdebhngpgabglaaGreat.Rp
/- Contracts of the document's reader of programs: an item. Conditions: a reader lies in memory. -/
namespace Go.Proofs.YtdebhngpgabglaaGreat.Rp
open Go.ChangeShapes Go.WideShapes Go.ChangeAt Go.RowKit
open Go.Proofs.YtdebhngpgabglaaGreat.Ex
open Go.Proofs.YtdebhngpgabglaaGreat.Tr (str ret_bool ret_int Bytes Nd)
open Go.Proofs.YtdebhngpgabglaaGreat.Pg
set_option maxRecDepth 100000 in
set_option maxHeartbeats 8000000 in
theorem item_ghost (b : Nat) (r : Rd) (w : World) (hr : RdIn w b r) (pn : Bytes) (pt : Int) (E : List Nd) (r0 r1 r2 r3 r4 : Rd) (X : Option Itm × Rd) (t1 : takeQ wAssume r = (false, r)) (t2 : takeQ wGuarantee r = (false, r)) (t3 : takeQ wGhost r = (true, r0)) (h1 : paramQ r0 = (⟨pn, pt⟩, r1)) (h2 : (needQ sEq r1).2 = r2) (h3 : exprQ r2 = (E, r3)) (h4 : (needQ sSemi r3).2 = r4) (he : (some (⟨3, pn, pt, E, [], []⟩ : Itm), r4) = X) : Calls Tryz.prog 73 #[.pointer (some ⟨b, 0, none⟩)] w (ItmO w b X) := by
 have HR := Lib.hid hr
 have hlt := hr.lt
 have HE := Lib.hid he
 have T1 := Lib.hid t1
 have T2 := Lib.hid t2
 have T3 := Lib.hid t3
 have HC1 : Hid (∀ w', RdIn w' b r0 → Calls Tryz.prog 53 #[.pointer (some ⟨b, 0, none⟩)] w' (PrmG w' b (⟨pn, pt⟩, r1))) := Lib.hid (fun w' h => by rw [← h1]; exact param_any b r0 w' h)
 have H2 := Lib.hid h2
 have HC3 : Hid (∀ w', RdIn w' b r2 → Calls Tryz.prog 74 #[.pointer (some ⟨b, 0, none⟩)] w' (ExpG w' b (E, r3))) := Lib.hid (fun w' h => by rw [← h3]; exact expr_any b r2 w' h)
 have H4 := Lib.hid h4
 clear t1 t2 t3 h1 h2 h3 h4 he hr
 have hBW : Below w.heap.size w ((w.alloc (.cells #[.int .i64 0, .string ⟨#[]⟩, .int .i64 0, .slice none 0 0, .slice none 0 0, .slice none 0 0] 129)).alloc (.cells #[.int .i64 0, .string ⟨#[]⟩, .int .i64 0, .slice none 0 0, .slice none 0 0, .slice none 0 0] 129)) := (below_new w _).alloc (below_new w _).size _
 have X0 : Hid (((w.alloc (.cells #[.int .i64 0, .string ⟨#[]⟩, .int .i64 0, .slice none 0 0, .slice none 0 0, .slice none 0 0] 129)).alloc (.cells #[.int .i64 0, .string ⟨#[]⟩, .int .i64 0, .slice none 0 0, .slice none 0 0, .slice none 0 0] 129)).heap[w.heap.size]? = some (.cells #[.int .i64 0, .string ⟨#[]⟩, .int .i64 0, .slice none 0 0, .slice none 0 0, .slice none 0 0] 129 (0, 0))) := Lib.hid (stayA (heap_alloc_new w _))
 have Y0 : Hid (((w.alloc (.cells #[.int .i64 0, .string ⟨#[]⟩, .int .i64 0, .slice none 0 0, .slice none 0 0, .slice none 0 0] 129)).alloc (.cells #[.int .i64 0, .string ⟨#[]⟩, .int .i64 0, .slice none 0 0, .slice none 0 0, .slice none 0 0] 129)).heap[w.heap.size + 1]? = some (.cells #[.int .i64 0, .string ⟨#[]⟩, .int .i64 0, .slice none 0 0, .slice none 0 0, .slice none 0 0] 129 (0, 0))) := Lib.hid (new_blk (by simp))
 have HG0 := Lib.hid (RdBy.of_below HR.out hBW)
 have hne : w.heap.size ≠ w.heap.size + 1 := by omega
 clear hBW
 go_enter Tryz.func73, Tryz.ntmps73
 go_wp2_with fail
 refine (take_lit (s := wAssume) rfl HG0.out.rd T1.out).mono ?_
 rintro e w1 ⟨rfl, hg1⟩
 have HG1 := Lib.hid (HG0.out.trans hg1)
 have x1 := hg1.block X0.out (by omega)
 have y1 := hg1.block Y0.out (by omega)
 have X1 := Lib.hid x1
 have Y1 := Lib.hid y1
 have lx1 := lt_of_block x1
 have ly1 := lt_of_block y1
 clear hg1 x1 y1 
 go_wp2_with fail
 refine (take_lit (s := wGuarantee) rfl HG1.out.rd T2.out).mono ?_
 rintro e w2 ⟨rfl, hg2⟩
 have HG2 := Lib.hid (HG1.out.trans hg2)
 have x2 := hg2.block X1.out (by omega)
 have y2 := hg2.block Y1.out (by omega)
 have X2 := Lib.hid x2
 have Y2 := Lib.hid y2
 have lx2 := lt_of_block x2
 have ly2 := lt_of_block y2
 clear hg2 x2 y2 
 go_wp2_with fail
 refine (take_lit (s := wGhost) rfl HG2.out.rd T3.out).mono ?_
 rintro e w3 ⟨rfl, hg3⟩
 have HG3 := Lib.hid (HG2.out.trans hg3)
 have x3 := hg3.block X2.out (by omega)
 have y3 := hg3.block Y2.out (by omega)
 have X3 := Lib.hid x3
 have Y3 := Lib.hid y3
 have lx3 := lt_of_block x3
 have ly3 := lt_of_block y3
 clear hg3 x3 y3 
 go_wp2_with fail
 refine (HC1.out _ HG3.out.rd).mono ?_
 rintro e w4 ⟨rfl, hg4⟩
 have HG4 := Lib.hid (HG3.out.trans hg4)
 have x4 := hg4.block X3.out (by omega)
 have y4 := hg4.block Y3.out (by omega)
 have X4 := Lib.hid x4
 have Y4 := Lib.hid y4
 have lx4 := lt_of_block x4
 have ly4 := lt_of_block y4
 clear hg4 x4 y4 
 have q4_0 : w4.cell? ⟨w.heap.size + 1, 0, none⟩ = some (.int .i64 0) := (cell_at Y4.out 0).trans rfl
 have k4_0 : w4.frozen? ⟨w.heap.size + 1, 0, none⟩ = false := free_at Y4.out 0
 have q4_1 : w4.cell? ⟨w.heap.size + 1, 1, none⟩ = some (.string ⟨#[]⟩) := (cell_at Y4.out 1).trans rfl
 have k4_1 : w4.frozen? ⟨w.heap.size + 1, 1, none⟩ = false := free_at Y4.out 1
 have q4_2 : w4.cell? ⟨w.heap.size + 1, 2, none⟩ = some (.int .i64 0) := (cell_at Y4.out 2).trans rfl
 have k4_2 : w4.frozen? ⟨w.heap.size + 1, 2, none⟩ = false := free_at Y4.out 2
 have Y4a : Hid ((w4.setCell ⟨w.heap.size + 1, 0, none⟩ (.int .i64 3)).heap[w.heap.size + 1]? = some (.cells #[.int .i64 3, .string ⟨#[]⟩, .int .i64 0, .slice none 0 0, .slice none 0 0, .slice none 0 0] 129 (0, 0))) := Lib.hid (by have z := setObj_heap (v := .int .i64 3) Y4.out (k := 0) (by simp); simpa using z)
 have X4a := Lib.hid (set_other (k := 0) (v := .int .i64 3) X4.out hne)
 have HG4a := Lib.hid (HG4.out.setLocal (k := 0) (B := w.heap.size + 1) (by omega) hlt (.int .i64 3))
 have Y4b : Hid (((w4.setCell ⟨w.heap.size + 1, 0, none⟩ (.int .i64 3)).setCell ⟨w.heap.size + 1, 1, none⟩ (.string (str pn))).heap[w.heap.size + 1]? = some (.cells #[.int .i64 3, .string (str pn), .int .i64 0, .slice none 0 0, .slice none 0 0, .slice none 0 0] 129 (0, 0))) := Lib.hid (by have z := setObj_heap (v := .string (str pn)) Y4a.out (k := 1) (by simp); simpa using z)
 have X4b := Lib.hid (set_other (k := 1) (v := .string (str pn)) X4a.out hne)
 have HG4b := Lib.hid (HG4a.out.setLocal (k := 1) (B := w.heap.size + 1) (by omega) hlt (.string (str pn)))
 have Y4c : Hid ((((w4.setCell ⟨w.heap.size + 1, 0, none⟩ (.int .i64 3)).setCell ⟨w.heap.size + 1, 1, none⟩ (.string (str pn))).setCell ⟨w.heap.size + 1, 2, none⟩ (.int .i64 pt)).heap[w.heap.size + 1]? = some (.cells #[.int .i64 3, .string (str pn), .int .i64 pt, .slice none 0 0, .slice none 0 0, .slice none 0 0] 129 (0, 0))) := Lib.hid (by have z := setObj_heap (v := .int .i64 pt) Y4b.out (k := 2) (by simp); simpa using z)
 have X4c := Lib.hid (set_other (k := 2) (v := .int .i64 pt) X4b.out hne)
 have HG4c := Lib.hid (HG4b.out.setLocal (k := 2) (B := w.heap.size + 1) (by omega) hlt (.int .i64 pt))
 have HG4z := Lib.hid (HG4c.out.then_below (below_new (((w4.setCell ⟨w.heap.size + 1, 0, none⟩ (.int .i64 3)).setCell ⟨w.heap.size + 1, 1, none⟩ (.string (str pn))).setCell ⟨w.heap.size + 1, 2, none⟩ (.int .i64 pt)) (.cells #[.string (str pn), .int .i64 pt] 37)))
 have X4z := Lib.hid (((below_new (((w4.setCell ⟨w.heap.size + 1, 0, none⟩ (.int .i64 3)).setCell ⟨w.heap.size + 1, 1, none⟩ (.string (str pn))).setCell ⟨w.heap.size + 1, 2, none⟩ (.int .i64 pt)) (.cells #[.string (str pn), .int .i64 pt] 37)).block _ (lt_of_block X4c.out)).trans X4c.out)
 have Y4z := Lib.hid (((below_new (((w4.setCell ⟨w.heap.size + 1, 0, none⟩ (.int .i64 3)).setCell ⟨w.heap.size + 1, 1, none⟩ (.string (str pn))).setCell ⟨w.heap.size + 1, 2, none⟩ (.int .i64 pt)) (.cells #[.string (str pn), .int .i64 pt] 37)).block _ (lt_of_block Y4c.out)).trans Y4c.out)
 go_wp2_with fail
 refine (need_lit (s := sEq) rfl HG4z.out.rd H2.out).mono ?_
 rintro e w5 ⟨rfl, hg5⟩
 have HG5 := Lib.hid (HG4z.out.trans hg5)
 have x5 := hg5.block X4z.out (by omega)
 have y5 := hg5.block Y4z.out (by omega)
 have X5 := Lib.hid x5
 have Y5 := Lib.hid y5
 have lx5 := lt_of_block x5
 have ly5 := lt_of_block y5
 clear hg5 x5 y5 
 clear q4_0 k4_0 q4_1 k4_1 q4_2 k4_2
 go_wp2_with fail
 refine (HC3.out _ HG5.out.rd).mono ?_
 rintro e w6 ⟨ev, rfl, hp6, hg6⟩
 have HG6 := Lib.hid (HG5.out.trans hg6)
 have x6 := hg6.block X5.out (by omega)
 have y6 := hg6.block Y5.out (by omega)
 have X6 := Lib.hid x6
 have Y6 := Lib.hid y6
 have lx6 := lt_of_block x6
 have ly6 := lt_of_block y6
 obtain ⟨A1, n1, c1, rfl, u1, v1⟩ := pt_form hp6
 have F1_6 := Lib.hid hp6
 clear hg6 x6 y6 hp6
 have q6_3 : w6.cell? ⟨w.heap.size + 1, 3, none⟩ = some (.slice none 0 0) := (cell_at Y6.out 3).trans rfl
 have k6_3 : w6.frozen? ⟨w.heap.size + 1, 3, none⟩ = false := free_at Y6.out 3
 have Y6a : Hid ((w6.setCell ⟨w.heap.size + 1, 3, none⟩ (.slice A1 n1 c1)).heap[w.heap.size + 1]? = some (.cells #[.int .i64 3, .string (str pn), .int .i64 pt, .slice A1 n1 c1, .slice none 0 0, .slice none 0 0] 129 (0, 0))) := Lib.hid (by have z := setObj_heap (v := .slice A1 n1 c1) Y6.out (k := 3) (by simp); simpa using z)
 have X6a := Lib.hid (set_other (k := 3) (v := .slice A1 n1 c1) X6.out hne)
 have HG6a := Lib.hid (HG6.out.setLocal (k := 3) (B := w.heap.size + 1) (by omega) hlt (.slice A1 n1 c1))
 have F1_6a := Lib.hid ((stay_set (P := fun t => t = 129) (k := 3) Y6.out rfl (.slice A1 n1 c1)).pt (by decide) F1_6.out)
 go_wp2_with fail
 refine (need_lit (s := sSemi) rfl HG6a.out.rd H4.out).mono ?_
 rintro e w7 ⟨rfl, hg7⟩
 have HG7 := Lib.hid (HG6a.out.trans hg7)
 have x7 := hg7.block X6a.out (by omega)
 have y7 := hg7.block Y6a.out (by omega)
 have X7 := Lib.hid x7
 have Y7 := Lib.hid y7
 have lx7 := lt_of_block x7
 have ly7 := lt_of_block y7
 have F1_7 := Lib.hid ((RdBy.stay HG6a.out.rd hg7).pt (by decide) F1_6a.out)
 clear hg7 x7 y7 
 clear q6_3 k6_3
 have q7_0 : w7.cell? ⟨w.heap.size + 1, 0, none⟩ = some (.int .i64 3) := (cell_at Y7.out 0).trans rfl
 have p0 : w7.cell? ⟨w.heap.size, 0, none⟩ = some (.int .i64 0) := (cell_at X7.out 0).trans rfl
 have g0 : w7.frozen? ⟨w.heap.size, 0, none⟩ = false := free_at X7.out 0
 have q7_1 : w7.cell? ⟨w.heap.size + 1, 1, none⟩ = some (.string (str pn)) := (cell_at Y7.out 1).trans rfl
 have p1 : w7.cell? ⟨w.heap.size, 1, none⟩ = some (.string ⟨#[]⟩) := (cell_at X7.out 1).trans rfl
 have g1 : w7.frozen? ⟨w.heap.size, 1, none⟩ = false := free_at X7.out 1
 have q7_2 : w7.cell? ⟨w.heap.size + 1, 2, none⟩ = some (.int .i64 pt) := (cell_at Y7.out 2).trans rfl
 have p2 : w7.cell? ⟨w.heap.size, 2, none⟩ = some (.int .i64 0) := (cell_at X7.out 2).trans rfl
 have g2 : w7.frozen? ⟨w.heap.size, 2, none⟩ = false := free_at X7.out 2
 have q7_3 : w7.cell? ⟨w.heap.size + 1, 3, none⟩ = some (.slice A1 n1 c1) := (cell_at Y7.out 3).trans rfl
 have p3 : w7.cell? ⟨w.heap.size, 3, none⟩ = some (.slice none 0 0) := (cell_at X7.out 3).trans rfl
 have g3 : w7.frozen? ⟨w.heap.size, 3, none⟩ = false := free_at X7.out 3
 have q7_4 : w7.cell? ⟨w.heap.size + 1, 4, none⟩ = some (.slice none 0 0) := (cell_at Y7.out 4).trans rfl
 have p4 : w7.cell? ⟨w.heap.size, 4, none⟩ = some (.slice none 0 0) := (cell_at X7.out 4).trans rfl
 have g4 : w7.frozen? ⟨w.heap.size, 4, none⟩ = false := free_at X7.out 4
 have q7_5 : w7.cell? ⟨w.heap.size + 1, 5, none⟩ = some (.slice none 0 0) := (cell_at Y7.out 5).trans rfl
 have p5 : w7.cell? ⟨w.heap.size, 5, none⟩ = some (.slice none 0 0) := (cell_at X7.out 5).trans rfl
 have g5 : w7.frozen? ⟨w.heap.size, 5, none⟩ = false := free_at X7.out 5
 go_wp2
 have Z := blk6 X7.out (.int .i64 3) (.string (str pn)) (.int .i64 pt) (.slice A1 n1 c1) (.slice none 0 0) (.slice none 0 0)
 have hsz : w7.heap.size ≤ ((((((w7.setCell ⟨w.heap.size, 0, none⟩ (.int .i64 3)).setCell ⟨w.heap.size, 1, none⟩ (.string (str pn))).setCell ⟨w.heap.size, 2, none⟩ (.int .i64 pt)).setCell ⟨w.heap.size, 3, none⟩ (.slice A1 n1 c1)).setCell ⟨w.heap.size, 4, none⟩ (.slice none 0 0)).setCell ⟨w.heap.size, 5, none⟩ (.slice none 0 0)).heap.size := by simp [World.setCell]
 have hst : Stay (fun t => t = 129) w7 ((((((w7.setCell ⟨w.heap.size, 0, none⟩ (.int .i64 3)).setCell ⟨w.heap.size, 1, none⟩ (.string (str pn))).setCell ⟨w.heap.size, 2, none⟩ (.int .i64 pt)).setCell ⟨w.heap.size, 3, none⟩ (.slice A1 n1 c1)).setCell ⟨w.heap.size, 4, none⟩ (.slice none 0 0)).setCell ⟨w.heap.size, 5, none⟩ (.slice none 0 0)) := stay_sets X7.out rfl hsz (fun g hg => by simp only [set_ne hg])
 have z0 := (cell_at Z 0).trans (show _ = some (.int .i64 3) from rfl)
 have z1 := (cell_at Z 1).trans (show _ = some (.string (str pn)) from rfl)
 have z2 := (cell_at Z 2).trans (show _ = some (.int .i64 pt) from rfl)
 have z3 := (cell_at Z 3).trans (show _ = some (.slice A1 n1 c1) from rfl)
 have z4 := (cell_at Z 4).trans (show _ = some (.slice none 0 0) from rfl)
 have z5 := (cell_at Z 5).trans (show _ = some (.slice none 0 0) from rfl)
 clear p0 g0 p1 g1 p2 g2 p3 g3 p4 g4 p5 g5 q7_0 q7_1 q7_2 q7_3 q7_4 q7_5
 exact bodyPost_ret (v := .tuple #[.agg #[.int .i64 3, .string (str pn), .int .i64 pt, .slice A1 n1 c1, .slice none 0 0, .slice none 0 0], .bool true]) (by simp [results, Tryz.results73, go_sem, z0, z1, z2, z3, z4, z5]) rfl (ItmO.of HE.out (hst.pt (by decide) F1_7.out) (PtW.nil _ _ rfl) (RowR.nil _ _ _ _) ((((((HG7.out.setLocal (by omega) hlt _).setLocal (by omega) hlt _).setLocal (by omega) hlt _).setLocal (by omega) hlt _).setLocal (by omega) hlt _).setLocal (by omega) hlt _))
end Go.Proofs.YtdebhngpgabglaaGreat.Rp
