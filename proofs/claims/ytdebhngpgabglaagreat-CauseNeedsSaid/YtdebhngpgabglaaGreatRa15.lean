/- Contracts of the document's reader of programs: a node. Conditions: a reader lies in memory. -/
import Derived.Test.YtdebhngpgabglaaGreatRa10
import Derived.Test.YtdebhngpgabglaaGreatRa13
set_option linter.unusedVariables false
set_option linter.unusedSimpArgs false
namespace Go.Proofs.YtdebhngpgabglaaGreat.Rp
open Go.ChangeShapes Go.WideShapes Go.ChangeAt Go.RowKit
open Go.Proofs.YtdebhngpgabglaaGreat.Ex
open Go.Proofs.YtdebhngpgabglaaGreat.Tr (str ret_bool ret_int Bytes Nd)
open Go.Proofs.YtdebhngpgabglaaGreat.Pg
set_option maxRecDepth 100000 in
set_option maxHeartbeats 8000000 in
theorem unit_10 (b : Nat) (r : Rd) (w : World) (hr : RdIn w b r) (n : Bytes) (i : List Prm) (on : Bytes) (ot : Int) (l : List Itm) (vs : List Prm) (q : List Eqn) (r0 r1 r2 r3 r4 r5 r6 r7 r8 r9 r10 r11 r12 : Rd) (X : Unt × Rd) (h0 : takeQ wContract r = (false, r)) (h1 : (needQ wNode r).2 = r0) (h2 : nameP r0 = (n, r1)) (h3 : inQ sSemi paramQ r1 = (i, r2)) (h4 : (needQ wReturns r2).2 = r3) (h5 : (needQ [40] r3).2 = r4) (h6 : paramQ r4 = (⟨on, ot⟩, r5)) (h7 : (needQ [41] r5).2 = r6) (h8 : takeQ wContract r6 = (true, r7)) (h9 : (if true then itemsQ else pPure []) r7 = (l, r8)) (h10 : takeQ wVar r8 = (false, r9)) (h11 : (if false then varQ else pPure []) r9 = (vs, r10)) (h12 : (needQ wLet r10).2 = r11) (h13 : eqsQ r11 = (q, r12)) (he : ((⟨false, n, i, ⟨on, ot⟩, vs, q, l⟩ : Unt), r12) = X) : Calls Tryz.prog 32 #[.pointer (some ⟨b, 0, none⟩)] w (UntG w b X) := by
 have HR := Lib.hid hr
 have hlt := hr.lt
 obtain ⟨rfl, rfl⟩ : vs = [] ∧ r10 = r9 := by have z : (([] : List Prm), r9) = (vs, r10) := h11; injection z with z1 z2; exact ⟨z1.symm, z2.symm⟩
 have HE := Lib.hid he
 have H0 := Lib.hid h0
 have H1 := Lib.hid h1
 have H2 := Lib.hid h2
 have H4 := Lib.hid h4
 have H5 := Lib.hid h5
 have H7 := Lib.hid h7
 have H8 := Lib.hid h8
 have H10 := Lib.hid h10
 have H12 := Lib.hid h12
 have HC3 : Hid (∀ w', RdIn w' b r1 → Calls Tryz.prog 51 #[.pointer (some ⟨b, 0, none⟩)] w' (RowG 37 2 PrmV w' b (i, r2))) := Lib.hid (fun w' h => by rw [← h3]; exact inputs_any b r1 w' h)
 have HC6 : Hid (∀ w', RdIn w' b r4 → Calls Tryz.prog 53 #[.pointer (some ⟨b, 0, none⟩)] w' (PrmG w' b (⟨on, ot⟩, r5))) := Lib.hid (fun w' h => by rw [← h6]; exact param_any b r4 w' h)
 have HC13 : Hid (∀ w', RdIn w' b r11 → Calls Tryz.prog 55 #[.pointer (some ⟨b, 0, none⟩)] w' (RowG 52 2 EqnV w' b (q, r12))) := Lib.hid (fun w' h => by rw [← h13]; exact eqs_any b r11 w' h)
 have HC9 : Hid (∀ w', RdIn w' b r7 → Calls Tryz.prog 52 #[.pointer (some ⟨b, 0, none⟩)] w' (RowG 129 6 ItmV w' b (l, r8))) := Lib.hid (fun w' h => by rw [← (show itemsQ r7 = (l, r8) from h9)]; exact items_any b r7 w' h)
 clear h0 h1 h2 h3 h4 h5 h6 h7 h8 h10 h12 h13 h9 h11 he hr
 have hBW : Below w.heap.size w ((w.alloc (.cells #[.bool false, .string ⟨#[]⟩, .slice none 0 0, .string ⟨#[]⟩, .int .i64 0, .slice none 0 0, .slice none 0 0, .slice none 0 0] 40)).alloc (.cells #[.bool false, .string ⟨#[]⟩, .slice none 0 0, .string ⟨#[]⟩, .int .i64 0, .slice none 0 0, .slice none 0 0, .slice none 0 0] 40)) := (below_new w _).alloc (below_new w _).size _
 have X0 : Hid (((w.alloc (.cells #[.bool false, .string ⟨#[]⟩, .slice none 0 0, .string ⟨#[]⟩, .int .i64 0, .slice none 0 0, .slice none 0 0, .slice none 0 0] 40)).alloc (.cells #[.bool false, .string ⟨#[]⟩, .slice none 0 0, .string ⟨#[]⟩, .int .i64 0, .slice none 0 0, .slice none 0 0, .slice none 0 0] 40)).heap[w.heap.size]? = some (.cells #[.bool false, .string ⟨#[]⟩, .slice none 0 0, .string ⟨#[]⟩, .int .i64 0, .slice none 0 0, .slice none 0 0, .slice none 0 0] 40 (0, 0))) := Lib.hid (stayA (heap_alloc_new w _))
 have Y0 : Hid (((w.alloc (.cells #[.bool false, .string ⟨#[]⟩, .slice none 0 0, .string ⟨#[]⟩, .int .i64 0, .slice none 0 0, .slice none 0 0, .slice none 0 0] 40)).alloc (.cells #[.bool false, .string ⟨#[]⟩, .slice none 0 0, .string ⟨#[]⟩, .int .i64 0, .slice none 0 0, .slice none 0 0, .slice none 0 0] 40)).heap[w.heap.size + 1]? = some (.cells #[.bool false, .string ⟨#[]⟩, .slice none 0 0, .string ⟨#[]⟩, .int .i64 0, .slice none 0 0, .slice none 0 0, .slice none 0 0] 40 (0, 0))) := Lib.hid (new_blk (by simp))
 have HG0 := Lib.hid (RdBy.of_below HR.out hBW)
 have hne : w.heap.size ≠ w.heap.size + 1 := by omega
 clear hBW
 go_enter Tryz.func32, Tryz.ntmps32
 go_wp2_with fail
 refine (take_lit (s := wContract) rfl HG0.out.rd H0.out).mono ?_
 rintro e w1 ⟨rfl, hg1⟩
 have HG1 := Lib.hid (HG0.out.trans hg1)
 have x1 := hg1.block X0.out (by omega)
 have y1 := hg1.block Y0.out (by omega)
 have X1 := Lib.hid x1
 have Y1 := Lib.hid y1
 have lx1 := lt_of_block x1
 have ly1 := lt_of_block y1
 clear hg1 x1 y1 
 go_wp2_with fail
 refine (need_lit (s := wNode) rfl HG1.out.rd H1.out).mono ?_
 rintro e w2 ⟨rfl, hg2⟩
 have HG2 := Lib.hid (HG1.out.trans hg2)
 have x2 := hg2.block X1.out (by omega)
 have y2 := hg2.block Y1.out (by omega)
 have X2 := Lib.hid x2
 have Y2 := Lib.hid y2
 have lx2 := lt_of_block x2
 have ly2 := lt_of_block y2
 clear hg2 x2 y2 
 go_wp2_with fail
 refine (name_lit HG2.out.rd H2.out).mono ?_
 rintro e w3 ⟨rfl, hg3⟩
 have HG3 := Lib.hid (HG2.out.trans hg3)
 have x3 := hg3.block X2.out (by omega)
 have y3 := hg3.block Y2.out (by omega)
 have X3 := Lib.hid x3
 have Y3 := Lib.hid y3
 have lx3 := lt_of_block x3
 have ly3 := lt_of_block y3
 clear hg3 x3 y3 
 have q3_1 : w3.cell? ⟨w.heap.size + 1, 1, none⟩ = some (.string ⟨#[]⟩) := (cell_at Y3.out 1).trans rfl
 have k3_1 : w3.frozen? ⟨w.heap.size + 1, 1, none⟩ = false := free_at Y3.out 1
 have Y3a : Hid ((w3.setCell ⟨w.heap.size + 1, 1, none⟩ (.string (str n))).heap[w.heap.size + 1]? = some (.cells #[.bool false, .string (str n), .slice none 0 0, .string ⟨#[]⟩, .int .i64 0, .slice none 0 0, .slice none 0 0, .slice none 0 0] 40 (0, 0))) := Lib.hid (by have z := setObj_heap (v := .string (str n)) Y3.out (k := 1) (by simp); simpa using z)
 have X3a := Lib.hid (set_other (k := 1) (v := .string (str n)) X3.out hne)
 have HG3a := Lib.hid (HG3.out.setLocal (k := 1) (B := w.heap.size + 1) (by omega) hlt (.string (str n)))
 go_wp2_with fail
 refine (HC3.out _ HG3a.out.rd).mono ?_
 rintro e w4 ⟨iv, rfl, hl4, hg4⟩
 have HG4 := Lib.hid (HG3a.out.trans hg4)
 have x4 := hg4.block X3a.out (by omega)
 have y4 := hg4.block Y3a.out (by omega)
 have X4 := Lib.hid x4
 have Y4 := Lib.hid y4
 have lx4 := lt_of_block x4
 have ly4 := lt_of_block y4
 obtain ⟨A1, n1, c1, rfl, u1, v1⟩ := row_form hl4
 have F1_4 := Lib.hid hl4
 clear hg4 x4 y4 hl4
 clear q3_1 k3_1
 have q4_2 : w4.cell? ⟨w.heap.size + 1, 2, none⟩ = some (.slice none 0 0) := (cell_at Y4.out 2).trans rfl
 have k4_2 : w4.frozen? ⟨w.heap.size + 1, 2, none⟩ = false := free_at Y4.out 2
 have Y4a : Hid ((w4.setCell ⟨w.heap.size + 1, 2, none⟩ (.slice A1 n1 c1)).heap[w.heap.size + 1]? = some (.cells #[.bool false, .string (str n), .slice A1 n1 c1, .string ⟨#[]⟩, .int .i64 0, .slice none 0 0, .slice none 0 0, .slice none 0 0] 40 (0, 0))) := Lib.hid (by have z := setObj_heap (v := .slice A1 n1 c1) Y4.out (k := 2) (by simp); simpa using z)
 have X4a := Lib.hid (set_other (k := 2) (v := .slice A1 n1 c1) X4.out hne)
 have HG4a := Lib.hid (HG4.out.setLocal (k := 2) (B := w.heap.size + 1) (by omega) hlt (.slice A1 n1 c1))
 have F1_4a := Lib.hid (F1_4.out.stay (stay_set (P := fun t => t = 40) (k := 2) Y4.out rfl (.slice A1 n1 c1)) (by decide) (fun a x hx => PrmV.stay (stay_set (P := fun t => t = 40) (k := 2) Y4.out rfl (.slice A1 n1 c1)) a x hx))
 go_wp2_with fail
 refine (need_lit (s := wReturns) rfl HG4a.out.rd H4.out).mono ?_
 rintro e w5 ⟨rfl, hg5⟩
 have HG5 := Lib.hid (HG4a.out.trans hg5)
 have x5 := hg5.block X4a.out (by omega)
 have y5 := hg5.block Y4a.out (by omega)
 have X5 := Lib.hid x5
 have Y5 := Lib.hid y5
 have lx5 := lt_of_block x5
 have ly5 := lt_of_block y5
 have F1_5 := Lib.hid (F1_4a.out.stay (RdBy.stay HG4a.out.rd hg5) (by decide) (fun a x hx => PrmV.stay (RdBy.stay HG4a.out.rd hg5) a x hx))
 clear hg5 x5 y5 
 clear q4_2 k4_2
 go_wp2_with fail
 refine (need_lit (s := [40]) rfl HG5.out.rd H5.out).mono ?_
 rintro e w6 ⟨rfl, hg6⟩
 have HG6 := Lib.hid (HG5.out.trans hg6)
 have x6 := hg6.block X5.out (by omega)
 have y6 := hg6.block Y5.out (by omega)
 have X6 := Lib.hid x6
 have Y6 := Lib.hid y6
 have lx6 := lt_of_block x6
 have ly6 := lt_of_block y6
 have F1_6 := Lib.hid (F1_5.out.stay (RdBy.stay HG5.out.rd hg6) (by decide) (fun a x hx => PrmV.stay (RdBy.stay HG5.out.rd hg6) a x hx))
 clear hg6 x6 y6 
 go_wp2_with fail
 refine (HC6.out _ HG6.out.rd).mono ?_
 rintro e w7 ⟨rfl, hg7⟩
 have HG7 := Lib.hid (HG6.out.trans hg7)
 have x7 := hg7.block X6.out (by omega)
 have y7 := hg7.block Y6.out (by omega)
 have X7 := Lib.hid x7
 have Y7 := Lib.hid y7
 have lx7 := lt_of_block x7
 have ly7 := lt_of_block y7
 have F1_7 := Lib.hid (F1_6.out.stay (RdBy.stay HG6.out.rd hg7) (by decide) (fun a x hx => PrmV.stay (RdBy.stay HG6.out.rd hg7) a x hx))
 clear hg7 x7 y7 
 have q7_3 : w7.cell? ⟨w.heap.size + 1, 3, none⟩ = some (.string ⟨#[]⟩) := (cell_at Y7.out 3).trans rfl
 have k7_3 : w7.frozen? ⟨w.heap.size + 1, 3, none⟩ = false := free_at Y7.out 3
 have q7_4 : w7.cell? ⟨w.heap.size + 1, 4, none⟩ = some (.int .i64 0) := (cell_at Y7.out 4).trans rfl
 have k7_4 : w7.frozen? ⟨w.heap.size + 1, 4, none⟩ = false := free_at Y7.out 4
 have Y7a : Hid ((w7.setCell ⟨w.heap.size + 1, 3, none⟩ (.string (str on))).heap[w.heap.size + 1]? = some (.cells #[.bool false, .string (str n), .slice A1 n1 c1, .string (str on), .int .i64 0, .slice none 0 0, .slice none 0 0, .slice none 0 0] 40 (0, 0))) := Lib.hid (by have z := setObj_heap (v := .string (str on)) Y7.out (k := 3) (by simp); simpa using z)
 have X7a := Lib.hid (set_other (k := 3) (v := .string (str on)) X7.out hne)
 have HG7a := Lib.hid (HG7.out.setLocal (k := 3) (B := w.heap.size + 1) (by omega) hlt (.string (str on)))
 have F1_7a := Lib.hid (F1_7.out.stay (stay_set (P := fun t => t = 40) (k := 3) Y7.out rfl (.string (str on))) (by decide) (fun a x hx => PrmV.stay (stay_set (P := fun t => t = 40) (k := 3) Y7.out rfl (.string (str on))) a x hx))
 have Y7b : Hid (((w7.setCell ⟨w.heap.size + 1, 3, none⟩ (.string (str on))).setCell ⟨w.heap.size + 1, 4, none⟩ (.int .i64 ot)).heap[w.heap.size + 1]? = some (.cells #[.bool false, .string (str n), .slice A1 n1 c1, .string (str on), .int .i64 ot, .slice none 0 0, .slice none 0 0, .slice none 0 0] 40 (0, 0))) := Lib.hid (by have z := setObj_heap (v := .int .i64 ot) Y7a.out (k := 4) (by simp); simpa using z)
 have X7b := Lib.hid (set_other (k := 4) (v := .int .i64 ot) X7a.out hne)
 have HG7b := Lib.hid (HG7a.out.setLocal (k := 4) (B := w.heap.size + 1) (by omega) hlt (.int .i64 ot))
 have F1_7b := Lib.hid (F1_7a.out.stay (stay_set (P := fun t => t = 40) (k := 4) Y7a.out rfl (.int .i64 ot)) (by decide) (fun a x hx => PrmV.stay (stay_set (P := fun t => t = 40) (k := 4) Y7a.out rfl (.int .i64 ot)) a x hx))
 go_wp2_with fail
 refine (need_lit (s := [41]) rfl HG7b.out.rd H7.out).mono ?_
 rintro e w8 ⟨rfl, hg8⟩
 have HG8 := Lib.hid (HG7b.out.trans hg8)
 have x8 := hg8.block X7b.out (by omega)
 have y8 := hg8.block Y7b.out (by omega)
 have X8 := Lib.hid x8
 have Y8 := Lib.hid y8
 have lx8 := lt_of_block x8
 have ly8 := lt_of_block y8
 have F1_8 := Lib.hid (F1_7b.out.stay (RdBy.stay HG7b.out.rd hg8) (by decide) (fun a x hx => PrmV.stay (RdBy.stay HG7b.out.rd hg8) a x hx))
 clear hg8 x8 y8 
 clear q7_3 k7_3 q7_4 k7_4
 go_wp2_with fail
 refine (take_lit (s := wContract) rfl HG8.out.rd H8.out).mono ?_
 rintro e w9 ⟨rfl, hg9⟩
 have HG9 := Lib.hid (HG8.out.trans hg9)
 have x9 := hg9.block X8.out (by omega)
 have y9 := hg9.block Y8.out (by omega)
 have X9 := Lib.hid x9
 have Y9 := Lib.hid y9
 have lx9 := lt_of_block x9
 have ly9 := lt_of_block y9
 have F1_9 := Lib.hid (F1_8.out.stay (RdBy.stay HG8.out.rd hg9) (by decide) (fun a x hx => PrmV.stay (RdBy.stay HG8.out.rd hg9) a x hx))
 clear hg9 x9 y9 
 go_wp2_with fail
 refine (HC9.out _ HG9.out.rd).mono ?_
 rintro e w10 ⟨lv, rfl, hl10, hg10⟩
 have HG10 := Lib.hid (HG9.out.trans hg10)
 have x10 := hg10.block X9.out (by omega)
 have y10 := hg10.block Y9.out (by omega)
 have X10 := Lib.hid x10
 have Y10 := Lib.hid y10
 have lx10 := lt_of_block x10
 have ly10 := lt_of_block y10
 have F1_10 := Lib.hid (F1_9.out.stay (RdBy.stay HG9.out.rd hg10) (by decide) (fun a x hx => PrmV.stay (RdBy.stay HG9.out.rd hg10) a x hx))
 obtain ⟨A4, n4, c4, rfl, u4, v4⟩ := row_form hl10
 have F4_10 := Lib.hid hl10
 clear hg10 x10 y10 hl10
 have q10_7 : w10.cell? ⟨w.heap.size + 1, 7, none⟩ = some (.slice none 0 0) := (cell_at Y10.out 7).trans rfl
 have k10_7 : w10.frozen? ⟨w.heap.size + 1, 7, none⟩ = false := free_at Y10.out 7
 have Y10a : Hid ((w10.setCell ⟨w.heap.size + 1, 7, none⟩ (.slice A4 n4 c4)).heap[w.heap.size + 1]? = some (.cells #[.bool false, .string (str n), .slice A1 n1 c1, .string (str on), .int .i64 ot, .slice none 0 0, .slice none 0 0, .slice A4 n4 c4] 40 (0, 0))) := Lib.hid (by have z := setObj_heap (v := .slice A4 n4 c4) Y10.out (k := 7) (by simp); simpa using z)
 have X10a := Lib.hid (set_other (k := 7) (v := .slice A4 n4 c4) X10.out hne)
 have HG10a := Lib.hid (HG10.out.setLocal (k := 7) (B := w.heap.size + 1) (by omega) hlt (.slice A4 n4 c4))
 have F1_10a := Lib.hid (F1_10.out.stay (stay_set (P := fun t => t = 40) (k := 7) Y10.out rfl (.slice A4 n4 c4)) (by decide) (fun a x hx => PrmV.stay (stay_set (P := fun t => t = 40) (k := 7) Y10.out rfl (.slice A4 n4 c4)) a x hx))
 have F4_10a := Lib.hid (F4_10.out.stay (stay_set (P := fun t => t = 40) (k := 7) Y10.out rfl (.slice A4 n4 c4)) (by decide) (fun a x hx => ItmV.stay (stay_set (P := fun t => t = 40) (k := 7) Y10.out rfl (.slice A4 n4 c4)) (by decide) (by decide) a x hx))
 go_wp2_with fail
 refine (take_lit (s := wVar) rfl HG10a.out.rd H10.out).mono ?_
 rintro e w11 ⟨rfl, hg11⟩
 have HG11 := Lib.hid (HG10a.out.trans hg11)
 have x11 := hg11.block X10a.out (by omega)
 have y11 := hg11.block Y10a.out (by omega)
 have X11 := Lib.hid x11
 have Y11 := Lib.hid y11
 have lx11 := lt_of_block x11
 have ly11 := lt_of_block y11
 have F1_11 := Lib.hid (F1_10a.out.stay (RdBy.stay HG10a.out.rd hg11) (by decide) (fun a x hx => PrmV.stay (RdBy.stay HG10a.out.rd hg11) a x hx))
 have F4_11 := Lib.hid (F4_10a.out.stay (RdBy.stay HG10a.out.rd hg11) (by decide) (fun a x hx => ItmV.stay (RdBy.stay HG10a.out.rd hg11) (by decide) (by decide) a x hx))
 clear hg11 x11 y11 
 clear q10_7 k10_7
 go_wp2_with fail
 refine (need_lit (s := wLet) rfl HG11.out.rd H12.out).mono ?_
 rintro e w12 ⟨rfl, hg12⟩
 have HG12 := Lib.hid (HG11.out.trans hg12)
 have x12 := hg12.block X11.out (by omega)
 have y12 := hg12.block Y11.out (by omega)
 have X12 := Lib.hid x12
 have Y12 := Lib.hid y12
 have lx12 := lt_of_block x12
 have ly12 := lt_of_block y12
 have F1_12 := Lib.hid (F1_11.out.stay (RdBy.stay HG11.out.rd hg12) (by decide) (fun a x hx => PrmV.stay (RdBy.stay HG11.out.rd hg12) a x hx))
 have F4_12 := Lib.hid (F4_11.out.stay (RdBy.stay HG11.out.rd hg12) (by decide) (fun a x hx => ItmV.stay (RdBy.stay HG11.out.rd hg12) (by decide) (by decide) a x hx))
 clear hg12 x12 y12 
 go_wp2_with fail
 refine (HC13.out _ HG12.out.rd).mono ?_
 rintro e w13 ⟨qv, rfl, hl13, hg13⟩
 have HG13 := Lib.hid (HG12.out.trans hg13)
 have x13 := hg13.block X12.out (by omega)
 have y13 := hg13.block Y12.out (by omega)
 have X13 := Lib.hid x13
 have Y13 := Lib.hid y13
 have lx13 := lt_of_block x13
 have ly13 := lt_of_block y13
 have F1_13 := Lib.hid (F1_12.out.stay (RdBy.stay HG12.out.rd hg13) (by decide) (fun a x hx => PrmV.stay (RdBy.stay HG12.out.rd hg13) a x hx))
 have F4_13 := Lib.hid (F4_12.out.stay (RdBy.stay HG12.out.rd hg13) (by decide) (fun a x hx => ItmV.stay (RdBy.stay HG12.out.rd hg13) (by decide) (by decide) a x hx))
 obtain ⟨A3, n3, c3, rfl, u3, v3⟩ := row_form hl13
 have F3_13 := Lib.hid hl13
 clear hg13 x13 y13 hl13
 have q13_6 : w13.cell? ⟨w.heap.size + 1, 6, none⟩ = some (.slice none 0 0) := (cell_at Y13.out 6).trans rfl
 have k13_6 : w13.frozen? ⟨w.heap.size + 1, 6, none⟩ = false := free_at Y13.out 6
 have Y13a : Hid ((w13.setCell ⟨w.heap.size + 1, 6, none⟩ (.slice A3 n3 c3)).heap[w.heap.size + 1]? = some (.cells #[.bool false, .string (str n), .slice A1 n1 c1, .string (str on), .int .i64 ot, .slice none 0 0, .slice A3 n3 c3, .slice A4 n4 c4] 40 (0, 0))) := Lib.hid (by have z := setObj_heap (v := .slice A3 n3 c3) Y13.out (k := 6) (by simp); simpa using z)
 have X13a := Lib.hid (set_other (k := 6) (v := .slice A3 n3 c3) X13.out hne)
 have HG13a := Lib.hid (HG13.out.setLocal (k := 6) (B := w.heap.size + 1) (by omega) hlt (.slice A3 n3 c3))
 have F1_13a := Lib.hid (F1_13.out.stay (stay_set (P := fun t => t = 40) (k := 6) Y13.out rfl (.slice A3 n3 c3)) (by decide) (fun a x hx => PrmV.stay (stay_set (P := fun t => t = 40) (k := 6) Y13.out rfl (.slice A3 n3 c3)) a x hx))
 have F4_13a := Lib.hid (F4_13.out.stay (stay_set (P := fun t => t = 40) (k := 6) Y13.out rfl (.slice A3 n3 c3)) (by decide) (fun a x hx => ItmV.stay (stay_set (P := fun t => t = 40) (k := 6) Y13.out rfl (.slice A3 n3 c3)) (by decide) (by decide) a x hx))
 have F3_13a := Lib.hid (F3_13.out.stay (stay_set (P := fun t => t = 40) (k := 6) Y13.out rfl (.slice A3 n3 c3)) (by decide) (fun a x hx => EqnV.stay (stay_set (P := fun t => t = 40) (k := 6) Y13.out rfl (.slice A3 n3 c3)) (by decide) a x hx))
 have q13_0 : w13.cell? ⟨w.heap.size + 1, 0, none⟩ = some (.bool false) := (cell_at Y13.out 0).trans rfl
 have p0 : w13.cell? ⟨w.heap.size, 0, none⟩ = some (.bool false) := (cell_at X13.out 0).trans rfl
 have g0 : w13.frozen? ⟨w.heap.size, 0, none⟩ = false := free_at X13.out 0
 have q13_1 : w13.cell? ⟨w.heap.size + 1, 1, none⟩ = some (.string (str n)) := (cell_at Y13.out 1).trans rfl
 have p1 : w13.cell? ⟨w.heap.size, 1, none⟩ = some (.string ⟨#[]⟩) := (cell_at X13.out 1).trans rfl
 have g1 : w13.frozen? ⟨w.heap.size, 1, none⟩ = false := free_at X13.out 1
 have q13_2 : w13.cell? ⟨w.heap.size + 1, 2, none⟩ = some (.slice A1 n1 c1) := (cell_at Y13.out 2).trans rfl
 have p2 : w13.cell? ⟨w.heap.size, 2, none⟩ = some (.slice none 0 0) := (cell_at X13.out 2).trans rfl
 have g2 : w13.frozen? ⟨w.heap.size, 2, none⟩ = false := free_at X13.out 2
 have q13_3 : w13.cell? ⟨w.heap.size + 1, 3, none⟩ = some (.string (str on)) := (cell_at Y13.out 3).trans rfl
 have p3 : w13.cell? ⟨w.heap.size, 3, none⟩ = some (.string ⟨#[]⟩) := (cell_at X13.out 3).trans rfl
 have g3 : w13.frozen? ⟨w.heap.size, 3, none⟩ = false := free_at X13.out 3
 have q13_4 : w13.cell? ⟨w.heap.size + 1, 4, none⟩ = some (.int .i64 ot) := (cell_at Y13.out 4).trans rfl
 have p4 : w13.cell? ⟨w.heap.size, 4, none⟩ = some (.int .i64 0) := (cell_at X13.out 4).trans rfl
 have g4 : w13.frozen? ⟨w.heap.size, 4, none⟩ = false := free_at X13.out 4
 have q13_5 : w13.cell? ⟨w.heap.size + 1, 5, none⟩ = some (.slice none 0 0) := (cell_at Y13.out 5).trans rfl
 have p5 : w13.cell? ⟨w.heap.size, 5, none⟩ = some (.slice none 0 0) := (cell_at X13.out 5).trans rfl
 have g5 : w13.frozen? ⟨w.heap.size, 5, none⟩ = false := free_at X13.out 5
 have p6 : w13.cell? ⟨w.heap.size, 6, none⟩ = some (.slice none 0 0) := (cell_at X13.out 6).trans rfl
 have g6 : w13.frozen? ⟨w.heap.size, 6, none⟩ = false := free_at X13.out 6
 have q13_7 : w13.cell? ⟨w.heap.size + 1, 7, none⟩ = some (.slice A4 n4 c4) := (cell_at Y13.out 7).trans rfl
 have p7 : w13.cell? ⟨w.heap.size, 7, none⟩ = some (.slice none 0 0) := (cell_at X13.out 7).trans rfl
 have g7 : w13.frozen? ⟨w.heap.size, 7, none⟩ = false := free_at X13.out 7
 go_wp2
 have Z := blk8 X13a.out (.bool false) (.string (str n)) (.slice A1 n1 c1) (.string (str on)) (.int .i64 ot) (.slice none 0 0) (.slice A3 n3 c3) (.slice A4 n4 c4)
 have hsz : (w13.setCell ⟨w.heap.size + 1, 6, none⟩ (.slice A3 n3 c3)).heap.size ≤ (((((((((w13.setCell ⟨w.heap.size + 1, 6, none⟩ (.slice A3 n3 c3)).setCell ⟨w.heap.size, 0, none⟩ (.bool false)).setCell ⟨w.heap.size, 1, none⟩ (.string (str n))).setCell ⟨w.heap.size, 2, none⟩ (.slice A1 n1 c1)).setCell ⟨w.heap.size, 3, none⟩ (.string (str on))).setCell ⟨w.heap.size, 4, none⟩ (.int .i64 ot)).setCell ⟨w.heap.size, 5, none⟩ (.slice none 0 0)).setCell ⟨w.heap.size, 6, none⟩ (.slice A3 n3 c3)).setCell ⟨w.heap.size, 7, none⟩ (.slice A4 n4 c4)).heap.size := by simp [World.setCell]
 have hst : Stay (fun t => t = 40) (w13.setCell ⟨w.heap.size + 1, 6, none⟩ (.slice A3 n3 c3)) (((((((((w13.setCell ⟨w.heap.size + 1, 6, none⟩ (.slice A3 n3 c3)).setCell ⟨w.heap.size, 0, none⟩ (.bool false)).setCell ⟨w.heap.size, 1, none⟩ (.string (str n))).setCell ⟨w.heap.size, 2, none⟩ (.slice A1 n1 c1)).setCell ⟨w.heap.size, 3, none⟩ (.string (str on))).setCell ⟨w.heap.size, 4, none⟩ (.int .i64 ot)).setCell ⟨w.heap.size, 5, none⟩ (.slice none 0 0)).setCell ⟨w.heap.size, 6, none⟩ (.slice A3 n3 c3)).setCell ⟨w.heap.size, 7, none⟩ (.slice A4 n4 c4)) := stay_sets X13a.out rfl hsz (fun g hg => by simp only [set_ne hg])
 have z0 := (cell_at Z 0).trans (show _ = some (.bool false) from rfl)
 have z1 := (cell_at Z 1).trans (show _ = some (.string (str n)) from rfl)
 have z2 := (cell_at Z 2).trans (show _ = some (.slice A1 n1 c1) from rfl)
 have z3 := (cell_at Z 3).trans (show _ = some (.string (str on)) from rfl)
 have z4 := (cell_at Z 4).trans (show _ = some (.int .i64 ot) from rfl)
 have z5 := (cell_at Z 5).trans (show _ = some (.slice none 0 0) from rfl)
 have z6 := (cell_at Z 6).trans (show _ = some (.slice A3 n3 c3) from rfl)
 have z7 := (cell_at Z 7).trans (show _ = some (.slice A4 n4 c4) from rfl)
 clear p0 g0 p1 g1 p2 g2 p3 g3 p4 g4 p5 g5 p6 g6 p7 g7 q13_6 k13_6 q13_0 q13_1 q13_2 q13_3 q13_4 q13_5 q13_7
 exact bodyPost_ret (v := .agg #[.bool false, .string (str n), .slice A1 n1 c1, .string (str on), .int .i64 ot, .slice none 0 0, .slice A3 n3 c3, .slice A4 n4 c4]) (by simp [results, Tryz.results32, go_sem, z0, z1, z2, z3, z4, z5, z6, z7]) rfl (UntG.of HE.out (F1_13a.out.stay hst (by decide) (fun a x hx => PrmV.stay hst a x hx)) (RowR.nil _ _ _ _) (F3_13a.out.stay hst (by decide) (fun a x hx => EqnV.stay hst (by decide) a x hx)) (F4_13a.out.stay hst (by decide) (fun a x hx => ItmV.stay hst (by decide) (by decide) a x hx)) ((((((((HG13a.out.setLocal (by omega) hlt _).setLocal (by omega) hlt _).setLocal (by omega) hlt _).setLocal (by omega) hlt _).setLocal (by omega) hlt _).setLocal (by omega) hlt _).setLocal (by omega) hlt _).setLocal (by omega) hlt _))
end Go.Proofs.YtdebhngpgabglaaGreat.Rp
