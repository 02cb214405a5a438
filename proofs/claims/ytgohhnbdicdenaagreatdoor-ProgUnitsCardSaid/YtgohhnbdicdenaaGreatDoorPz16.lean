/- Contracts of layer prog's reader: a plain item. Conditions: a reader lies in memory. -/
import Derived.Test.YtgohhnbdicdenaaGreatDoorPz09
import Derived.Test.YtgohhnbdicdenaaGreatDoorPz15
import Derived.Deep.LoopGhost
import Derived.OwnWalk
import Derived.Maps.AppendAt
namespace Go.Proofs.YtgohhnbdicdenaaGreatDoor.Pg
open Go.ChangeShapes Go.WideShapes Go.ChangeAt Go.RowKit
open Go.Proofs.YtgohhnbdicdenaaGreatDoor.Ex
open Go.Proofs.YtgohhnbdicdenaaGreatDoor.Tr (str ret_bool ret_int Bytes Nd)
set_option linter.unusedVariables false
set_option linter.unusedSimpArgs false

set_option maxRecDepth 100000 in
set_option maxHeartbeats 8000000 in
theorem item_plain (b : Nat) (r : Rd) (w : World) (hr : GrAt w b r) (K : Int) (E : List Nd) (r1 r2 : Rd) (X : Itm × Rd) (hin : r.next < r.l.length) (hk : kindM (txt r) = K) (hd3 : (K == 3) = false) (hd4 : (K == 4) = false) (hd5 : (K == 5) = false) (h1 : exprP r.adv = (E, r1)) (h2 : (needP sSemi r1).2 = r2) (he : ((⟨K, [], 0, E, [], []⟩ : Itm), r2) = X) : Calls Tryz.prog 123 #[.pointer (some ⟨b, 0, none⟩)] w (ItmG w b X) := by
  have HR := Lib.hid hr
  have hlt := hr.lt
  have hmf : ∀ (fn : Fn) (first cap : Array Value) (w : World), (Instr.makeFunc fn first cap).run Tryz.prog w = .ok (.func fn first cap) w := fun _ _ _ _ => rfl
  have hnx := hr.ok.nx
  have HK := Lib.hid hk
  have HE := Lib.hid he
  have H2 := Lib.hid h2
  have HC1 : Hid (∀ w', GrAt w' b r.adv → Calls Tryz.prog 126 #[.pointer (some ⟨b, 0, none⟩)] w' (ExpG w' b (E, r1))) := Lib.hid (fun w' h => by rw [← h1]; exact expression_any b r.adv w' h)
  have HN := Lib.hid hin
  clear h1 h2 he hk hin hr
  have hX0 := Lib.hid (heap_alloc_new w (.cells #[.int .i64 0, .string ⟨#[]⟩, .int .i64 0, .slice none 0 0, .slice none 0 0, .slice none 0 0] 72))
  go_enter Tryz.func123, Tryz.ntmps123
  go_wp2_with fail
  refine (text_any b r _ (HR.out.below (below_new w _))).mono ?_
  rintro e w1 ⟨rfl, hb1⟩
  have HB1 := Lib.hid ((below_new w (.cells #[.int .i64 0, .string ⟨#[]⟩, .int .i64 0, .slice none 0 0, .slice none 0 0, .slice none 0 0] 72)).trans (hb1.mono (by simp)))
  have x1 := (hb1.block _ (lt_of_block hX0.out)).trans hX0.out
  have hs1 := hb1.size
  simp at hs1
  have X1 := Lib.hid x1
  clear hb1 x1
  have hR1 := Lib.hid (HR.out.below HB1.out)
  have cb1 : w1.cell? ⟨b, 1, none⟩ = some (.int .i64 (r.next : Int)) := by obtain ⟨lv, z, _⟩ := hR1.out.blk; exact gr_cell z 1
  have fb1 : w1.frozen? ⟨b, 1, none⟩ = false := by obtain ⟨lv, z, _⟩ := hR1.out.blk; exact gr_free z 1
  have hbn : b ≠ w1.heap.size := by omega
  have hbz : b < w1.heap.size := by omega
  have hbn0 : b ≠ w.heap.size := by omega
  go_wp2_with fail
  refine (kindOf_any (txt r) _).mono ?_
  rintro e w1b ⟨rfl, rfl⟩
  rw [HK.out]
  have HG1a : Hid (GrTo w ((w1.setCell ⟨b, 1, none⟩ (.int .i64 ((r.next : Int) + 1))).alloc (.cells #[.int .i64 K, .string ⟨#[]⟩, .int .i64 0, .slice none 0 0, .slice none 0 0, .slice none 0 0] 72)) b r.adv) := Lib.hid ((GrTo.below HB1.out hlt (hR1.out.advTo HN.out)).then_below (below_new _ _))
  have X1a : Hid (((w1.setCell ⟨b, 1, none⟩ (.int .i64 ((r.next : Int) + 1))).alloc (.cells #[.int .i64 K, .string ⟨#[]⟩, .int .i64 0, .slice none 0 0, .slice none 0 0, .slice none 0 0] 72)).heap[w.heap.size]? = some (.cells #[.int .i64 0, .string ⟨#[]⟩, .int .i64 0, .slice none 0 0, .slice none 0 0, .slice none 0 0] 72 (0, 0))) := Lib.hid (((below_new _ _).block _ (by simp [World.setCell]; omega)).trans (set_other X1.out hbn0.symm))
  have Y1a : Hid (((w1.setCell ⟨b, 1, none⟩ (.int .i64 ((r.next : Int) + 1))).alloc (.cells #[.int .i64 K, .string ⟨#[]⟩, .int .i64 0, .slice none 0 0, .slice none 0 0, .slice none 0 0] 72)).heap[w1.heap.size]? = some (.cells #[.int .i64 K, .string ⟨#[]⟩, .int .i64 0, .slice none 0 0, .slice none 0 0, .slice none 0 0] 72 (0, 0))) := Lib.hid (new_blk (by simp [World.setCell]))
  have hne : w.heap.size ≠ w1.heap.size := by omega
  go_wp2_with fail
  refine (HC1.out _ HG1a.out.rd).mono ?_
  rintro e w2 ⟨ev, rfl, hp2, hg2⟩
  have HG2 := Lib.hid (HG1a.out.trans hg2)
  have x2 := hg2.block X1a.out (by omega)
  have y2 := hg2.block Y1a.out (by omega)
  have X2 := Lib.hid x2
  have Y2 := Lib.hid y2
  have lx2 := lt_of_block x2
  have ly2 := lt_of_block y2
  obtain ⟨A1, n1, c1, rfl, u1, u2⟩ := pt_form hp2
  have F1_2 := Lib.hid hp2
  clear hg2 x2 y2 hp2
  clear cb1 fb1
  have q2_3 : w2.cell? ⟨w1.heap.size, 3, none⟩ = some (.slice none 0 0) := (cell_at Y2.out 3).trans rfl
  have k2_3 : w2.frozen? ⟨w1.heap.size, 3, none⟩ = false := free_at Y2.out 3
  have Y2a : Hid ((w2.setCell ⟨w1.heap.size, 3, none⟩ (.slice A1 n1 c1)).heap[w1.heap.size]? = some (.cells #[.int .i64 K, .string ⟨#[]⟩, .int .i64 0, .slice A1 n1 c1, .slice none 0 0, .slice none 0 0] 72 (0, 0))) := Lib.hid (by have z := setObj_heap (v := .slice A1 n1 c1) Y2.out (k := 3) (by simp); simpa using z)
  have X2a := Lib.hid (set_other (k := 3) (v := .slice A1 n1 c1) X2.out hne)
  have HG2a := Lib.hid (HG2.out.setLocal (k := 3) (B := w1.heap.size) (by omega) hlt (.slice A1 n1 c1))
  have F1_2a := Lib.hid ((Stay.set (P := fun t => t = 72) (k := 3) Y2.out rfl (.slice A1 n1 c1)).pt (by decide) F1_2.out)
  go_wp2_with fail
  refine (need_lit (s := sSemi) rfl HG2a.out.rd (by decide) H2.out).mono ?_
  rintro e w3 ⟨rfl, hg3⟩
  have HG3 := Lib.hid (HG2a.out.trans hg3)
  have x3 := hg3.block X2a.out (by omega)
  have y3 := hg3.block Y2a.out (by omega)
  have X3 := Lib.hid x3
  have Y3 := Lib.hid y3
  have lx3 := lt_of_block x3
  have ly3 := lt_of_block y3
  have F1_3 := Lib.hid (((GrTo.stay HG2a.out.rd hg3)).pt (by decide) F1_2a.out)
  clear hg3 x3 y3 
  clear q2_3 k2_3
  have p0 : w3.cell? ⟨w.heap.size, 0, none⟩ = some (.int .i64 0) := (cell_at X3.out 0).trans rfl
  have g0 : w3.frozen? ⟨w.heap.size, 0, none⟩ = false := free_at X3.out 0
  have q0 : w3.cell? ⟨w1.heap.size, 0, none⟩ = some (.int .i64 K) := (cell_at Y3.out 0).trans rfl
  have p1 : w3.cell? ⟨w.heap.size, 1, none⟩ = some (.string ⟨#[]⟩) := (cell_at X3.out 1).trans rfl
  have g1 : w3.frozen? ⟨w.heap.size, 1, none⟩ = false := free_at X3.out 1
  have q1 : w3.cell? ⟨w1.heap.size, 1, none⟩ = some (.string ⟨#[]⟩) := (cell_at Y3.out 1).trans rfl
  have p2 : w3.cell? ⟨w.heap.size, 2, none⟩ = some (.int .i64 0) := (cell_at X3.out 2).trans rfl
  have g2 : w3.frozen? ⟨w.heap.size, 2, none⟩ = false := free_at X3.out 2
  have q2 : w3.cell? ⟨w1.heap.size, 2, none⟩ = some (.int .i64 0) := (cell_at Y3.out 2).trans rfl
  have p3 : w3.cell? ⟨w.heap.size, 3, none⟩ = some (.slice none 0 0) := (cell_at X3.out 3).trans rfl
  have g3 : w3.frozen? ⟨w.heap.size, 3, none⟩ = false := free_at X3.out 3
  have q3 : w3.cell? ⟨w1.heap.size, 3, none⟩ = some (.slice A1 n1 c1) := (cell_at Y3.out 3).trans rfl
  have p4 : w3.cell? ⟨w.heap.size, 4, none⟩ = some (.slice none 0 0) := (cell_at X3.out 4).trans rfl
  have g4 : w3.frozen? ⟨w.heap.size, 4, none⟩ = false := free_at X3.out 4
  have q4 : w3.cell? ⟨w1.heap.size, 4, none⟩ = some (.slice none 0 0) := (cell_at Y3.out 4).trans rfl
  have p5 : w3.cell? ⟨w.heap.size, 5, none⟩ = some (.slice none 0 0) := (cell_at X3.out 5).trans rfl
  have g5 : w3.frozen? ⟨w.heap.size, 5, none⟩ = false := free_at X3.out 5
  have q5 : w3.cell? ⟨w1.heap.size, 5, none⟩ = some (.slice none 0 0) := (cell_at Y3.out 5).trans rfl
  go_wp2
  have Z := blk6 X3.out (.int .i64 K) (.string ⟨#[]⟩) (.int .i64 0) (.slice A1 n1 c1) (.slice none 0 0) (.slice none 0 0)
  have hsz : w3.heap.size ≤ ((((((w3.setCell ⟨w.heap.size, 0, none⟩ (.int .i64 K)).setCell ⟨w.heap.size, 1, none⟩ (.string ⟨#[]⟩)).setCell ⟨w.heap.size, 2, none⟩ (.int .i64 0)).setCell ⟨w.heap.size, 3, none⟩ (.slice A1 n1 c1)).setCell ⟨w.heap.size, 4, none⟩ (.slice none 0 0)).setCell ⟨w.heap.size, 5, none⟩ (.slice none 0 0)).heap.size := by simp [World.setCell]
  have hst : Stay (fun t => t = 72) w3 ((((((w3.setCell ⟨w.heap.size, 0, none⟩ (.int .i64 K)).setCell ⟨w.heap.size, 1, none⟩ (.string ⟨#[]⟩)).setCell ⟨w.heap.size, 2, none⟩ (.int .i64 0)).setCell ⟨w.heap.size, 3, none⟩ (.slice A1 n1 c1)).setCell ⟨w.heap.size, 4, none⟩ (.slice none 0 0)).setCell ⟨w.heap.size, 5, none⟩ (.slice none 0 0)) := Stay.sets X3.out rfl hsz (fun g hg => by simp only [set_ne hg])
  have z0 := (cell_at Z 0).trans (show _ = some (.int .i64 K) from rfl)
  have z1 := (cell_at Z 1).trans (show _ = some (.string ⟨#[]⟩) from rfl)
  have z2 := (cell_at Z 2).trans (show _ = some (.int .i64 0) from rfl)
  have z3 := (cell_at Z 3).trans (show _ = some (.slice A1 n1 c1) from rfl)
  have z4 := (cell_at Z 4).trans (show _ = some (.slice none 0 0) from rfl)
  have z5 := (cell_at Z 5).trans (show _ = some (.slice none 0 0) from rfl)
  clear p0 g0 q0 p1 g1 q1 p2 g2 q2 p3 g3 q3 p4 g4 q4 p5 g5 q5
  exact bodyPost_ret (v := .agg #[.int .i64 K, .string ⟨#[]⟩, .int .i64 0, .slice A1 n1 c1, .slice none 0 0, .slice none 0 0]) (by simp [results, Tryz.results123, go_sem, z0, z1, z2, z3, z4, z5]) rfl (ItmG.of HE.out (hst.pt (by decide) F1_3.out) (PtW.nil _ _ rfl) (RowR.nil _ _ _ _) ((((((HG3.out.setLocal (by omega) hlt _).setLocal (by omega) hlt _).setLocal (by omega) hlt _).setLocal (by omega) hlt _).setLocal (by omega) hlt _).setLocal (by omega) hlt _))
end Go.Proofs.YtgohhnbdicdenaaGreatDoor.Pg

/- Contracts of layer prog's reader: a mode. Conditions: a reader lies in memory. -/
namespace Go.Proofs.YtgohhnbdicdenaaGreatDoor.Pg
open Go.ChangeShapes Go.WideShapes Go.ChangeAt Go.RowKit
open Go.Proofs.YtgohhnbdicdenaaGreatDoor.Ex
open Go.Proofs.YtgohhnbdicdenaaGreatDoor.Tr (str ret_bool ret_int Bytes Nd)
set_option linter.unusedVariables false
set_option linter.unusedSimpArgs false

set_option maxRecDepth 100000 in
set_option maxHeartbeats 8000000 in
theorem item_mode (b : Nat) (r : Rd) (w : World) (hr : GrAt w b r) (n : Bytes) (E F : List Nd) (r1 r2 r3 r4 r5 r6 : Rd) (X : Itm × Rd) (hin : r.next < r.l.length) (hk : kindM (txt r) = 4) (h1 : nameP r.adv = (n, r1)) (h2 : (needP wRequire r1).2 = r2) (h3 : exprP r2 = (E, r3)) (h4 : (needP wEnsure r3).2 = r4) (h5 : exprP r4 = (F, r5)) (h6 : (needP sSemi r5).2 = r6) (he : ((⟨4, n, 0, E, F, []⟩ : Itm), r6) = X) : Calls Tryz.prog 123 #[.pointer (some ⟨b, 0, none⟩)] w (ItmG w b X) := by
  have HR := Lib.hid hr
  have hlt := hr.lt
  have hmf : ∀ (fn : Fn) (first cap : Array Value) (w : World), (Instr.makeFunc fn first cap).run Tryz.prog w = .ok (.func fn first cap) w := fun _ _ _ _ => rfl
  have hnx := hr.ok.nx
  have HK := Lib.hid hk
  have HE := Lib.hid he
  have H1 := Lib.hid h1
  have H2 := Lib.hid h2
  have H4 := Lib.hid h4
  have H6 := Lib.hid h6
  have HC3 : Hid (∀ w', GrAt w' b r2 → Calls Tryz.prog 126 #[.pointer (some ⟨b, 0, none⟩)] w' (ExpG w' b (E, r3))) := Lib.hid (fun w' h => by rw [← h3]; exact expression_any b r2 w' h)
  have HC5 : Hid (∀ w', GrAt w' b r4 → Calls Tryz.prog 126 #[.pointer (some ⟨b, 0, none⟩)] w' (ExpG w' b (F, r5))) := Lib.hid (fun w' h => by rw [← h5]; exact expression_any b r4 w' h)
  have HN := Lib.hid hin
  clear h1 h2 h3 h4 h5 h6 he hk hin hr
  have hX0 := Lib.hid (heap_alloc_new w (.cells #[.int .i64 0, .string ⟨#[]⟩, .int .i64 0, .slice none 0 0, .slice none 0 0, .slice none 0 0] 72))
  go_enter Tryz.func123, Tryz.ntmps123
  go_wp2_with fail
  refine (text_any b r _ (HR.out.below (below_new w _))).mono ?_
  rintro e w1 ⟨rfl, hb1⟩
  have HB1 := Lib.hid ((below_new w (.cells #[.int .i64 0, .string ⟨#[]⟩, .int .i64 0, .slice none 0 0, .slice none 0 0, .slice none 0 0] 72)).trans (hb1.mono (by simp)))
  have x1 := (hb1.block _ (lt_of_block hX0.out)).trans hX0.out
  have hs1 := hb1.size
  simp at hs1
  have X1 := Lib.hid x1
  clear hb1 x1
  have hR1 := Lib.hid (HR.out.below HB1.out)
  have cb1 : w1.cell? ⟨b, 1, none⟩ = some (.int .i64 (r.next : Int)) := by obtain ⟨lv, z, _⟩ := hR1.out.blk; exact gr_cell z 1
  have fb1 : w1.frozen? ⟨b, 1, none⟩ = false := by obtain ⟨lv, z, _⟩ := hR1.out.blk; exact gr_free z 1
  have hbn : b ≠ w1.heap.size := by omega
  have hbz : b < w1.heap.size := by omega
  have hbn0 : b ≠ w.heap.size := by omega
  go_wp2_with fail
  refine (kindOf_any (txt r) _).mono ?_
  rintro e w1b ⟨rfl, rfl⟩
  rw [HK.out]
  have HG1a : Hid (GrTo w ((w1.setCell ⟨b, 1, none⟩ (.int .i64 ((r.next : Int) + 1))).alloc (.cells #[.int .i64 4, .string ⟨#[]⟩, .int .i64 0, .slice none 0 0, .slice none 0 0, .slice none 0 0] 72)) b r.adv) := Lib.hid ((GrTo.below HB1.out hlt (hR1.out.advTo HN.out)).then_below (below_new _ _))
  have X1a : Hid (((w1.setCell ⟨b, 1, none⟩ (.int .i64 ((r.next : Int) + 1))).alloc (.cells #[.int .i64 4, .string ⟨#[]⟩, .int .i64 0, .slice none 0 0, .slice none 0 0, .slice none 0 0] 72)).heap[w.heap.size]? = some (.cells #[.int .i64 0, .string ⟨#[]⟩, .int .i64 0, .slice none 0 0, .slice none 0 0, .slice none 0 0] 72 (0, 0))) := Lib.hid (((below_new _ _).block _ (by simp [World.setCell]; omega)).trans (set_other X1.out hbn0.symm))
  have Y1a : Hid (((w1.setCell ⟨b, 1, none⟩ (.int .i64 ((r.next : Int) + 1))).alloc (.cells #[.int .i64 4, .string ⟨#[]⟩, .int .i64 0, .slice none 0 0, .slice none 0 0, .slice none 0 0] 72)).heap[w1.heap.size]? = some (.cells #[.int .i64 4, .string ⟨#[]⟩, .int .i64 0, .slice none 0 0, .slice none 0 0, .slice none 0 0] 72 (0, 0))) := Lib.hid (new_blk (by simp [World.setCell]))
  have hne : w.heap.size ≠ w1.heap.size := by omega
  go_wp2_with fail
  refine (name_lit HG1a.out.rd H1.out).mono ?_
  rintro e w2 ⟨rfl, hg2⟩
  have HG2 := Lib.hid (HG1a.out.trans hg2)
  have x2 := hg2.block X1a.out (by omega)
  have y2 := hg2.block Y1a.out (by omega)
  have X2 := Lib.hid x2
  have Y2 := Lib.hid y2
  have lx2 := lt_of_block x2
  have ly2 := lt_of_block y2
  clear hg2 x2 y2 
  clear cb1 fb1
  have q2_1 : w2.cell? ⟨w1.heap.size, 1, none⟩ = some (.string ⟨#[]⟩) := (cell_at Y2.out 1).trans rfl
  have k2_1 : w2.frozen? ⟨w1.heap.size, 1, none⟩ = false := free_at Y2.out 1
  have Y2a : Hid ((w2.setCell ⟨w1.heap.size, 1, none⟩ (.string (str n))).heap[w1.heap.size]? = some (.cells #[.int .i64 4, .string (str n), .int .i64 0, .slice none 0 0, .slice none 0 0, .slice none 0 0] 72 (0, 0))) := Lib.hid (by have z := setObj_heap (v := .string (str n)) Y2.out (k := 1) (by simp); simpa using z)
  have X2a := Lib.hid (set_other (k := 1) (v := .string (str n)) X2.out hne)
  have HG2a := Lib.hid (HG2.out.setLocal (k := 1) (B := w1.heap.size) (by omega) hlt (.string (str n)))
  go_wp2_with fail
  refine (need_lit (s := wRequire) rfl HG2a.out.rd (by decide) H2.out).mono ?_
  rintro e w3 ⟨rfl, hg3⟩
  have HG3 := Lib.hid (HG2a.out.trans hg3)
  have x3 := hg3.block X2a.out (by omega)
  have y3 := hg3.block Y2a.out (by omega)
  have X3 := Lib.hid x3
  have Y3 := Lib.hid y3
  have lx3 := lt_of_block x3
  have ly3 := lt_of_block y3
  clear hg3 x3 y3 
  clear q2_1 k2_1
  go_wp2_with fail
  refine (HC3.out _ HG3.out.rd).mono ?_
  rintro e w4 ⟨ev, rfl, hp4, hg4⟩
  have HG4 := Lib.hid (HG3.out.trans hg4)
  have x4 := hg4.block X3.out (by omega)
  have y4 := hg4.block Y3.out (by omega)
  have X4 := Lib.hid x4
  have Y4 := Lib.hid y4
  have lx4 := lt_of_block x4
  have ly4 := lt_of_block y4
  obtain ⟨A1, n1, c1, rfl, u1, u2⟩ := pt_form hp4
  have F1_4 := Lib.hid hp4
  clear hg4 x4 y4 hp4
  have q4_3 : w4.cell? ⟨w1.heap.size, 3, none⟩ = some (.slice none 0 0) := (cell_at Y4.out 3).trans rfl
  have k4_3 : w4.frozen? ⟨w1.heap.size, 3, none⟩ = false := free_at Y4.out 3
  have Y4a : Hid ((w4.setCell ⟨w1.heap.size, 3, none⟩ (.slice A1 n1 c1)).heap[w1.heap.size]? = some (.cells #[.int .i64 4, .string (str n), .int .i64 0, .slice A1 n1 c1, .slice none 0 0, .slice none 0 0] 72 (0, 0))) := Lib.hid (by have z := setObj_heap (v := .slice A1 n1 c1) Y4.out (k := 3) (by simp); simpa using z)
  have X4a := Lib.hid (set_other (k := 3) (v := .slice A1 n1 c1) X4.out hne)
  have HG4a := Lib.hid (HG4.out.setLocal (k := 3) (B := w1.heap.size) (by omega) hlt (.slice A1 n1 c1))
  have F1_4a := Lib.hid ((Stay.set (P := fun t => t = 72) (k := 3) Y4.out rfl (.slice A1 n1 c1)).pt (by decide) F1_4.out)
  go_wp2_with fail
  refine (need_lit (s := wEnsure) rfl HG4a.out.rd (by decide) H4.out).mono ?_
  rintro e w5 ⟨rfl, hg5⟩
  have HG5 := Lib.hid (HG4a.out.trans hg5)
  have x5 := hg5.block X4a.out (by omega)
  have y5 := hg5.block Y4a.out (by omega)
  have X5 := Lib.hid x5
  have Y5 := Lib.hid y5
  have lx5 := lt_of_block x5
  have ly5 := lt_of_block y5
  have F1_5 := Lib.hid (((GrTo.stay HG4a.out.rd hg5)).pt (by decide) F1_4a.out)
  clear hg5 x5 y5 
  clear q4_3 k4_3
  go_wp2_with fail
  refine (HC5.out _ HG5.out.rd).mono ?_
  rintro e w6 ⟨fv, rfl, hp6, hg6⟩
  have HG6 := Lib.hid (HG5.out.trans hg6)
  have x6 := hg6.block X5.out (by omega)
  have y6 := hg6.block Y5.out (by omega)
  have X6 := Lib.hid x6
  have Y6 := Lib.hid y6
  have lx6 := lt_of_block x6
  have ly6 := lt_of_block y6
  have F1_6 := Lib.hid (((GrTo.stay HG5.out.rd hg6)).pt (by decide) F1_5.out)
  obtain ⟨A2, n2, c2, rfl, u3, u4⟩ := pt_form hp6
  have F2_6 := Lib.hid hp6
  clear hg6 x6 y6 hp6
  have q6_4 : w6.cell? ⟨w1.heap.size, 4, none⟩ = some (.slice none 0 0) := (cell_at Y6.out 4).trans rfl
  have k6_4 : w6.frozen? ⟨w1.heap.size, 4, none⟩ = false := free_at Y6.out 4
  have Y6a : Hid ((w6.setCell ⟨w1.heap.size, 4, none⟩ (.slice A2 n2 c2)).heap[w1.heap.size]? = some (.cells #[.int .i64 4, .string (str n), .int .i64 0, .slice A1 n1 c1, .slice A2 n2 c2, .slice none 0 0] 72 (0, 0))) := Lib.hid (by have z := setObj_heap (v := .slice A2 n2 c2) Y6.out (k := 4) (by simp); simpa using z)
  have X6a := Lib.hid (set_other (k := 4) (v := .slice A2 n2 c2) X6.out hne)
  have HG6a := Lib.hid (HG6.out.setLocal (k := 4) (B := w1.heap.size) (by omega) hlt (.slice A2 n2 c2))
  have F1_6a := Lib.hid ((Stay.set (P := fun t => t = 72) (k := 4) Y6.out rfl (.slice A2 n2 c2)).pt (by decide) F1_6.out)
  have F2_6a := Lib.hid ((Stay.set (P := fun t => t = 72) (k := 4) Y6.out rfl (.slice A2 n2 c2)).pt (by decide) F2_6.out)
  go_wp2_with fail
  refine (need_lit (s := sSemi) rfl HG6a.out.rd (by decide) H6.out).mono ?_
  rintro e w7 ⟨rfl, hg7⟩
  have HG7 := Lib.hid (HG6a.out.trans hg7)
  have x7 := hg7.block X6a.out (by omega)
  have y7 := hg7.block Y6a.out (by omega)
  have X7 := Lib.hid x7
  have Y7 := Lib.hid y7
  have lx7 := lt_of_block x7
  have ly7 := lt_of_block y7
  have F1_7 := Lib.hid (((GrTo.stay HG6a.out.rd hg7)).pt (by decide) F1_6a.out)
  have F2_7 := Lib.hid (((GrTo.stay HG6a.out.rd hg7)).pt (by decide) F2_6a.out)
  clear hg7 x7 y7 
  clear q6_4 k6_4
  have p0 : w7.cell? ⟨w.heap.size, 0, none⟩ = some (.int .i64 0) := (cell_at X7.out 0).trans rfl
  have g0 : w7.frozen? ⟨w.heap.size, 0, none⟩ = false := free_at X7.out 0
  have q0 : w7.cell? ⟨w1.heap.size, 0, none⟩ = some (.int .i64 4) := (cell_at Y7.out 0).trans rfl
  have p1 : w7.cell? ⟨w.heap.size, 1, none⟩ = some (.string ⟨#[]⟩) := (cell_at X7.out 1).trans rfl
  have g1 : w7.frozen? ⟨w.heap.size, 1, none⟩ = false := free_at X7.out 1
  have q1 : w7.cell? ⟨w1.heap.size, 1, none⟩ = some (.string (str n)) := (cell_at Y7.out 1).trans rfl
  have p2 : w7.cell? ⟨w.heap.size, 2, none⟩ = some (.int .i64 0) := (cell_at X7.out 2).trans rfl
  have g2 : w7.frozen? ⟨w.heap.size, 2, none⟩ = false := free_at X7.out 2
  have q2 : w7.cell? ⟨w1.heap.size, 2, none⟩ = some (.int .i64 0) := (cell_at Y7.out 2).trans rfl
  have p3 : w7.cell? ⟨w.heap.size, 3, none⟩ = some (.slice none 0 0) := (cell_at X7.out 3).trans rfl
  have g3 : w7.frozen? ⟨w.heap.size, 3, none⟩ = false := free_at X7.out 3
  have q3 : w7.cell? ⟨w1.heap.size, 3, none⟩ = some (.slice A1 n1 c1) := (cell_at Y7.out 3).trans rfl
  have p4 : w7.cell? ⟨w.heap.size, 4, none⟩ = some (.slice none 0 0) := (cell_at X7.out 4).trans rfl
  have g4 : w7.frozen? ⟨w.heap.size, 4, none⟩ = false := free_at X7.out 4
  have q4 : w7.cell? ⟨w1.heap.size, 4, none⟩ = some (.slice A2 n2 c2) := (cell_at Y7.out 4).trans rfl
  have p5 : w7.cell? ⟨w.heap.size, 5, none⟩ = some (.slice none 0 0) := (cell_at X7.out 5).trans rfl
  have g5 : w7.frozen? ⟨w.heap.size, 5, none⟩ = false := free_at X7.out 5
  have q5 : w7.cell? ⟨w1.heap.size, 5, none⟩ = some (.slice none 0 0) := (cell_at Y7.out 5).trans rfl
  go_wp2
  have Z := blk6 X7.out (.int .i64 4) (.string (str n)) (.int .i64 0) (.slice A1 n1 c1) (.slice A2 n2 c2) (.slice none 0 0)
  have hsz : w7.heap.size ≤ ((((((w7.setCell ⟨w.heap.size, 0, none⟩ (.int .i64 4)).setCell ⟨w.heap.size, 1, none⟩ (.string (str n))).setCell ⟨w.heap.size, 2, none⟩ (.int .i64 0)).setCell ⟨w.heap.size, 3, none⟩ (.slice A1 n1 c1)).setCell ⟨w.heap.size, 4, none⟩ (.slice A2 n2 c2)).setCell ⟨w.heap.size, 5, none⟩ (.slice none 0 0)).heap.size := by simp [World.setCell]
  have hst : Stay (fun t => t = 72) w7 ((((((w7.setCell ⟨w.heap.size, 0, none⟩ (.int .i64 4)).setCell ⟨w.heap.size, 1, none⟩ (.string (str n))).setCell ⟨w.heap.size, 2, none⟩ (.int .i64 0)).setCell ⟨w.heap.size, 3, none⟩ (.slice A1 n1 c1)).setCell ⟨w.heap.size, 4, none⟩ (.slice A2 n2 c2)).setCell ⟨w.heap.size, 5, none⟩ (.slice none 0 0)) := Stay.sets X7.out rfl hsz (fun g hg => by simp only [set_ne hg])
  have z0 := (cell_at Z 0).trans (show _ = some (.int .i64 4) from rfl)
  have z1 := (cell_at Z 1).trans (show _ = some (.string (str n)) from rfl)
  have z2 := (cell_at Z 2).trans (show _ = some (.int .i64 0) from rfl)
  have z3 := (cell_at Z 3).trans (show _ = some (.slice A1 n1 c1) from rfl)
  have z4 := (cell_at Z 4).trans (show _ = some (.slice A2 n2 c2) from rfl)
  have z5 := (cell_at Z 5).trans (show _ = some (.slice none 0 0) from rfl)
  clear p0 g0 q0 p1 g1 q1 p2 g2 q2 p3 g3 q3 p4 g4 q4 p5 g5 q5
  exact bodyPost_ret (v := .agg #[.int .i64 4, .string (str n), .int .i64 0, .slice A1 n1 c1, .slice A2 n2 c2, .slice none 0 0]) (by simp [results, Tryz.results123, go_sem, z0, z1, z2, z3, z4, z5]) rfl (ItmG.of HE.out (hst.pt (by decide) F1_7.out) (hst.pt (by decide) F2_7.out) (RowR.nil _ _ _ _) ((((((HG7.out.setLocal (by omega) hlt _).setLocal (by omega) hlt _).setLocal (by omega) hlt _).setLocal (by omega) hlt _).setLocal (by omega) hlt _).setLocal (by omega) hlt _))
end Go.Proofs.YtgohhnbdicdenaaGreatDoor.Pg

/- Contracts of layer prog's reader: streams and equations. Conditions: a reader lies in memory. -/
namespace Go.Proofs.YtgohhnbdicdenaaGreatDoor.Pg
open Go.ChangeShapes Go.WideShapes Go.ChangeAt Go.RowKit
open Go.Proofs.YtgohhnbdicdenaaGreatDoor.Ex
open Go.Proofs.YtgohhnbdicdenaaGreatDoor.Tr (str ret_bool ret_int Bytes Nd)
set_option linter.unusedVariables false
set_option linter.unusedSimpArgs false

theorem EqnG.of {w w' : World} {b : Nat} {n : Bytes} {ev : Value} {e : List Nd} {r : Rd} {X : Eqn × Rd} (hX : (⟨n, e⟩, r) = X) (h : PtW w' (ev, ⟨e, 0, 0⟩)) (g : GrTo w w' b r) : EqnG w b X (.returned (.agg #[.string (str n), ev])) w' := by
  subst hX; exact ⟨ev, rfl, h, g⟩
set_option maxRecDepth 100000 in
set_option maxHeartbeats 4000000 in
theorem equation_any (b : Nat) (r : Rd) (w : World) (hr : GrAt w b r) : Calls Tryz.prog 113 #[.pointer (some ⟨b, 0, none⟩)] w (EqnG w b (eqnP r)) := by
  have HR := Lib.hid hr
  have hlt := hr.lt
  obtain ⟨⟨n, r1⟩, h1⟩ : ∃ x, nameP r = x := ⟨_, rfl⟩
  obtain ⟨r2, h2⟩ : ∃ x, (needP sEq r1).2 = x := ⟨_, rfl⟩
  obtain ⟨⟨E, r3⟩, h3⟩ : ∃ x, exprP r2 = x := ⟨_, rfl⟩
  obtain ⟨r4, h4⟩ : ∃ x, (needP sSemi r3).2 = x := ⟨_, rfl⟩
  obtain ⟨X, hX⟩ : ∃ X, eqnP r = X := ⟨_, rfl⟩
  have HE : Hid (((⟨n, E⟩ : Eqn), r4) = X) := Lib.hid (by rw [← hX]; unfold eqnP; unfold pBind; rw [h1]; simp only; rw [h2, h3]; simp only; rw [h4]; rfl)
  have HC : Hid (∀ w', GrAt w' b r2 → Calls Tryz.prog 126 #[.pointer (some ⟨b, 0, none⟩)] w' (ExpG w' b (E, r3))) := Lib.hid (fun w' h => by rw [← h3]; exact expression_any b r2 w' h)
  have H1 := Lib.hid h1
  have H2 := Lib.hid h2
  have H4 := Lib.hid h4
  rw [hX]
  clear h1 h2 h3 h4 hX hr
  have hX0 := Lib.hid (heap_alloc_new w (.cells #[.string ⟨#[]⟩, .slice none 0 0] 78))
  go_enter Tryz.func113, Tryz.ntmps113
  go_wp2_with fail
  refine (name_lit (HR.out.below (below_new w _)) H1.out).mono ?_
  rintro e w1 ⟨rfl, hg1⟩
  have HG1 := Lib.hid (GrTo.below (below_new w _) hlt hg1)
  have x1 := hg1.block hX0.out (by omega)
  have hs1 := hg1.grown.size
  simp at hs1
  have X1 := Lib.hid x1
  clear hg1 x1
  go_wp2_with fail
  refine (need_lit (s := sEq) rfl (HG1.out.rd.below (below_new w1 _)) (by decide) H2.out).mono ?_
  rintro e w2 ⟨rfl, hg2⟩
  have HG2 := Lib.hid ((HG1.out.then_below (below_new w1 _)).trans hg2)
  have x2 := hg2.block (((below_new w1 _).block _ (lt_of_block X1.out)).trans X1.out) (by omega)
  have y2 := hg2.block (heap_alloc_new w1 _) (by omega)
  have X2 := Lib.hid x2
  have Y2 := Lib.hid y2
  clear hg2 x2 y2
  go_wp2_with fail
  refine (HC.out _ HG2.out.rd).mono ?_
  rintro e w3 ⟨ev, rfl, hp3, hg3⟩
  have HG3 := Lib.hid (HG2.out.trans hg3)
  have x3 := hg3.block X2.out (by omega)
  have y3 := hg3.block Y2.out (by omega)
  have X3 := Lib.hid x3
  have Y3 := Lib.hid y3
  have lx3 := lt_of_block x3
  have ly3 := lt_of_block y3
  obtain ⟨A2, n2, c2, rfl, u1, u2⟩ := pt_form hp3
  have HP3 := Lib.hid hp3
  have q1 : w3.cell? ⟨w1.heap.size, 1, none⟩ = some (.slice none 0 0) := (cell_at y3 1).trans rfl
  have k1 : w3.frozen? ⟨w1.heap.size, 1, none⟩ = false := free_at y3 1
  have hne : w.heap.size ≠ w1.heap.size := by omega
  clear hg3 x3 y3 hp3
  have Y4a := Lib.hid (setObj_heap (v := .slice A2 n2 c2) Y3.out (k := 1) (by simp))
  have X4a := Lib.hid (set_other (k := 1) (v := .slice A2 n2 c2) X3.out hne)
  have HG3a := Lib.hid (HG3.out.setLocal (k := 1) (B := w1.heap.size) (by omega) hlt (.slice A2 n2 c2))
  have HP3a := Lib.hid (HP3.out.set Y3.out (by decide) (k := 1) (.slice A2 n2 c2))
  go_wp2_with fail
  refine (need_lit (s := sSemi) rfl HG3a.out.rd (by decide) H4.out).mono ?_
  rintro e w4 ⟨rfl, hg4⟩
  have HG4 := Lib.hid (HG3a.out.trans hg4)
  have x4 := hg4.block X4a.out (by omega)
  have y4 := hg4.block Y4a.out (by omega)
  have X4 := Lib.hid x4
  have HP4 := Lib.hid ((GrTo.stay HG3a.out.rd hg4).pt (by decide) HP3a.out)
  have p0 : w4.cell? ⟨w.heap.size, 0, none⟩ = some (.string ⟨#[]⟩) := (cell_at x4 0).trans rfl
  have p1 : w4.cell? ⟨w.heap.size, 1, none⟩ = some (.slice none 0 0) := (cell_at x4 1).trans rfl
  have q0 : w4.cell? ⟨w1.heap.size, 0, none⟩ = some (.string (str n)) := (cell_at y4 0).trans rfl
  have q1 : w4.cell? ⟨w1.heap.size, 1, none⟩ = some (.slice A2 n2 c2) := (cell_at y4 1).trans rfl
  have g0 : w4.frozen? ⟨w.heap.size, 0, none⟩ = false := free_at x4 0
  have g1 : w4.frozen? ⟨w.heap.size, 1, none⟩ = false := free_at x4 1
  clear hg4 x4 y4
  go_wp2
  have Z := blk2 X4.out (.string (str n)) (.slice A2 n2 c2)
  have z0 := (cell_at Z 0).trans (show _ = some (.string (str n)) from rfl)
  have z1 := (cell_at Z 1).trans (show _ = some (.slice A2 n2 c2) from rfl)
  clear p0 p1 q0 q1 g0 g1
  exact bodyPost_ret (v := .agg #[.string (str n), .slice A2 n2 c2]) (by simp [results, Tryz.results113, go_sem, z0, z1]) rfl (EqnG.of HE.out ((HP4.out.set X4.out (by decide) _).set (setObj_heap X4.out (k := 0) (by simp)) (by decide) _) ((HG4.out.setLocal (by omega) hlt _).setLocal (by omega) hlt _))
end Go.Proofs.YtgohhnbdicdenaaGreatDoor.Pg

/- Contracts of layer prog's reader: expressions in round signs. Conditions: a reader lies in memory. -/
namespace Go.Proofs.YtgohhnbdicdenaaGreatDoor.Pg
open Go.ChangeShapes Go.WideShapes Go.ChangeAt Go.RowKit
open Go.Proofs.YtgohhnbdicdenaaGreatDoor.Ex
open Go.Proofs.YtgohhnbdicdenaaGreatDoor.Tr (str ret_bool ret_int Bytes Nd)
set_option linter.unusedVariables false
set_option linter.unusedSimpArgs false

theorem info23_136 : (Tryz.prog.info? 23).map (fun i => (i.zero, i.size, i.bytes)) = some (some (.slice none 0 0), 1, 24) := by kernel_rfl
set_option maxRecDepth 100000 in
set_option maxHeartbeats 4000000 in
theorem encE_any (b : Nat) (r : Rd) (w : World) (hr : GrAt w b r) :
    Calls Tryz.prog 136 #[.pointer (some ⟨b, 0, none⟩), .string (str sComma), .func (.func 126) #[.pointer (some ⟨b, 0, none⟩)] #[]] w (RowG 23 1 ExpV w b (encP sComma exprP r)) := by
  have HR := Lib.hid hr
  have hlt := hr.lt
  obtain ⟨i0, hi, hz0, hz1, hz2⟩ := info_parts info23_136
  obtain ⟨r1, h1⟩ : ∃ x, (needP [40] r).2 = x := ⟨_, rfl⟩
  obtain ⟨⟨B, r2⟩, h2⟩ : ∃ x, takeP [41] r1 = x := ⟨_, rfl⟩
  have HE0 : Hid (encP sComma exprP r = (if B then ([], r2) else pBind exprP (fun x => encF sComma exprP rowMax [x]) r2)) := Lib.hid (encP_eq h1 h2)
  have H1 := Lib.hid h1
  have H2 := Lib.hid h2
  rw [HE0.out]
  clear h1 h2 hr HE0
  have HSEP : Hid (∃ S, str sComma = S) := Lib.hid ⟨_, rfl⟩
  cases B with
  | true =>
    rw [if_pos rfl]
    go_enter Tryz.func136, Tryz.ntmps136
    go_wp2_with fail
    refine (need_lit (s := [40]) rfl HR.out (by decide) H1.out).mono ?_
    rintro e w1 ⟨rfl, hg1⟩
    have HG1 := Lib.hid hg1
    clear hg1
    go_wp2_with fail
    refine (take_lit (s := [41]) rfl HG1.out.rd (by decide) H2.out).mono ?_
    rintro e w2 ⟨rfl, hg2⟩
    have HG2 := Lib.hid (HG1.out.trans hg2)
    clear hg2
    go_wp2
    go_ret
    exact RowG.of rfl (RowR.nil _ _ _ _) HG2.out
  | false =>
    rw [if_neg (by decide)]
    obtain ⟨⟨a, r3⟩, h3⟩ : ∃ x, exprP r2 = x := ⟨_, rfl⟩
    have HO : Hid (∀ w', GrAt w' b r2 → Calls Tryz.prog 126 #[.pointer (some ⟨b, 0, none⟩)] w' (ExpG w' b (a, r3))) := Lib.hid (fun w' h => by rw [← h3]; exact expression_any b r2 w' h)
    obtain ⟨X, hX⟩ : ∃ X, pBind exprP (fun x => encF sComma exprP rowMax [x]) r2 = X := ⟨_, rfl⟩
    have HX : Hid (encF sComma exprP rowMax [a] r3 = X) := Lib.hid (by rw [← hX]; unfold pBind; rw [h3])
    rw [hX]
    clear hX h3
    go_enter Tryz.func136, Tryz.ntmps136
    go_wp2_with fail
    refine (need_lit (s := [40]) rfl HR.out (by decide) H1.out).mono ?_
    rintro e w1 ⟨rfl, hg1⟩
    have HG1 := Lib.hid hg1
    clear hg1
    go_wp2_with fail
    refine (take_lit (s := [41]) rfl HG1.out.rd (by decide) H2.out).mono ?_
    rintro e w5 ⟨rfl, hg2⟩
    have HG5 := Lib.hid (HG1.out.trans hg2)
    clear hg2
    go_wp2_with fail
    refine (HO.out w5 HG5.out.rd).mono ?_
    rintro e w2 ⟨ev, rfl, hp, hg2⟩
    have HG2 := Lib.hid (HG5.out.trans hg2)
    have hs2 := HG2.out.grown.size
    clear hg2
    obtain ⟨A2, n2, c2, rfl, y1, y2⟩ := pt_form hp
    have HXV : Hid (ExpV w2 a [.slice A2 n2 c2]) := Lib.hid ⟨_, rfl, hp⟩
    clear hp
    go_wp2
    have HOL0 : Hid (OList 23 1 ExpV (w2.alloc (.cells #[.slice A2 n2 c2] 23)) w.heap.size (.slice (some ⟨w2.heap.size, 0, none⟩) 1 1) [a] [[.slice A2 n2 c2]]) := Lib.hid (OList.one hs2 ⟨rfl, rfl⟩ HXV.out (fun st => ExpV.stay st (by decide)))
    have HGR0 := Lib.hid (HG2.out.then_below (below_new w2 (.cells #[.slice A2 n2 c2] 23)))
    clear HXV
    go_loopg [7] rowMax (fun g s7 wr => ∃ (rr : Rd) (ov : Value) (acc : List (List Nd)) (xs : List (List Value)), ov = s7 ∧ acc.length ≤ 200 ∧ 202 ≤ acc.length + g ∧ OList 23 1 ExpV wr w.heap.size ov acc xs ∧ GrTo w wr b rr ∧ encF sComma exprP g acc rr = X)
    case atStart => exact ⟨r3, _, [a], [[.slice A2 n2 c2]], rfl, by simp, by simp [rowMax], HOL0.out, HGR0.out, HX.out⟩
    case round =>
      clear HOL0 HGR0 HX
      obtain ⟨rr, ov, acc, xs, hov, ha, hag, hol, hgr, hrow⟩ := hrel
      subst hov
      have HOL := Lib.hid hol
      have HGR := Lib.hid hgr
      have HROW := Lib.hid hrow
      obtain ⟨A0, c0, hv0, hn1, hn2⟩ := own_form hol.own
      subst hv0
      clear hol hgr hrow
      cases gk with
      | zero => omega
      | succ gk =>
      obtain ⟨⟨B, r6⟩, hB⟩ : ∃ x, takeP sComma rr = x := ⟨_, rfl⟩
      have HB := Lib.hid hB
      clear hB
      cases B with
      | false =>
        obtain ⟨r7, h7⟩ : ∃ x, (needP [41] r6).2 = x := ⟨_, rfl⟩
        have H7 := Lib.hid h7
        have HE : Hid ((acc, r7) = X) := Lib.hid ((encF_stop HB.out h7).symm.trans HROW.out)
        clear h7
        go_wp2_with fail
        refine (take_lit (s := sComma) rfl HGR.out.rd (by decide) HB.out).mono ?_
        rintro e w6 ⟨rfl, hg6⟩
        have HG6 := Lib.hid hg6
        clear hg6
        go_wp2_with fail
        refine (need_lit (s := [41]) rfl HG6.out.rd (by decide) H7.out).mono ?_
        rintro e w7 ⟨rfl, hg7⟩
        have HG7 := Lib.hid hg7
        have HOL7 := Lib.hid ((HOL.out.stay (GrTo.stay HGR.out.rd HG6.out) (by decide) (fun a x hx => ExpV.stay (GrTo.stay HGR.out.rd HG6.out) (by decide) a x hx)).stay (GrTo.stay HG6.out.rd HG7.out) (by decide) (fun a x hx => ExpV.stay (GrTo.stay HG6.out.rd HG7.out) (by decide) a x hx))
        clear hg7
        go_wp2
        go_ret
        exact RowG.of HE.out HOL7.out.row ((HGR.out.trans HG6.out).trans HG7.out)
      | true =>
      by_cases h200 : acc.length = 200
      · have HE : Hid (([], r6.fail 7) = X) := Lib.hid ((encF_many HB.out h200).symm.trans HROW.out)
        have hd : ((acc.length : Int) == 200) = true := by rw [beq_iff_eq]; omega
        clear h200
        go_wp2_with fail
        refine (take_lit (s := sComma) rfl HGR.out.rd (by decide) HB.out).mono ?_
        rintro e w6 ⟨rfl, hg6⟩
        have HG6 := Lib.hid hg6
        clear hg6
        go_wp2_with fail
        refine (fail_any b r6 7 _ HG6.out.rd).mono ?_
        rintro e w7 ⟨rfl, hg7⟩
        have HG7 := Lib.hid hg7
        clear hg7
        go_wp2
        go_ret
        exact RowG.of HE.out (RowR.nil _ _ _ _) ((HGR.out.trans HG6.out).trans HG7.out)
      have hd : ((acc.length : Int) == 200) = false := by rw [beq_eq_false_iff_ne]; omega
      obtain ⟨⟨a, r8⟩, hone⟩ : ∃ x, exprP r6 = x := ⟨_, rfl⟩
      have HE : Hid (encF sComma exprP gk (acc ++ [a]) r8 = X) := Lib.hid ((encF_step HB.out h200 hone).symm.trans HROW.out)
      have HO2 : Hid (∀ w', GrAt w' b r6 → Calls Tryz.prog 126 #[.pointer (some ⟨b, 0, none⟩)] w' (ExpG w' b (a, r8))) := Lib.hid (fun w' h => by rw [← hone]; exact expression_any b r6 w' h)
      have ha2 : acc.length < 200 := by omega
      clear h200 hone
      go_wp2_with fail
      refine (take_lit (s := sComma) rfl HGR.out.rd (by decide) HB.out).mono ?_
      rintro e w6 ⟨rfl, hg6⟩
      have HG6 := Lib.hid hg6
      clear hg6
      go_wp2_with fail
      refine (HO2.out w6 HG6.out.rd).mono ?_
      rintro e w2 ⟨ev, rfl, hp, hg2⟩
      have HG2 := Lib.hid hg2
      have hs3 := hg2.grown.size
      have hs6 := HG6.out.grown.size
      have hs0 := HGR.out.grown.size
      have HOL2 := Lib.hid ((HOL.out.stay (GrTo.stay HGR.out.rd HG6.out) (by decide) (fun a x hx => ExpV.stay (GrTo.stay HGR.out.rd HG6.out) (by decide) a x hx)).stay (GrTo.stay HG6.out.rd HG2.out) (by decide) (fun a x hx => ExpV.stay (GrTo.stay HG6.out.rd HG2.out) (by decide) a x hx))
      clear hg2
      obtain ⟨A2, n2, c2, rfl, y1, y2⟩ := pt_form hp
      have HXV : Hid (ExpV w2 a [.slice A2 n2 c2]) := Lib.hid ⟨_, rfl, hp⟩
      clear hp
      go_wp2_with (at_builtin; refine wpList_append_own _ rfl (.tmp 23) (.tmp 26) 70 rfl w.heap.size 23 i0 _ 1 24 Tryz.underlying70 hi hz0 hz1 hz2 rfl (by decide) _ acc.length xs.flatten rfl (HOL2.out.own.alloc _) ⟨w2.heap.size, 0, none⟩ 1 1 [.slice A2 n2 c2] rfl rfl ?a1 ?b1 ?c1 ?d1 ?e1 ?_)
      case a1 => first | exact (fun j u h => h) | exact news_new _ #[.slice A2 n2 c2] _ [.slice A2 n2 c2] rfl rfl
      case b1 => simp [Value.oneCell']
      case c1 => unfold maxLen; omega
      case d1 => omega
      case e1 => simp; omega
      intro v3 w3 hown3 hg3 _
      have HOL3 := Lib.hid (HOL2.out.snoc HXV.out rfl (below_new w2 _) hown3 hg3 (fun st => ExpV.stay st (by decide)))
      have HGR3 := Lib.hid (GrTo.row ((HGR.out.trans HG6.out).trans HG2.out) hlt (below_new w2 _) hg3 (fun g hg => (HOL2.out.own.lt g hg).1))
      obtain ⟨A3, c3, hv3, y3, y4⟩ := own_form hown3
      subst hv3
      clear hown3 hg3
      go_wp2
      go_roundg gk
      case measure => omega
      case rel => exact ⟨r8, _, acc ++ [a], xs ++ [[.slice A2 n2 c2]], rfl, by simp; omega, by simp; omega, HOL3.out, HGR3.out, HE.out⟩
end Go.Proofs.YtgohhnbdicdenaaGreatDoor.Pg

/- Contracts of layer prog's reader: an import. Conditions: a reader lies in memory. -/
namespace Go.Proofs.YtgohhnbdicdenaaGreatDoor.Pg
open Go.ChangeShapes Go.WideShapes Go.ChangeAt Go.RowKit
open Go.Proofs.YtgohhnbdicdenaaGreatDoor.Ex
open Go.Proofs.YtgohhnbdicdenaaGreatDoor.Tr (str ret_bool ret_int Bytes Nd)
set_option linter.unusedVariables false
set_option linter.unusedSimpArgs false

set_option maxRecDepth 100000 in
set_option maxHeartbeats 8000000 in
theorem item_import (b : Nat) (r : Rd) (w : World) (hr : GrAt w b r) (n : Bytes) (l : List (List Nd)) (r1 r2 r3 : Rd) (X : Itm × Rd) (hin : r.next < r.l.length) (hk : kindM (txt r) = 5) (h1 : nameP r.adv = (n, r1)) (h2 : encP sComma exprP r1 = (l, r2)) (h3 : (needP sSemi r2).2 = r3) (he : ((⟨5, n, 0, [], [], l⟩ : Itm), r3) = X) : Calls Tryz.prog 123 #[.pointer (some ⟨b, 0, none⟩)] w (ItmG w b X) := by
  have HR := Lib.hid hr
  have hlt := hr.lt
  have hmf : ∀ (fn : Fn) (first cap : Array Value) (w : World), (Instr.makeFunc fn first cap).run Tryz.prog w = .ok (.func fn first cap) w := fun _ _ _ _ => rfl
  have hnx := hr.ok.nx
  have HK := Lib.hid hk
  have HE := Lib.hid he
  have H1 := Lib.hid h1
  have H3 := Lib.hid h3
  have HC2 : Hid (∀ w', GrAt w' b r1 → Calls Tryz.prog 136 #[.pointer (some ⟨b, 0, none⟩), .string ⟨#[44]⟩, .func (.func 126) #[.pointer (some ⟨b, 0, none⟩)] #[]] w' (RowG 23 1 ExpV w' b (l, r2))) := Lib.hid (fun w' h => by rw [← h2]; exact encE_any b r1 w' h)
  have HN := Lib.hid hin
  clear h1 h2 h3 he hk hin hr
  have hX0 := Lib.hid (heap_alloc_new w (.cells #[.int .i64 0, .string ⟨#[]⟩, .int .i64 0, .slice none 0 0, .slice none 0 0, .slice none 0 0] 72))
  go_enter Tryz.func123, Tryz.ntmps123
  go_wp2_with fail
  refine (text_any b r _ (HR.out.below (below_new w _))).mono ?_
  rintro e w1 ⟨rfl, hb1⟩
  have HB1 := Lib.hid ((below_new w (.cells #[.int .i64 0, .string ⟨#[]⟩, .int .i64 0, .slice none 0 0, .slice none 0 0, .slice none 0 0] 72)).trans (hb1.mono (by simp)))
  have x1 := (hb1.block _ (lt_of_block hX0.out)).trans hX0.out
  have hs1 := hb1.size
  simp at hs1
  have X1 := Lib.hid x1
  clear hb1 x1
  have hR1 := Lib.hid (HR.out.below HB1.out)
  have cb1 : w1.cell? ⟨b, 1, none⟩ = some (.int .i64 (r.next : Int)) := by obtain ⟨lv, z, _⟩ := hR1.out.blk; exact gr_cell z 1
  have fb1 : w1.frozen? ⟨b, 1, none⟩ = false := by obtain ⟨lv, z, _⟩ := hR1.out.blk; exact gr_free z 1
  have hbn : b ≠ w1.heap.size := by omega
  have hbz : b < w1.heap.size := by omega
  have hbn0 : b ≠ w.heap.size := by omega
  go_wp2_with fail
  refine (kindOf_any (txt r) _).mono ?_
  rintro e w1b ⟨rfl, rfl⟩
  rw [HK.out]
  have HG1a : Hid (GrTo w ((w1.setCell ⟨b, 1, none⟩ (.int .i64 ((r.next : Int) + 1))).alloc (.cells #[.int .i64 5, .string ⟨#[]⟩, .int .i64 0, .slice none 0 0, .slice none 0 0, .slice none 0 0] 72)) b r.adv) := Lib.hid ((GrTo.below HB1.out hlt (hR1.out.advTo HN.out)).then_below (below_new _ _))
  have X1a : Hid (((w1.setCell ⟨b, 1, none⟩ (.int .i64 ((r.next : Int) + 1))).alloc (.cells #[.int .i64 5, .string ⟨#[]⟩, .int .i64 0, .slice none 0 0, .slice none 0 0, .slice none 0 0] 72)).heap[w.heap.size]? = some (.cells #[.int .i64 0, .string ⟨#[]⟩, .int .i64 0, .slice none 0 0, .slice none 0 0, .slice none 0 0] 72 (0, 0))) := Lib.hid (((below_new _ _).block _ (by simp [World.setCell]; omega)).trans (set_other X1.out hbn0.symm))
  have Y1a : Hid (((w1.setCell ⟨b, 1, none⟩ (.int .i64 ((r.next : Int) + 1))).alloc (.cells #[.int .i64 5, .string ⟨#[]⟩, .int .i64 0, .slice none 0 0, .slice none 0 0, .slice none 0 0] 72)).heap[w1.heap.size]? = some (.cells #[.int .i64 5, .string ⟨#[]⟩, .int .i64 0, .slice none 0 0, .slice none 0 0, .slice none 0 0] 72 (0, 0))) := Lib.hid (new_blk (by simp [World.setCell]))
  have hne : w.heap.size ≠ w1.heap.size := by omega
  go_wp2_with fail
  refine (name_lit HG1a.out.rd H1.out).mono ?_
  rintro e w2 ⟨rfl, hg2⟩
  have HG2 := Lib.hid (HG1a.out.trans hg2)
  have x2 := hg2.block X1a.out (by omega)
  have y2 := hg2.block Y1a.out (by omega)
  have X2 := Lib.hid x2
  have Y2 := Lib.hid y2
  have lx2 := lt_of_block x2
  have ly2 := lt_of_block y2
  clear hg2 x2 y2 
  clear cb1 fb1
  have q2_1 : w2.cell? ⟨w1.heap.size, 1, none⟩ = some (.string ⟨#[]⟩) := (cell_at Y2.out 1).trans rfl
  have k2_1 : w2.frozen? ⟨w1.heap.size, 1, none⟩ = false := free_at Y2.out 1
  have Y2a : Hid ((w2.setCell ⟨w1.heap.size, 1, none⟩ (.string (str n))).heap[w1.heap.size]? = some (.cells #[.int .i64 5, .string (str n), .int .i64 0, .slice none 0 0, .slice none 0 0, .slice none 0 0] 72 (0, 0))) := Lib.hid (by have z := setObj_heap (v := .string (str n)) Y2.out (k := 1) (by simp); simpa using z)
  have X2a := Lib.hid (set_other (k := 1) (v := .string (str n)) X2.out hne)
  have HG2a := Lib.hid (HG2.out.setLocal (k := 1) (B := w1.heap.size) (by omega) hlt (.string (str n)))
  go_wp2_with fail
  refine (HC2.out _ HG2a.out.rd).mono ?_
  rintro e w3 ⟨lv, rfl, hl3, hg3⟩
  have HG3 := Lib.hid (HG2a.out.trans hg3)
  have x3 := hg3.block X2a.out (by omega)
  have y3 := hg3.block Y2a.out (by omega)
  have X3 := Lib.hid x3
  have Y3 := Lib.hid y3
  have lx3 := lt_of_block x3
  have ly3 := lt_of_block y3
  obtain ⟨A1, n1, c1, rfl, u1, u2⟩ := row_form hl3
  have F1_3 := Lib.hid hl3
  clear hg3 x3 y3 hl3
  clear q2_1 k2_1
  have q3_5 : w3.cell? ⟨w1.heap.size, 5, none⟩ = some (.slice none 0 0) := (cell_at Y3.out 5).trans rfl
  have k3_5 : w3.frozen? ⟨w1.heap.size, 5, none⟩ = false := free_at Y3.out 5
  have Y3a : Hid ((w3.setCell ⟨w1.heap.size, 5, none⟩ (.slice A1 n1 c1)).heap[w1.heap.size]? = some (.cells #[.int .i64 5, .string (str n), .int .i64 0, .slice none 0 0, .slice none 0 0, .slice A1 n1 c1] 72 (0, 0))) := Lib.hid (by have z := setObj_heap (v := .slice A1 n1 c1) Y3.out (k := 5) (by simp); simpa using z)
  have X3a := Lib.hid (set_other (k := 5) (v := .slice A1 n1 c1) X3.out hne)
  have HG3a := Lib.hid (HG3.out.setLocal (k := 5) (B := w1.heap.size) (by omega) hlt (.slice A1 n1 c1))
  have F1_3a := Lib.hid (F1_3.out.stay (Stay.set (P := fun t => t = 72) (k := 5) Y3.out rfl (.slice A1 n1 c1)) (by decide) (fun a x hx => ExpV.stay (Stay.set (P := fun t => t = 72) (k := 5) Y3.out rfl (.slice A1 n1 c1)) (by decide) a x hx))
  go_wp2_with fail
  refine (need_lit (s := sSemi) rfl HG3a.out.rd (by decide) H3.out).mono ?_
  rintro e w4 ⟨rfl, hg4⟩
  have HG4 := Lib.hid (HG3a.out.trans hg4)
  have x4 := hg4.block X3a.out (by omega)
  have y4 := hg4.block Y3a.out (by omega)
  have X4 := Lib.hid x4
  have Y4 := Lib.hid y4
  have lx4 := lt_of_block x4
  have ly4 := lt_of_block y4
  have F1_4 := Lib.hid (F1_3a.out.stay ((GrTo.stay HG3a.out.rd hg4)) (by decide) (fun a x hx => ExpV.stay (GrTo.stay HG3a.out.rd hg4) (by decide) a x hx))
  clear hg4 x4 y4 
  clear q3_5 k3_5
  have p0 : w4.cell? ⟨w.heap.size, 0, none⟩ = some (.int .i64 0) := (cell_at X4.out 0).trans rfl
  have g0 : w4.frozen? ⟨w.heap.size, 0, none⟩ = false := free_at X4.out 0
  have q0 : w4.cell? ⟨w1.heap.size, 0, none⟩ = some (.int .i64 5) := (cell_at Y4.out 0).trans rfl
  have p1 : w4.cell? ⟨w.heap.size, 1, none⟩ = some (.string ⟨#[]⟩) := (cell_at X4.out 1).trans rfl
  have g1 : w4.frozen? ⟨w.heap.size, 1, none⟩ = false := free_at X4.out 1
  have q1 : w4.cell? ⟨w1.heap.size, 1, none⟩ = some (.string (str n)) := (cell_at Y4.out 1).trans rfl
  have p2 : w4.cell? ⟨w.heap.size, 2, none⟩ = some (.int .i64 0) := (cell_at X4.out 2).trans rfl
  have g2 : w4.frozen? ⟨w.heap.size, 2, none⟩ = false := free_at X4.out 2
  have q2 : w4.cell? ⟨w1.heap.size, 2, none⟩ = some (.int .i64 0) := (cell_at Y4.out 2).trans rfl
  have p3 : w4.cell? ⟨w.heap.size, 3, none⟩ = some (.slice none 0 0) := (cell_at X4.out 3).trans rfl
  have g3 : w4.frozen? ⟨w.heap.size, 3, none⟩ = false := free_at X4.out 3
  have q3 : w4.cell? ⟨w1.heap.size, 3, none⟩ = some (.slice none 0 0) := (cell_at Y4.out 3).trans rfl
  have p4 : w4.cell? ⟨w.heap.size, 4, none⟩ = some (.slice none 0 0) := (cell_at X4.out 4).trans rfl
  have g4 : w4.frozen? ⟨w.heap.size, 4, none⟩ = false := free_at X4.out 4
  have q4 : w4.cell? ⟨w1.heap.size, 4, none⟩ = some (.slice none 0 0) := (cell_at Y4.out 4).trans rfl
  have p5 : w4.cell? ⟨w.heap.size, 5, none⟩ = some (.slice none 0 0) := (cell_at X4.out 5).trans rfl
  have g5 : w4.frozen? ⟨w.heap.size, 5, none⟩ = false := free_at X4.out 5
  have q5 : w4.cell? ⟨w1.heap.size, 5, none⟩ = some (.slice A1 n1 c1) := (cell_at Y4.out 5).trans rfl
  go_wp2
  have Z := blk6 X4.out (.int .i64 5) (.string (str n)) (.int .i64 0) (.slice none 0 0) (.slice none 0 0) (.slice A1 n1 c1)
  have hsz : w4.heap.size ≤ ((((((w4.setCell ⟨w.heap.size, 0, none⟩ (.int .i64 5)).setCell ⟨w.heap.size, 1, none⟩ (.string (str n))).setCell ⟨w.heap.size, 2, none⟩ (.int .i64 0)).setCell ⟨w.heap.size, 3, none⟩ (.slice none 0 0)).setCell ⟨w.heap.size, 4, none⟩ (.slice none 0 0)).setCell ⟨w.heap.size, 5, none⟩ (.slice A1 n1 c1)).heap.size := by simp [World.setCell]
  have hst : Stay (fun t => t = 72) w4 ((((((w4.setCell ⟨w.heap.size, 0, none⟩ (.int .i64 5)).setCell ⟨w.heap.size, 1, none⟩ (.string (str n))).setCell ⟨w.heap.size, 2, none⟩ (.int .i64 0)).setCell ⟨w.heap.size, 3, none⟩ (.slice none 0 0)).setCell ⟨w.heap.size, 4, none⟩ (.slice none 0 0)).setCell ⟨w.heap.size, 5, none⟩ (.slice A1 n1 c1)) := Stay.sets X4.out rfl hsz (fun g hg => by simp only [set_ne hg])
  have z0 := (cell_at Z 0).trans (show _ = some (.int .i64 5) from rfl)
  have z1 := (cell_at Z 1).trans (show _ = some (.string (str n)) from rfl)
  have z2 := (cell_at Z 2).trans (show _ = some (.int .i64 0) from rfl)
  have z3 := (cell_at Z 3).trans (show _ = some (.slice none 0 0) from rfl)
  have z4 := (cell_at Z 4).trans (show _ = some (.slice none 0 0) from rfl)
  have z5 := (cell_at Z 5).trans (show _ = some (.slice A1 n1 c1) from rfl)
  clear p0 g0 q0 p1 g1 q1 p2 g2 q2 p3 g3 q3 p4 g4 q4 p5 g5 q5
  exact bodyPost_ret (v := .agg #[.int .i64 5, .string (str n), .int .i64 0, .slice none 0 0, .slice none 0 0, .slice A1 n1 c1]) (by simp [results, Tryz.results123, go_sem, z0, z1, z2, z3, z4, z5]) rfl (ItmG.of HE.out (PtW.nil _ _ rfl) (PtW.nil _ _ rfl) (F1_4.out.stay hst (by decide) (fun a x hx => ExpV.stay hst (by decide) a x hx)) ((((((HG4.out.setLocal (by omega) hlt _).setLocal (by omega) hlt _).setLocal (by omega) hlt _).setLocal (by omega) hlt _).setLocal (by omega) hlt _).setLocal (by omega) hlt _))
end Go.Proofs.YtgohhnbdicdenaaGreatDoor.Pg

/- Contracts of layer prog's reader: a ghost. Conditions: a reader lies in memory. -/
namespace Go.Proofs.YtgohhnbdicdenaaGreatDoor.Pg
open Go.ChangeShapes Go.WideShapes Go.ChangeAt Go.RowKit
open Go.Proofs.YtgohhnbdicdenaaGreatDoor.Ex
open Go.Proofs.YtgohhnbdicdenaaGreatDoor.Tr (str ret_bool ret_int Bytes Nd)
set_option linter.unusedVariables false
set_option linter.unusedSimpArgs false

set_option maxRecDepth 100000 in
set_option maxHeartbeats 8000000 in
theorem item_ghost (b : Nat) (r : Rd) (w : World) (hr : GrAt w b r) (n : Bytes) (ty : Int) (E : List Nd) (r1 r2 r3 r4 : Rd) (X : Itm × Rd) (hin : r.next < r.l.length) (hk : kindM (txt r) = 3) (h1 : paramP r.adv = (⟨n, ty⟩, r1)) (h2 : (needP sEq r1).2 = r2) (h3 : exprP r2 = (E, r3)) (h4 : (needP sSemi r3).2 = r4) (he : ((⟨3, n, ty, E, [], []⟩ : Itm), r4) = X) : Calls Tryz.prog 123 #[.pointer (some ⟨b, 0, none⟩)] w (ItmG w b X) := by
  have HR := Lib.hid hr
  have hlt := hr.lt
  have hmf : ∀ (fn : Fn) (first cap : Array Value) (w : World), (Instr.makeFunc fn first cap).run Tryz.prog w = .ok (.func fn first cap) w := fun _ _ _ _ => rfl
  have hnx := hr.ok.nx
  have HK := Lib.hid hk
  have HE := Lib.hid he
  have H2 := Lib.hid h2
  have H4 := Lib.hid h4
  have HC1 : Hid (∀ w', GrAt w' b r.adv → Calls Tryz.prog 109 #[.pointer (some ⟨b, 0, none⟩)] w' (PrmG w' b (⟨n, ty⟩, r1))) := Lib.hid (fun w' h => by rw [← h1]; exact param_any b r.adv w' h)
  have HC3 : Hid (∀ w', GrAt w' b r2 → Calls Tryz.prog 126 #[.pointer (some ⟨b, 0, none⟩)] w' (ExpG w' b (E, r3))) := Lib.hid (fun w' h => by rw [← h3]; exact expression_any b r2 w' h)
  have HN := Lib.hid hin
  clear h1 h2 h3 h4 he hk hin hr
  have hX0 := Lib.hid (heap_alloc_new w (.cells #[.int .i64 0, .string ⟨#[]⟩, .int .i64 0, .slice none 0 0, .slice none 0 0, .slice none 0 0] 72))
  go_enter Tryz.func123, Tryz.ntmps123
  go_wp2_with fail
  refine (text_any b r _ (HR.out.below (below_new w _))).mono ?_
  rintro e w1 ⟨rfl, hb1⟩
  have HB1 := Lib.hid ((below_new w (.cells #[.int .i64 0, .string ⟨#[]⟩, .int .i64 0, .slice none 0 0, .slice none 0 0, .slice none 0 0] 72)).trans (hb1.mono (by simp)))
  have x1 := (hb1.block _ (lt_of_block hX0.out)).trans hX0.out
  have hs1 := hb1.size
  simp at hs1
  have X1 := Lib.hid x1
  clear hb1 x1
  have hR1 := Lib.hid (HR.out.below HB1.out)
  have cb1 : w1.cell? ⟨b, 1, none⟩ = some (.int .i64 (r.next : Int)) := by obtain ⟨lv, z, _⟩ := hR1.out.blk; exact gr_cell z 1
  have fb1 : w1.frozen? ⟨b, 1, none⟩ = false := by obtain ⟨lv, z, _⟩ := hR1.out.blk; exact gr_free z 1
  have hbn : b ≠ w1.heap.size := by omega
  have hbz : b < w1.heap.size := by omega
  have hbn0 : b ≠ w.heap.size := by omega
  go_wp2_with fail
  refine (kindOf_any (txt r) _).mono ?_
  rintro e w1b ⟨rfl, rfl⟩
  rw [HK.out]
  have HG1a : Hid (GrTo w ((w1.setCell ⟨b, 1, none⟩ (.int .i64 ((r.next : Int) + 1))).alloc (.cells #[.int .i64 3, .string ⟨#[]⟩, .int .i64 0, .slice none 0 0, .slice none 0 0, .slice none 0 0] 72)) b r.adv) := Lib.hid ((GrTo.below HB1.out hlt (hR1.out.advTo HN.out)).then_below (below_new _ _))
  have X1a : Hid (((w1.setCell ⟨b, 1, none⟩ (.int .i64 ((r.next : Int) + 1))).alloc (.cells #[.int .i64 3, .string ⟨#[]⟩, .int .i64 0, .slice none 0 0, .slice none 0 0, .slice none 0 0] 72)).heap[w.heap.size]? = some (.cells #[.int .i64 0, .string ⟨#[]⟩, .int .i64 0, .slice none 0 0, .slice none 0 0, .slice none 0 0] 72 (0, 0))) := Lib.hid (((below_new _ _).block _ (by simp [World.setCell]; omega)).trans (set_other X1.out hbn0.symm))
  have Y1a : Hid (((w1.setCell ⟨b, 1, none⟩ (.int .i64 ((r.next : Int) + 1))).alloc (.cells #[.int .i64 3, .string ⟨#[]⟩, .int .i64 0, .slice none 0 0, .slice none 0 0, .slice none 0 0] 72)).heap[w1.heap.size]? = some (.cells #[.int .i64 3, .string ⟨#[]⟩, .int .i64 0, .slice none 0 0, .slice none 0 0, .slice none 0 0] 72 (0, 0))) := Lib.hid (new_blk (by simp [World.setCell]))
  have hne : w.heap.size ≠ w1.heap.size := by omega
  go_wp2_with fail
  refine (HC1.out _ HG1a.out.rd).mono ?_
  rintro e w2 ⟨rfl, hg2⟩
  have HG2 := Lib.hid (HG1a.out.trans hg2)
  have x2 := hg2.block X1a.out (by omega)
  have y2 := hg2.block Y1a.out (by omega)
  have X2 := Lib.hid x2
  have Y2 := Lib.hid y2
  have lx2 := lt_of_block x2
  have ly2 := lt_of_block y2
  clear hg2 x2 y2 
  clear cb1 fb1
  have q2_1 : w2.cell? ⟨w1.heap.size, 1, none⟩ = some (.string ⟨#[]⟩) := (cell_at Y2.out 1).trans rfl
  have k2_1 : w2.frozen? ⟨w1.heap.size, 1, none⟩ = false := free_at Y2.out 1
  have q2_2 : w2.cell? ⟨w1.heap.size, 2, none⟩ = some (.int .i64 0) := (cell_at Y2.out 2).trans rfl
  have k2_2 : w2.frozen? ⟨w1.heap.size, 2, none⟩ = false := free_at Y2.out 2
  have Y2a : Hid ((w2.setCell ⟨w1.heap.size, 1, none⟩ (.string (str n))).heap[w1.heap.size]? = some (.cells #[.int .i64 3, .string (str n), .int .i64 0, .slice none 0 0, .slice none 0 0, .slice none 0 0] 72 (0, 0))) := Lib.hid (by have z := setObj_heap (v := .string (str n)) Y2.out (k := 1) (by simp); simpa using z)
  have X2a := Lib.hid (set_other (k := 1) (v := .string (str n)) X2.out hne)
  have HG2a := Lib.hid (HG2.out.setLocal (k := 1) (B := w1.heap.size) (by omega) hlt (.string (str n)))
  have Y2b : Hid (((w2.setCell ⟨w1.heap.size, 1, none⟩ (.string (str n))).setCell ⟨w1.heap.size, 2, none⟩ (.int .i64 ty)).heap[w1.heap.size]? = some (.cells #[.int .i64 3, .string (str n), .int .i64 ty, .slice none 0 0, .slice none 0 0, .slice none 0 0] 72 (0, 0))) := Lib.hid (by have z := setObj_heap (v := .int .i64 ty) Y2a.out (k := 2) (by simp); simpa using z)
  have X2b := Lib.hid (set_other (k := 2) (v := .int .i64 ty) X2a.out hne)
  have HG2b := Lib.hid (HG2a.out.setLocal (k := 2) (B := w1.heap.size) (by omega) hlt (.int .i64 ty))
  have hne2 : w2.heap.size ≠ w1.heap.size := by omega
  have hne3 : w1.heap.size ≠ w2.heap.size := by omega
  have HG2c := Lib.hid (HG2b.out.then_below (below_drew1 _ (.cells #[.string (str n), .int .i64 ty] 46)))
  have X2c := Lib.hid (((below_drew1 _ (.cells #[.string (str n), .int .i64 ty] 46)).block _ (lt_of_block X2b.out)).trans X2b.out)
  have Y2c := Lib.hid (((below_drew1 _ (.cells #[.string (str n), .int .i64 ty] 46)).block _ (lt_of_block Y2b.out)).trans Y2b.out)
  go_wp2
  go_region
  go_wp2_with fail
  refine (need_lit (s := sEq) rfl HG2c.out.rd (by decide) H2.out).mono ?_
  rintro e w3 ⟨rfl, hg3⟩
  have HG3 := Lib.hid (HG2c.out.trans hg3)
  have x3 := hg3.block X2c.out (by omega)
  have y3 := hg3.block Y2c.out (by omega)
  have X3 := Lib.hid x3
  have Y3 := Lib.hid y3
  have lx3 := lt_of_block x3
  have ly3 := lt_of_block y3
  clear hg3 x3 y3 
  clear q2_1 k2_1 q2_2 k2_2
  go_wp2_with fail
  refine (HC3.out _ HG3.out.rd).mono ?_
  rintro e w4 ⟨ev, rfl, hp4, hg4⟩
  have HG4 := Lib.hid (HG3.out.trans hg4)
  have x4 := hg4.block X3.out (by omega)
  have y4 := hg4.block Y3.out (by omega)
  have X4 := Lib.hid x4
  have Y4 := Lib.hid y4
  have lx4 := lt_of_block x4
  have ly4 := lt_of_block y4
  obtain ⟨A1, n1, c1, rfl, u1, u2⟩ := pt_form hp4
  have F1_4 := Lib.hid hp4
  clear hg4 x4 y4 hp4
  have q4_3 : w4.cell? ⟨w1.heap.size, 3, none⟩ = some (.slice none 0 0) := (cell_at Y4.out 3).trans rfl
  have k4_3 : w4.frozen? ⟨w1.heap.size, 3, none⟩ = false := free_at Y4.out 3
  have Y4a : Hid ((w4.setCell ⟨w1.heap.size, 3, none⟩ (.slice A1 n1 c1)).heap[w1.heap.size]? = some (.cells #[.int .i64 3, .string (str n), .int .i64 ty, .slice A1 n1 c1, .slice none 0 0, .slice none 0 0] 72 (0, 0))) := Lib.hid (by have z := setObj_heap (v := .slice A1 n1 c1) Y4.out (k := 3) (by simp); simpa using z)
  have X4a := Lib.hid (set_other (k := 3) (v := .slice A1 n1 c1) X4.out hne)
  have HG4a := Lib.hid (HG4.out.setLocal (k := 3) (B := w1.heap.size) (by omega) hlt (.slice A1 n1 c1))
  have F1_4a := Lib.hid ((Stay.set (P := fun t => t = 72) (k := 3) Y4.out rfl (.slice A1 n1 c1)).pt (by decide) F1_4.out)
  go_wp2_with fail
  refine (need_lit (s := sSemi) rfl HG4a.out.rd (by decide) H4.out).mono ?_
  rintro e w5 ⟨rfl, hg5⟩
  have HG5 := Lib.hid (HG4a.out.trans hg5)
  have x5 := hg5.block X4a.out (by omega)
  have y5 := hg5.block Y4a.out (by omega)
  have X5 := Lib.hid x5
  have Y5 := Lib.hid y5
  have lx5 := lt_of_block x5
  have ly5 := lt_of_block y5
  have F1_5 := Lib.hid (((GrTo.stay HG4a.out.rd hg5)).pt (by decide) F1_4a.out)
  clear hg5 x5 y5 
  clear q4_3 k4_3
  have p0 : w5.cell? ⟨w.heap.size, 0, none⟩ = some (.int .i64 0) := (cell_at X5.out 0).trans rfl
  have g0 : w5.frozen? ⟨w.heap.size, 0, none⟩ = false := free_at X5.out 0
  have q0 : w5.cell? ⟨w1.heap.size, 0, none⟩ = some (.int .i64 3) := (cell_at Y5.out 0).trans rfl
  have p1 : w5.cell? ⟨w.heap.size, 1, none⟩ = some (.string ⟨#[]⟩) := (cell_at X5.out 1).trans rfl
  have g1 : w5.frozen? ⟨w.heap.size, 1, none⟩ = false := free_at X5.out 1
  have q1 : w5.cell? ⟨w1.heap.size, 1, none⟩ = some (.string (str n)) := (cell_at Y5.out 1).trans rfl
  have p2 : w5.cell? ⟨w.heap.size, 2, none⟩ = some (.int .i64 0) := (cell_at X5.out 2).trans rfl
  have g2 : w5.frozen? ⟨w.heap.size, 2, none⟩ = false := free_at X5.out 2
  have q2 : w5.cell? ⟨w1.heap.size, 2, none⟩ = some (.int .i64 ty) := (cell_at Y5.out 2).trans rfl
  have p3 : w5.cell? ⟨w.heap.size, 3, none⟩ = some (.slice none 0 0) := (cell_at X5.out 3).trans rfl
  have g3 : w5.frozen? ⟨w.heap.size, 3, none⟩ = false := free_at X5.out 3
  have q3 : w5.cell? ⟨w1.heap.size, 3, none⟩ = some (.slice A1 n1 c1) := (cell_at Y5.out 3).trans rfl
  have p4 : w5.cell? ⟨w.heap.size, 4, none⟩ = some (.slice none 0 0) := (cell_at X5.out 4).trans rfl
  have g4 : w5.frozen? ⟨w.heap.size, 4, none⟩ = false := free_at X5.out 4
  have q4 : w5.cell? ⟨w1.heap.size, 4, none⟩ = some (.slice none 0 0) := (cell_at Y5.out 4).trans rfl
  have p5 : w5.cell? ⟨w.heap.size, 5, none⟩ = some (.slice none 0 0) := (cell_at X5.out 5).trans rfl
  have g5 : w5.frozen? ⟨w.heap.size, 5, none⟩ = false := free_at X5.out 5
  have q5 : w5.cell? ⟨w1.heap.size, 5, none⟩ = some (.slice none 0 0) := (cell_at Y5.out 5).trans rfl
  go_wp2
  have Z := blk6 X5.out (.int .i64 3) (.string (str n)) (.int .i64 ty) (.slice A1 n1 c1) (.slice none 0 0) (.slice none 0 0)
  have hsz : w5.heap.size ≤ ((((((w5.setCell ⟨w.heap.size, 0, none⟩ (.int .i64 3)).setCell ⟨w.heap.size, 1, none⟩ (.string (str n))).setCell ⟨w.heap.size, 2, none⟩ (.int .i64 ty)).setCell ⟨w.heap.size, 3, none⟩ (.slice A1 n1 c1)).setCell ⟨w.heap.size, 4, none⟩ (.slice none 0 0)).setCell ⟨w.heap.size, 5, none⟩ (.slice none 0 0)).heap.size := by simp [World.setCell]
  have hst : Stay (fun t => t = 72) w5 ((((((w5.setCell ⟨w.heap.size, 0, none⟩ (.int .i64 3)).setCell ⟨w.heap.size, 1, none⟩ (.string (str n))).setCell ⟨w.heap.size, 2, none⟩ (.int .i64 ty)).setCell ⟨w.heap.size, 3, none⟩ (.slice A1 n1 c1)).setCell ⟨w.heap.size, 4, none⟩ (.slice none 0 0)).setCell ⟨w.heap.size, 5, none⟩ (.slice none 0 0)) := Stay.sets X5.out rfl hsz (fun g hg => by simp only [set_ne hg])
  have z0 := (cell_at Z 0).trans (show _ = some (.int .i64 3) from rfl)
  have z1 := (cell_at Z 1).trans (show _ = some (.string (str n)) from rfl)
  have z2 := (cell_at Z 2).trans (show _ = some (.int .i64 ty) from rfl)
  have z3 := (cell_at Z 3).trans (show _ = some (.slice A1 n1 c1) from rfl)
  have z4 := (cell_at Z 4).trans (show _ = some (.slice none 0 0) from rfl)
  have z5 := (cell_at Z 5).trans (show _ = some (.slice none 0 0) from rfl)
  clear p0 g0 q0 p1 g1 q1 p2 g2 q2 p3 g3 q3 p4 g4 q4 p5 g5 q5
  exact bodyPost_ret (v := .agg #[.int .i64 3, .string (str n), .int .i64 ty, .slice A1 n1 c1, .slice none 0 0, .slice none 0 0]) (by simp [results, Tryz.results123, go_sem, z0, z1, z2, z3, z4, z5]) rfl (ItmG.of HE.out (hst.pt (by decide) F1_5.out) (PtW.nil _ _ rfl) (RowR.nil _ _ _ _) ((((((HG5.out.setLocal (by omega) hlt _).setLocal (by omega) hlt _).setLocal (by omega) hlt _).setLocal (by omega) hlt _).setLocal (by omega) hlt _).setLocal (by omega) hlt _))
end Go.Proofs.YtgohhnbdicdenaaGreatDoor.Pg

/- Contracts of layer prog's reader: an item. Conditions: a reader lies in memory. -/
namespace Go.Proofs.YtgohhnbdicdenaaGreatDoor.Pg
open Go.ChangeShapes Go.WideShapes Go.ChangeAt Go.RowKit
open Go.Proofs.YtgohhnbdicdenaaGreatDoor.Ex
open Go.Proofs.YtgohhnbdicdenaaGreatDoor.Tr (str ret_bool ret_int Bytes Nd)
set_option linter.unusedVariables false
set_option linter.unusedSimpArgs false

theorem item_any (b : Nat) (r : Rd) (w : World) (hr : GrAt w b r) (hb : atItemB r = true) : Calls Tryz.prog 123 #[.pointer (some ⟨b, 0, none⟩)] w (ItmG w b (itemP r)) := by
  have hin : r.next < r.l.length := txt_in (fun z => by unfold atItemB at hb; rw [z] at hb; exact absurd hb (by decide))
  obtain ⟨K, hk⟩ : ∃ K, kindM (txt r) = K := ⟨_, rfl⟩
  have hu : itemP r = pBind (itemOf K) (fun i => pBind (needP sSemi) fun _ => pPure i) r.adv := by rw [← hk]; rfl
  have hcase : K = 1 ∨ K = 2 ∨ K = 3 ∨ K = 4 ∨ K = 5 := by
    unfold atItemB at hb
    rw [hk] at hb
    unfold kindM at hk
    split at hk
    · exact .inl hk.symm
    split at hk
    · exact .inr (.inl hk.symm)
    split at hk
    · exact .inr (.inr (.inl hk.symm))
    split at hk
    · exact .inr (.inr (.inr (.inl hk.symm)))
    split at hk
    · exact .inr (.inr (.inr (.inr hk.symm)))
    · subst hk; exact absurd hb (by decide)
  have plain : ∀ K : Int, K ≠ 3 → K ≠ 4 → K ≠ 5 → itemOf K = pBind exprP (fun e => pPure ⟨K, [], 0, e, [], []⟩) := fun K h3 h4 h5 => by unfold itemOf; rw [if_neg h3, if_neg h4, if_neg h5]
  rw [hu]
  rcases hcase with rfl | rfl | rfl | rfl | rfl
  · obtain ⟨⟨E, r1⟩, h1⟩ : ∃ x, exprP r.adv = x := ⟨_, rfl⟩
    obtain ⟨r2, h2⟩ : ∃ x, (needP sSemi r1).2 = x := ⟨_, rfl⟩
    refine item_plain b r w hr 1 E r1 r2 _ hin hk (by decide) (by decide) (by decide) h1 h2 ?_
    have hi : itemOf 1 r.adv = (⟨1, [], 0, E, [], []⟩, r1) := by rw [plain 1 (by decide) (by decide) (by decide)]; refine (pb h1).trans ?_; rfl
    refine Eq.symm ?_; refine (pb hi).trans ?_; refine (pu h2).trans ?_; rfl
  · obtain ⟨⟨E, r1⟩, h1⟩ : ∃ x, exprP r.adv = x := ⟨_, rfl⟩
    obtain ⟨r2, h2⟩ : ∃ x, (needP sSemi r1).2 = x := ⟨_, rfl⟩
    refine item_plain b r w hr 2 E r1 r2 _ hin hk (by decide) (by decide) (by decide) h1 h2 ?_
    have hi : itemOf 2 r.adv = (⟨2, [], 0, E, [], []⟩, r1) := by rw [plain 2 (by decide) (by decide) (by decide)]; refine (pb h1).trans ?_; rfl
    refine Eq.symm ?_; refine (pb hi).trans ?_; refine (pu h2).trans ?_; rfl
  · obtain ⟨⟨⟨n, ty⟩, r1⟩, h1⟩ : ∃ x, paramP r.adv = x := ⟨_, rfl⟩
    obtain ⟨r2, h2⟩ : ∃ x, (needP sEq r1).2 = x := ⟨_, rfl⟩
    obtain ⟨⟨E, r3⟩, h3⟩ : ∃ x, exprP r2 = x := ⟨_, rfl⟩
    obtain ⟨r4, h4⟩ : ∃ x, (needP sSemi r3).2 = x := ⟨_, rfl⟩
    refine item_ghost b r w hr n ty E r1 r2 r3 r4 _ hin hk h1 h2 h3 h4 ?_
    have hi : itemOf 3 r.adv = (⟨3, n, ty, E, [], []⟩, r3) := by
      show pBind paramP (fun p => pBind (needP sEq) fun _ => pBind exprP fun e => pPure (⟨3, p.name, p.ty, e, [], []⟩ : Itm)) r.adv = _
      refine (pb h1).trans ?_; refine (pu h2).trans ?_; refine (pb h3).trans ?_; rfl
    refine Eq.symm ?_; refine (pb hi).trans ?_; refine (pu h4).trans ?_; rfl
  · obtain ⟨⟨n, r1⟩, h1⟩ : ∃ x, nameP r.adv = x := ⟨_, rfl⟩
    obtain ⟨r2, h2⟩ : ∃ x, (needP wRequire r1).2 = x := ⟨_, rfl⟩
    obtain ⟨⟨E, r3⟩, h3⟩ : ∃ x, exprP r2 = x := ⟨_, rfl⟩
    obtain ⟨r4, h4⟩ : ∃ x, (needP wEnsure r3).2 = x := ⟨_, rfl⟩
    obtain ⟨⟨F, r5⟩, h5⟩ : ∃ x, exprP r4 = x := ⟨_, rfl⟩
    obtain ⟨r6, h6⟩ : ∃ x, (needP sSemi r5).2 = x := ⟨_, rfl⟩
    refine item_mode b r w hr n E F r1 r2 r3 r4 r5 r6 _ hin hk h1 h2 h3 h4 h5 h6 ?_
    have hi : itemOf 4 r.adv = (⟨4, n, 0, E, F, []⟩, r5) := by
      show pBind nameP (fun n => pBind (needP wRequire) fun _ => pBind exprP fun e => pBind (needP wEnsure) fun _ => pBind exprP fun f => pPure (⟨4, n, 0, e, f, []⟩ : Itm)) r.adv = _
      refine (pb h1).trans ?_; refine (pu h2).trans ?_; refine (pb h3).trans ?_; refine (pu h4).trans ?_; refine (pb h5).trans ?_; rfl
    refine Eq.symm ?_; refine (pb hi).trans ?_; refine (pu h6).trans ?_; rfl
  · obtain ⟨⟨n, r1⟩, h1⟩ : ∃ x, nameP r.adv = x := ⟨_, rfl⟩
    obtain ⟨⟨l, r2⟩, h2⟩ : ∃ x, encP sComma exprP r1 = x := ⟨_, rfl⟩
    obtain ⟨r3, h3⟩ : ∃ x, (needP sSemi r2).2 = x := ⟨_, rfl⟩
    refine item_import b r w hr n l r1 r2 r3 _ hin hk h1 h2 h3 ?_
    have hi : itemOf 5 r.adv = (⟨5, n, 0, [], [], l⟩, r2) := by
      show pBind nameP (fun n => pBind (encP sComma exprP) fun l => pPure (⟨5, n, 0, [], [], l⟩ : Itm)) r.adv = _
      refine (pb h1).trans ?_; refine (pb h2).trans ?_; rfl
    refine Eq.symm ?_; refine (pb hi).trans ?_; refine (pu h3).trans ?_; rfl
end Go.Proofs.YtgohhnbdicdenaaGreatDoor.Pg

/- Contracts of layer prog's reader: a row of items. Conditions: a reader lies in memory. -/
namespace Go.Proofs.YtgohhnbdicdenaaGreatDoor.Pg
open Go.ChangeShapes Go.WideShapes Go.ChangeAt Go.RowKit
open Go.Proofs.YtgohhnbdicdenaaGreatDoor.Ex
open Go.Proofs.YtgohhnbdicdenaaGreatDoor.Tr (str ret_bool ret_int Bytes Nd)
set_option linter.unusedVariables false
set_option linter.unusedSimpArgs false

theorem info72_121 : (Tryz.prog.info? 72).map (fun i => (i.zero, i.size, i.bytes)) = some (some (.agg #[.int .i64 0, .string ⟨#[]⟩, .int .i64 0, .slice none 0 0, .slice none 0 0, .slice none 0 0]), 6, 104) := by kernel_rfl
set_option maxRecDepth 100000 in
set_option maxHeartbeats 4000000 in
theorem rowI_any (b : Nat) (r : Rd) (w : World) (hr : GrAt w b r) :
    Calls Tryz.prog 121 #[.pointer (some ⟨b, 0, none⟩), .func (.func 122) #[.pointer (some ⟨b, 0, none⟩)] #[], .func (.func 123) #[.pointer (some ⟨b, 0, none⟩)] #[]] w (RowG 72 6 ItmV w b (rowP atItemB itemP r)) := by
  have HR := Lib.hid hr
  have hlt := hr.lt
  obtain ⟨i0, hi, hz0, hz1, hz2⟩ := info_parts info72_121
  obtain ⟨X, hX⟩ : ∃ X, rowP atItemB itemP r = X := ⟨_, rfl⟩
  have HX : Hid (rowF atItemB itemP rowMax [] r = X) := Lib.hid hX
  rw [hX]
  clear hX hr
  go_enter Tryz.func121, Tryz.ntmps121
  go_wp2
  go_loopg [7] rowMax (fun g s7 wr => ∃ (rr : Rd) (ov : Value) (acc : List (Itm)) (xs : List (List Value)), ov = s7 ∧ acc.length ≤ 200 ∧ 202 ≤ acc.length + g ∧ OList 72 6 ItmV wr w.heap.size ov acc xs ∧ GrTo w wr b rr ∧ rowF atItemB itemP g acc rr = X)
  case atStart => exact ⟨r, _, [], [], rfl, by simp, by simp [rowMax], OList.nil _ _, GrTo.refl HR.out, HX.out⟩
  case round =>
    obtain ⟨rr, ov, acc, xs, hov, ha, hag, hol, hgr, hrow⟩ := hrel
    subst hov
    have HOL := Lib.hid hol
    have HGR := Lib.hid hgr
    have HROW := Lib.hid hrow
    obtain ⟨A0, c0, hv0, hn1, hn2⟩ := own_form hol.own
    subst hv0
    clear hol hgr hrow
    cases gk with
    | zero => omega
    | succ gk =>
    have HB := Lib.hid (atItem_any b rr wr HGR.out.rd)
    obtain ⟨B, hB⟩ : ∃ B, atItemB rr = B := ⟨_, rfl⟩
    rw [hB] at HB
    have HBE := Lib.hid hB
    clear hB
    cases B with
    | false =>
      have HE : Hid ((acc, rr) = X) := Lib.hid ((rowF_stop HBE.out).symm.trans HROW.out)
      go_wp2_with fail
      refine HB.out.mono ?_
      rintro e w1 ⟨rfl, hb1⟩
      have HB1 := Lib.hid hb1
      have HOL1 := Lib.hid (HOL.out.stay (Stay.below (P := fun t => t = 74) hb1) (by decide) (fun a x hx => ItmV.stay (Stay.below (P := fun t => t = 74) HB1.out) (by decide) (by decide) a x hx))
      clear hb1
      go_wp2
      go_ret
      exact RowG.of HE.out HOL1.out.row (HGR.out.then_below HB1.out)
    | true =>
    by_cases h200 : acc.length = 200
    · have HE : Hid (([], rr.fail 7) = X) := Lib.hid ((rowF_many HBE.out h200).symm.trans HROW.out)
      have hd : ((acc.length : Int) == 200) = true := by rw [beq_iff_eq]; omega
      clear h200
      go_wp2_with fail
      refine HB.out.mono ?_
      rintro e w1 ⟨rfl, hb1⟩
      have HB1 := Lib.hid hb1
      clear hb1
      go_wp2_with fail
      refine (fail_any b rr 7 _ (HGR.out.rd.below HB1.out)).mono ?_
      rintro e w2 ⟨rfl, hg2⟩
      have HG2 := Lib.hid hg2
      clear hg2
      go_wp2
      go_ret
      exact RowG.of HE.out (RowR.nil _ _ _ _) ((HGR.out.then_below HB1.out).trans HG2.out)
    have hd : ((acc.length : Int) == 200) = false := by rw [beq_eq_false_iff_ne]; omega
    obtain ⟨⟨a, r2⟩, hone⟩ : ∃ x, itemP rr = x := ⟨_, rfl⟩
    have HE : Hid (rowF atItemB itemP gk (acc ++ [a]) r2 = X) := Lib.hid ((rowF_step HBE.out h200 hone).symm.trans HROW.out)
    have HO : Hid (∀ w', GrAt w' b rr → Calls Tryz.prog 123 #[.pointer (some ⟨b, 0, none⟩)] w' (ItmG w' b (a, r2))) := Lib.hid (fun w' h => by rw [← hone]; exact item_any b rr w' h HBE.out)
    have ha2 : acc.length < 200 := by omega
    clear h200 hone
    go_wp2_with fail
    refine HB.out.mono ?_
    rintro e w1 ⟨rfl, hb1⟩
    have HB1 := Lib.hid hb1
    clear hb1
    go_wp2_with fail
    refine (HO.out w1 (HGR.out.rd.below HB1.out)).mono ?_
    rintro e w2 ⟨ev, fv, av, rfl, hp, hq, ha2, hg2⟩
    have HG2 := Lib.hid hg2
    have hs2 := hg2.grown.size
    have hs1 := HB1.out.size
    have hs0 := HGR.out.grown.size
    have HOL2 := Lib.hid ((HOL.out.stay (Stay.below (P := fun t => t = 74) HB1.out) (by decide) (fun a x hx => ItmV.stay (Stay.below (P := fun t => t = 74) HB1.out) (by decide) (by decide) a x hx)).stay (GrTo.stay (HGR.out.rd.below HB1.out) hg2) (by decide) (fun a x hx => ItmV.stay (GrTo.stay (HGR.out.rd.below HB1.out) HG2.out) (by decide) (by decide) a x hx))
    clear hg2
    obtain ⟨A2, n2, c2, rfl, y1, y2⟩ := pt_form hp
    obtain ⟨A4, n4, c4, rfl, y11, y12⟩ := pt_form hq
    obtain ⟨A5, n5, c5, rfl, y13, y14⟩ := row_form ha2
    have HXV : Hid (ItmV w2 a [.int .i64 a.kind, .string (str a.name), .int .i64 a.ty, .slice A2 n2 c2, .slice A4 n4 c4, .slice A5 n5 c5]) := Lib.hid ⟨_, _, _, rfl, hp, hq, ha2⟩
    clear hp hq ha2
    go_wp2_with (at_builtin; refine wpList_append_own _ rfl (.tmp 15) (.tmp 18) 48 rfl w.heap.size 72 i0 _ 6 104 Tryz.underlying48 hi hz0 hz1 hz2 rfl (by decide) _ acc.length xs.flatten rfl (HOL2.out.own.alloc _) ⟨w2.heap.size, 0, none⟩ 1 1 [.int .i64 a.kind, .string (str a.name), .int .i64 a.ty, .slice A2 n2 c2, .slice A4 n4 c4, .slice A5 n5 c5] rfl rfl ?a1 ?b1 ?c1 ?d1 ?e1 ?_)
    case a1 => first | exact (fun j u h => h) | exact news_new _ #[.int .i64 a.kind, .string (str a.name), .int .i64 a.ty, .slice A2 n2 c2, .slice A4 n4 c4, .slice A5 n5 c5] _ [.int .i64 a.kind, .string (str a.name), .int .i64 a.ty, .slice A2 n2 c2, .slice A4 n4 c4, .slice A5 n5 c5] rfl rfl
    case b1 => simp [Value.oneCell']
    case c1 => unfold maxLen; omega
    case d1 => omega
    case e1 => simp; omega
    intro v3 w3 hown3 hg3 _
    have HOL3 := Lib.hid (HOL2.out.snoc HXV.out rfl (below_new w2 _) hown3 hg3 (fun st => ItmV.stay st (by decide) (by decide)))
    have HGR3 := Lib.hid (GrTo.row ((HGR.out.then_below HB1.out).trans HG2.out) hlt (below_new w2 _) hg3 (fun g hg => (HOL2.out.own.lt g hg).1))
    obtain ⟨A3, c3, hv3, y3, y4⟩ := own_form hown3
    subst hv3
    clear hown3 hg3
    go_wp2
    go_roundg gk
    case measure => omega
    case rel => exact ⟨r2, _, acc ++ [a], xs ++ [[.int .i64 a.kind, .string (str a.name), .int .i64 a.ty, .slice A2 n2 c2, .slice A4 n4 c4, .slice A5 n5 c5]], rfl, by simp; omega, by simp; omega, HOL3.out, HGR3.out, HE.out⟩
end Go.Proofs.YtgohhnbdicdenaaGreatDoor.Pg

/- Contracts of layer prog's reader: the items of a contract. Conditions: a reader lies in memory. -/
namespace Go.Proofs.YtgohhnbdicdenaaGreatDoor.Pg
open Go.ChangeShapes Go.WideShapes Go.ChangeAt Go.RowKit
open Go.Proofs.YtgohhnbdicdenaaGreatDoor.Ex
open Go.Proofs.YtgohhnbdicdenaaGreatDoor.Tr (str ret_bool ret_int Bytes Nd)
set_option linter.unusedVariables false
set_option linter.unusedSimpArgs false

set_option maxRecDepth 100000 in
set_option maxHeartbeats 2000000 in
theorem items_any (b : Nat) (r : Rd) (w : World) (hr : GrAt w b r) : Calls Tryz.prog 110 #[.pointer (some ⟨b, 0, none⟩)] w (RowG 72 6 ItmV w b (itemsP r)) := by
  have HR := Lib.hid hr
  have hlt := hr.lt
  have hmf : ∀ (fn : Fn) (first cap : Array Value) (w : World), (Instr.makeFunc fn first cap).run Tryz.prog w = .ok (.func fn first cap) w := fun _ _ _ _ => rfl
  obtain ⟨⟨l, r1⟩, h1⟩ : ∃ x, rowP atItemB itemP r = x := ⟨_, rfl⟩
  obtain ⟨r2, h2⟩ : ∃ x, (needP wEnd r1).2 = x := ⟨_, rfl⟩
  obtain ⟨X, hX⟩ : ∃ X, itemsP r = X := ⟨_, rfl⟩
  have HE : Hid ((l, r2) = X) := Lib.hid (by rw [← hX]; refine Eq.symm ?_; refine (pb h1).trans ?_; refine (pu h2).trans ?_; rfl)
  have HC1 : Hid (∀ w', GrAt w' b r → Calls Tryz.prog 121 #[.pointer (some ⟨b, 0, none⟩), .func (.func 122) #[.pointer (some ⟨b, 0, none⟩)] #[], .func (.func 123) #[.pointer (some ⟨b, 0, none⟩)] #[]] w' (RowG 72 6 ItmV w' b (l, r1))) := Lib.hid (fun w' h => by rw [← h1]; exact rowI_any b r w' h)
  have H2 := Lib.hid h2
  rw [hX]
  clear h1 h2 hX hr
  go_enter Tryz.func110, Tryz.ntmps110
  go_wp2_with fail
  refine (HC1.out _ HR.out).mono ?_
  rintro e w1 ⟨lv, rfl, hl1, hg1⟩
  obtain ⟨A1, n1, c1, rfl, u1, u2⟩ := row_form hl1
  have HL1 := Lib.hid hl1
  have HG1 := Lib.hid hg1
  clear hl1 hg1
  go_wp2_with fail
  refine (need_lit (s := wEnd) rfl HG1.out.rd (by decide) H2.out).mono ?_
  rintro e w2 ⟨rfl, hg2⟩
  have HL2 := Lib.hid (HL1.out.stay (GrTo.stay HG1.out.rd hg2) (by decide) (fun a x hx => ItmV.stay (GrTo.stay HG1.out.rd hg2) (by decide) (by decide) a x hx))
  have HG2 := Lib.hid (HG1.out.trans hg2)
  clear hg2
  go_wp2
  go_ret
  exact RowG.of HE.out HL2.out HG2.out
end Go.Proofs.YtgohhnbdicdenaaGreatDoor.Pg

/- Contracts of layer prog's reader: a contract. Conditions: a reader lies in memory. -/
namespace Go.Proofs.YtgohhnbdicdenaaGreatDoor.Pg
open Go.ChangeShapes Go.WideShapes Go.ChangeAt Go.RowKit
open Go.Proofs.YtgohhnbdicdenaaGreatDoor.Ex
open Go.Proofs.YtgohhnbdicdenaaGreatDoor.Tr (str ret_bool ret_int Bytes Nd)
set_option linter.unusedVariables false
set_option linter.unusedSimpArgs false

set_option maxRecDepth 100000 in
set_option maxHeartbeats 4000000 in
theorem contract_any (b : Nat) (r : Rd) (w : World) (hr : GrAt w b r) : Calls Tryz.prog 94 #[.pointer (some ⟨b, 0, none⟩)] w (UntG w b (contractP r)) := by
  have HR := Lib.hid hr
  have hlt := hr.lt
  have hmf : ∀ (fn : Fn) (first cap : Array Value) (w : World), (Instr.makeFunc fn first cap).run Tryz.prog w = .ok (.func fn first cap) w := fun _ _ _ _ => rfl
  obtain ⟨⟨n, r1⟩, h1⟩ : ∃ x, nameP r = x := ⟨_, rfl⟩
  obtain ⟨⟨i, r2⟩, h2⟩ : ∃ x, encP sSemi paramP r1 = x := ⟨_, rfl⟩
  obtain ⟨⟨l, r3⟩, h3⟩ : ∃ x, itemsP r2 = x := ⟨_, rfl⟩
  obtain ⟨X, hX⟩ : ∃ X, contractP r = X := ⟨_, rfl⟩
  have HE : Hid (((⟨true, n, i, ⟨[], 0⟩, [], [], l⟩ : Unt), r3) = X) := Lib.hid (by rw [← hX]; refine Eq.symm ?_; refine (pb h1).trans ?_; refine (pb h2).trans ?_; refine (pb h3).trans ?_; rfl)
  have H1 := Lib.hid h1
  have HC2 : Hid (∀ w', GrAt w' b r1 → Calls Tryz.prog 108 #[.pointer (some ⟨b, 0, none⟩), .string ⟨#[59]⟩, .func (.func 109) #[.pointer (some ⟨b, 0, none⟩)] #[]] w' (RowG 46 2 PrmV w' b (i, r2))) := Lib.hid (fun w' h => by rw [← h2]; exact encS_any b r1 w' h)
  have HC3 : Hid (∀ w', GrAt w' b r2 → Calls Tryz.prog 110 #[.pointer (some ⟨b, 0, none⟩)] w' (RowG 72 6 ItmV w' b (l, r3))) := Lib.hid (fun w' h => by rw [← h3]; exact items_any b r2 w' h)
  rw [hX]
  clear h1 h2 h3 hX hr
  have hX0 := Lib.hid (heap_alloc_new w (.cells #[.bool false, .string ⟨#[]⟩, .slice none 0 0, .string ⟨#[]⟩, .int .i64 0, .slice none 0 0, .slice none 0 0, .slice none 0 0] 50))
  go_enter Tryz.func94, Tryz.ntmps94
  go_wp2_with fail
  refine (name_lit (HR.out.below (below_new w _)) H1.out).mono ?_
  rintro e w1 ⟨rfl, hg1⟩
  have HG1 := Lib.hid (GrTo.below (below_new w _) hlt hg1)
  have x1 := hg1.block hX0.out (by omega)
  have hs1 := hg1.grown.size
  simp at hs1
  have X1 := Lib.hid x1
  clear hg1 x1
  have HG1a := Lib.hid (HG1.out.then_below (below_new w1 (.cells #[.bool true, .string (str n), .slice none 0 0, .string ⟨#[]⟩, .int .i64 0, .slice none 0 0, .slice none 0 0, .slice none 0 0] 50)))
  have X1a := Lib.hid (((below_new w1 (.cells #[.bool true, .string (str n), .slice none 0 0, .string ⟨#[]⟩, .int .i64 0, .slice none 0 0, .slice none 0 0, .slice none 0 0] 50)).block _ (lt_of_block X1.out)).trans X1.out)
  have Y1a := Lib.hid (heap_alloc_new w1 (.cells #[.bool true, .string (str n), .slice none 0 0, .string ⟨#[]⟩, .int .i64 0, .slice none 0 0, .slice none 0 0, .slice none 0 0] 50))
  have hne : w.heap.size ≠ w1.heap.size := by omega
  go_wp2_with fail
  refine (HC2.out _ HG1a.out.rd).mono ?_
  rintro e w2 ⟨iv, rfl, hi2, hg2⟩
  have HG2 := Lib.hid (HG1a.out.trans hg2)
  have x2 := hg2.block X1a.out (by omega)
  have y2 := hg2.block Y1a.out (by omega)
  have X2 := Lib.hid x2
  have Y2 := Lib.hid y2
  have lx2 := lt_of_block x2
  have ly2 := lt_of_block y2
  obtain ⟨A1, n1, c1, rfl, u1, u2⟩ := row_form hi2
  have F1_2 := Lib.hid hi2
  clear hg2 x2 y2 hi2
  have q2_2 : w2.cell? ⟨w1.heap.size, 2, none⟩ = some (.slice none 0 0) := (cell_at Y2.out 2).trans rfl
  have k2_2 : w2.frozen? ⟨w1.heap.size, 2, none⟩ = false := free_at Y2.out 2
  have Y2a : Hid ((w2.setCell ⟨w1.heap.size, 2, none⟩ (.slice A1 n1 c1)).heap[w1.heap.size]? = some (.cells #[.bool true, .string (str n), .slice A1 n1 c1, .string ⟨#[]⟩, .int .i64 0, .slice none 0 0, .slice none 0 0, .slice none 0 0] 50 (0, 0))) := Lib.hid (by have z := setObj_heap (v := .slice A1 n1 c1) Y2.out (k := 2) (by simp); simpa using z)
  have X2a := Lib.hid (set_other (k := 2) (v := .slice A1 n1 c1) X2.out hne)
  have HG2a := Lib.hid (HG2.out.setLocal (k := 2) (B := w1.heap.size) (by omega) hlt (.slice A1 n1 c1))
  have F1_2a := Lib.hid (F1_2.out.stay (Stay.set (P := fun t => t = 50) (k := 2) Y2.out rfl (.slice A1 n1 c1)) (by decide) (fun a x hx => PrmV.stay (Stay.set (P := fun t => t = 50) (k := 2) Y2.out rfl (.slice A1 n1 c1)) a x hx))
  go_wp2_with fail
  refine (HC3.out _ HG2a.out.rd).mono ?_
  rintro e w3 ⟨lv, rfl, hl3, hg3⟩
  have HG3 := Lib.hid (HG2a.out.trans hg3)
  have x3 := hg3.block X2a.out (by omega)
  have y3 := hg3.block Y2a.out (by omega)
  have X3 := Lib.hid x3
  have Y3 := Lib.hid y3
  have lx3 := lt_of_block x3
  have ly3 := lt_of_block y3
  have F1_3 := Lib.hid (F1_2a.out.stay ((GrTo.stay HG2a.out.rd hg3)) (by decide) (fun a x hx => PrmV.stay (GrTo.stay HG2a.out.rd hg3) a x hx))
  obtain ⟨A2, n2, c2, rfl, u3, u4⟩ := row_form hl3
  have F2_3 := Lib.hid hl3
  clear hg3 x3 y3 hl3
  clear q2_2 k2_2
  have q3_7 : w3.cell? ⟨w1.heap.size, 7, none⟩ = some (.slice none 0 0) := (cell_at Y3.out 7).trans rfl
  have k3_7 : w3.frozen? ⟨w1.heap.size, 7, none⟩ = false := free_at Y3.out 7
  have Y3a : Hid ((w3.setCell ⟨w1.heap.size, 7, none⟩ (.slice A2 n2 c2)).heap[w1.heap.size]? = some (.cells #[.bool true, .string (str n), .slice A1 n1 c1, .string ⟨#[]⟩, .int .i64 0, .slice none 0 0, .slice none 0 0, .slice A2 n2 c2] 50 (0, 0))) := Lib.hid (by have z := setObj_heap (v := .slice A2 n2 c2) Y3.out (k := 7) (by simp); simpa using z)
  have X3a := Lib.hid (set_other (k := 7) (v := .slice A2 n2 c2) X3.out hne)
  have HG3a := Lib.hid (HG3.out.setLocal (k := 7) (B := w1.heap.size) (by omega) hlt (.slice A2 n2 c2))
  have F1_3a := Lib.hid (F1_3.out.stay (Stay.set (P := fun t => t = 50) (k := 7) Y3.out rfl (.slice A2 n2 c2)) (by decide) (fun a x hx => PrmV.stay (Stay.set (P := fun t => t = 50) (k := 7) Y3.out rfl (.slice A2 n2 c2)) a x hx))
  have F2_3a := Lib.hid (F2_3.out.stay (Stay.set (P := fun t => t = 50) (k := 7) Y3.out rfl (.slice A2 n2 c2)) (by decide) (fun a x hx => ItmV.stay (Stay.set (P := fun t => t = 50) (k := 7) Y3.out rfl (.slice A2 n2 c2)) (by decide) (by decide) a x hx))
  have q3_0 : w3.cell? ⟨w1.heap.size, 0, none⟩ = some (.bool true) := (cell_at Y3.out 0).trans rfl
  have p0 : w3.cell? ⟨w.heap.size, 0, none⟩ = some (.bool false) := (cell_at X3.out 0).trans rfl
  have g0 : w3.frozen? ⟨w.heap.size, 0, none⟩ = false := free_at X3.out 0
  have q3_1 : w3.cell? ⟨w1.heap.size, 1, none⟩ = some (.string (str n)) := (cell_at Y3.out 1).trans rfl
  have p1 : w3.cell? ⟨w.heap.size, 1, none⟩ = some (.string ⟨#[]⟩) := (cell_at X3.out 1).trans rfl
  have g1 : w3.frozen? ⟨w.heap.size, 1, none⟩ = false := free_at X3.out 1
  have q3_2 : w3.cell? ⟨w1.heap.size, 2, none⟩ = some (.slice A1 n1 c1) := (cell_at Y3.out 2).trans rfl
  have p2 : w3.cell? ⟨w.heap.size, 2, none⟩ = some (.slice none 0 0) := (cell_at X3.out 2).trans rfl
  have g2 : w3.frozen? ⟨w.heap.size, 2, none⟩ = false := free_at X3.out 2
  have q3_3 : w3.cell? ⟨w1.heap.size, 3, none⟩ = some (.string ⟨#[]⟩) := (cell_at Y3.out 3).trans rfl
  have p3 : w3.cell? ⟨w.heap.size, 3, none⟩ = some (.string ⟨#[]⟩) := (cell_at X3.out 3).trans rfl
  have g3 : w3.frozen? ⟨w.heap.size, 3, none⟩ = false := free_at X3.out 3
  have q3_4 : w3.cell? ⟨w1.heap.size, 4, none⟩ = some (.int .i64 0) := (cell_at Y3.out 4).trans rfl
  have p4 : w3.cell? ⟨w.heap.size, 4, none⟩ = some (.int .i64 0) := (cell_at X3.out 4).trans rfl
  have g4 : w3.frozen? ⟨w.heap.size, 4, none⟩ = false := free_at X3.out 4
  have q3_5 : w3.cell? ⟨w1.heap.size, 5, none⟩ = some (.slice none 0 0) := (cell_at Y3.out 5).trans rfl
  have p5 : w3.cell? ⟨w.heap.size, 5, none⟩ = some (.slice none 0 0) := (cell_at X3.out 5).trans rfl
  have g5 : w3.frozen? ⟨w.heap.size, 5, none⟩ = false := free_at X3.out 5
  have q3_6 : w3.cell? ⟨w1.heap.size, 6, none⟩ = some (.slice none 0 0) := (cell_at Y3.out 6).trans rfl
  have p6 : w3.cell? ⟨w.heap.size, 6, none⟩ = some (.slice none 0 0) := (cell_at X3.out 6).trans rfl
  have g6 : w3.frozen? ⟨w.heap.size, 6, none⟩ = false := free_at X3.out 6
  have p7 : w3.cell? ⟨w.heap.size, 7, none⟩ = some (.slice none 0 0) := (cell_at X3.out 7).trans rfl
  have g7 : w3.frozen? ⟨w.heap.size, 7, none⟩ = false := free_at X3.out 7
  go_wp2
  have Z := blk8 X3a.out (.bool true) (.string (str n)) (.slice A1 n1 c1) (.string ⟨#[]⟩) (.int .i64 0) (.slice none 0 0) (.slice none 0 0) (.slice A2 n2 c2)
  have hsz : (w3.setCell ⟨w1.heap.size, 7, none⟩ (.slice A2 n2 c2)).heap.size ≤ (((((((((w3.setCell ⟨w1.heap.size, 7, none⟩ (.slice A2 n2 c2)).setCell ⟨w.heap.size, 0, none⟩ (.bool true)).setCell ⟨w.heap.size, 1, none⟩ (.string (str n))).setCell ⟨w.heap.size, 2, none⟩ (.slice A1 n1 c1)).setCell ⟨w.heap.size, 3, none⟩ (.string ⟨#[]⟩)).setCell ⟨w.heap.size, 4, none⟩ (.int .i64 0)).setCell ⟨w.heap.size, 5, none⟩ (.slice none 0 0)).setCell ⟨w.heap.size, 6, none⟩ (.slice none 0 0)).setCell ⟨w.heap.size, 7, none⟩ (.slice A2 n2 c2)).heap.size := by simp [World.setCell]
  have hst : Stay (fun t => t = 50) (w3.setCell ⟨w1.heap.size, 7, none⟩ (.slice A2 n2 c2)) (((((((((w3.setCell ⟨w1.heap.size, 7, none⟩ (.slice A2 n2 c2)).setCell ⟨w.heap.size, 0, none⟩ (.bool true)).setCell ⟨w.heap.size, 1, none⟩ (.string (str n))).setCell ⟨w.heap.size, 2, none⟩ (.slice A1 n1 c1)).setCell ⟨w.heap.size, 3, none⟩ (.string ⟨#[]⟩)).setCell ⟨w.heap.size, 4, none⟩ (.int .i64 0)).setCell ⟨w.heap.size, 5, none⟩ (.slice none 0 0)).setCell ⟨w.heap.size, 6, none⟩ (.slice none 0 0)).setCell ⟨w.heap.size, 7, none⟩ (.slice A2 n2 c2)) := Stay.sets X3a.out rfl hsz (fun g hg => by simp only [set_ne hg])
  have z0 := (cell_at Z 0).trans (show _ = some (.bool true) from rfl)
  have z1 := (cell_at Z 1).trans (show _ = some (.string (str n)) from rfl)
  have z2 := (cell_at Z 2).trans (show _ = some (.slice A1 n1 c1) from rfl)
  have z3 := (cell_at Z 3).trans (show _ = some (.string ⟨#[]⟩) from rfl)
  have z4 := (cell_at Z 4).trans (show _ = some (.int .i64 0) from rfl)
  have z5 := (cell_at Z 5).trans (show _ = some (.slice none 0 0) from rfl)
  have z6 := (cell_at Z 6).trans (show _ = some (.slice none 0 0) from rfl)
  have z7 := (cell_at Z 7).trans (show _ = some (.slice A2 n2 c2) from rfl)
  clear p0 g0 p1 g1 p2 g2 p3 g3 p4 g4 p5 g5 p6 g6 p7 g7 q3_7 k3_7 q3_0 q3_1 q3_2 q3_3 q3_4 q3_5 q3_6
  exact bodyPost_ret (v := .agg #[.bool true, .string (str n), .slice A1 n1 c1, .string ⟨#[]⟩, .int .i64 0, .slice none 0 0, .slice none 0 0, .slice A2 n2 c2]) (by simp [results, Tryz.results94, go_sem, z0, z1, z2, z3, z4, z5, z6, z7]) rfl (UntG.of HE.out (F1_3a.out.stay hst (by decide) (fun a x hx => PrmV.stay hst a x hx)) (RowR.nil _ _ _ _) (RowR.nil _ _ _ _) (F2_3a.out.stay hst (by decide) (fun a x hx => ItmV.stay hst (by decide) (by decide) a x hx)) ((((((((HG3a.out.setLocal (by omega) hlt _).setLocal (by omega) hlt _).setLocal (by omega) hlt _).setLocal (by omega) hlt _).setLocal (by omega) hlt _).setLocal (by omega) hlt _).setLocal (by omega) hlt _).setLocal (by omega) hlt _))
end Go.Proofs.YtgohhnbdicdenaaGreatDoor.Pg

