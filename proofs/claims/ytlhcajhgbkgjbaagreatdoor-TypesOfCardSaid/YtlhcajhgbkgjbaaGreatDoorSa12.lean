/- Contracts of the document's reader of programs: an item. Conditions: a reader lies in memory. -/
import Derived.Test.YtlhcajhgbkgjbaaGreatDoorSa10
import Derived.Test.YtlhcajhgbkgjbaaGreatDoorSa11
import Derived.Test.YtlhcajhgbkgjbaaGreatDoorSa09
set_option linter.unusedVariables false
set_option linter.unusedSimpArgs false
namespace Go.Proofs.YtlhcajhgbkgjbaaGreatDoor.Rp
open Go.ChangeShapes Go.WideShapes Go.ChangeAt Go.RowKit
open Ex
open Tr (str ka1 ka6 Bytes Nd)
open Pg
set_option maxRecDepth 100000 in
set_option maxHeartbeats 8000000 in
theorem kiw (b : Nat) (r : Rd) (w : World) (hr : RdIn w b r) (n : Bytes) (l : List (List Nd)) (r0 r1 r2 r3 : Rd) (X : Option Itm × Rd) (t1 : kau kaS r = (false, r)) (t2 : kau kas r = (false, r)) (t3 : kau kc7 r = (false, r)) (t4 : kau kep r = (false, r)) (t5 : kau kcw r = (true, r0)) (h1 : kbz r0 = (n, r1)) (h2 : inQ kcr kbj r1 = (l, r2)) (h3 : (kaj kaM r2).2 = r3) (he : (some (⟨5, n, 0, [], [], l⟩ : Itm), r3) = X) : Calls Tryz.prog 89 #[.pointer (some ⟨b, 0, none⟩)] w (ItmO w b X) := by
 have HR := Lib.hid hr
 have hlt := hr.lt
 have HE := Lib.hid he
 have T1 := Lib.hid t1
 have T2 := Lib.hid t2
 have T3 := Lib.hid t3
 have T4 := Lib.hid t4
 have T5 := Lib.hid t5
 have H1 := Lib.hid h1
 have HC2 : Hid (∀ w', RdIn w' b r1 -> Calls Tryz.prog 106 #[.pointer (some ⟨b, 0, none⟩)] w' (RowG 23 1 ExpV w' b (l, r2))) := Lib.hid (fun w' h => by rw [<- h2]; exact kek b r1 w' h)
 have H3 := Lib.hid h3
 clear t1 t2 t3 t4 t5 h1 h2 h3 he hr
 have hBW : Below w.heap.size w ((w.alloc (.cells #[.int .i64 0, .string ⟨#[]⟩, .int .i64 0, .slice none 0 0, .slice none 0 0, .slice none 0 0] 58)).alloc (.cells #[.int .i64 0, .string ⟨#[]⟩, .int .i64 0, .slice none 0 0, .slice none 0 0, .slice none 0 0] 58)) := (below_new w _).alloc (below_new w _).size _
 have X0 : Hid (((w.alloc (.cells #[.int .i64 0, .string ⟨#[]⟩, .int .i64 0, .slice none 0 0, .slice none 0 0, .slice none 0 0] 58)).alloc (.cells #[.int .i64 0, .string ⟨#[]⟩, .int .i64 0, .slice none 0 0, .slice none 0 0, .slice none 0 0] 58)).heap[w.heap.size]? = some (.cells #[.int .i64 0, .string ⟨#[]⟩, .int .i64 0, .slice none 0 0, .slice none 0 0, .slice none 0 0] 58 (0, 0))) := Lib.hid (kdE (heap_alloc_new w _))
 have Y0 : Hid (((w.alloc (.cells #[.int .i64 0, .string ⟨#[]⟩, .int .i64 0, .slice none 0 0, .slice none 0 0, .slice none 0 0] 58)).alloc (.cells #[.int .i64 0, .string ⟨#[]⟩, .int .i64 0, .slice none 0 0, .slice none 0 0, .slice none 0 0] 58)).heap[w.heap.size + 1]? = some (.cells #[.int .i64 0, .string ⟨#[]⟩, .int .i64 0, .slice none 0 0, .slice none 0 0, .slice none 0 0] 58 (0, 0))) := Lib.hid (kbo (by simp))
 have HG0 := Lib.hid (RdBy.of_below HR.out hBW)
 have hne : w.heap.size ≠ w.heap.size + 1 := by omega
 clear hBW
 go_enter Tryz.func89, Tryz.ntmps89
 go_wp2_with fail
 refine (kac (s := kaS) rfl HG0.out.rd T1.out).mono ?_
 rintro e w1 ⟨rfl, hg1⟩
 have HG1 := Lib.hid (HG0.out.trans hg1)
 have x1 := hg1.block X0.out (by omega)
 have y1 := hg1.block Y0.out (by omega)
 have X1 := Lib.hid x1
 have Y1 := Lib.hid y1
 have lx1 := lt_of_block x1
 have ly1 := lt_of_block y1
 clear hg1 x1 y1
 go_wp2_with fail
 refine (kac (s := kas) rfl HG1.out.rd T2.out).mono ?_
 rintro e w2 ⟨rfl, hg2⟩
 have HG2 := Lib.hid (HG1.out.trans hg2)
 have x2 := hg2.block X1.out (by omega)
 have y2 := hg2.block Y1.out (by omega)
 have X2 := Lib.hid x2
 have Y2 := Lib.hid y2
 have lx2 := lt_of_block x2
 have ly2 := lt_of_block y2
 clear hg2 x2 y2
 go_wp2_with fail
 refine (kac (s := kc7) rfl HG2.out.rd T3.out).mono ?_
 rintro e w3 ⟨rfl, hg3⟩
 have HG3 := Lib.hid (HG2.out.trans hg3)
 have x3 := hg3.block X2.out (by omega)
 have y3 := hg3.block Y2.out (by omega)
 have X3 := Lib.hid x3
 have Y3 := Lib.hid y3
 have lx3 := lt_of_block x3
 have ly3 := lt_of_block y3
 clear hg3 x3 y3
 go_wp2_with fail
 refine (kac (s := kep) rfl HG3.out.rd T4.out).mono ?_
 rintro e w4 ⟨rfl, hg4⟩
 have HG4 := Lib.hid (HG3.out.trans hg4)
 have x4 := hg4.block X3.out (by omega)
 have y4 := hg4.block Y3.out (by omega)
 have X4 := Lib.hid x4
 have Y4 := Lib.hid y4
 have lx4 := lt_of_block x4
 have ly4 := lt_of_block y4
 clear hg4 x4 y4
 go_wp2_with fail
 refine (kac (s := kcw) rfl HG4.out.rd T5.out).mono ?_
 rintro e w5 ⟨rfl, hg5⟩
 have HG5 := Lib.hid (HG4.out.trans hg5)
 have x5 := hg5.block X4.out (by omega)
 have y5 := hg5.block Y4.out (by omega)
 have X5 := Lib.hid x5
 have Y5 := Lib.hid y5
 have lx5 := lt_of_block x5
 have ly5 := lt_of_block y5
 clear hg5 x5 y5
 have q5_0 : w5.cell? ⟨w.heap.size + 1, 0, none⟩ = some (.int .i64 0) := (ka0 Y5.out 0).trans rfl
 have k5_0 : w5.frozen? ⟨w.heap.size + 1, 0, none⟩ = false := free_at Y5.out 0
 have Y5a : Hid ((w5.setCell ⟨w.heap.size + 1, 0, none⟩ (.int .i64 5)).heap[w.heap.size + 1]? = some (.cells #[.int .i64 5, .string ⟨#[]⟩, .int .i64 0, .slice none 0 0, .slice none 0 0, .slice none 0 0] 58 (0, 0))) := Lib.hid (by have z := ka2 (v := .int .i64 5) Y5.out (k := 0) (by simp); simpa using z)
 have X5a := Lib.hid (ka7 (k := 0) (v := .int .i64 5) X5.out hne)
 have HG5a := Lib.hid (HG5.out.setLocal (k := 0) (B := w.heap.size + 1) (by omega) hlt (.int .i64 5))
 go_wp2_with fail
 refine (kbW HG5a.out.rd H1.out).mono ?_
 rintro e w6 ⟨rfl, hg6⟩
 have HG6 := Lib.hid (HG5a.out.trans hg6)
 have x6 := hg6.block X5a.out (by omega)
 have y6 := hg6.block Y5a.out (by omega)
 have X6 := Lib.hid x6
 have Y6 := Lib.hid y6
 have lx6 := lt_of_block x6
 have ly6 := lt_of_block y6
 clear hg6 x6 y6
 clear q5_0 k5_0
 have q6_1 : w6.cell? ⟨w.heap.size + 1, 1, none⟩ = some (.string ⟨#[]⟩) := (ka0 Y6.out 1).trans rfl
 have k6_1 : w6.frozen? ⟨w.heap.size + 1, 1, none⟩ = false := free_at Y6.out 1
 have Y6a : Hid ((w6.setCell ⟨w.heap.size + 1, 1, none⟩ (.string (str n))).heap[w.heap.size + 1]? = some (.cells #[.int .i64 5, .string (str n), .int .i64 0, .slice none 0 0, .slice none 0 0, .slice none 0 0] 58 (0, 0))) := Lib.hid (by have z := ka2 (v := .string (str n)) Y6.out (k := 1) (by simp); simpa using z)
 have X6a := Lib.hid (ka7 (k := 1) (v := .string (str n)) X6.out hne)
 have HG6a := Lib.hid (HG6.out.setLocal (k := 1) (B := w.heap.size + 1) (by omega) hlt (.string (str n)))
 go_wp2_with fail
 refine (HC2.out _ HG6a.out.rd).mono ?_
 rintro e w7 ⟨av, rfl, hl7, hg7⟩
 have HG7 := Lib.hid (HG6a.out.trans hg7)
 have x7 := hg7.block X6a.out (by omega)
 have y7 := hg7.block Y6a.out (by omega)
 have X7 := Lib.hid x7
 have Y7 := Lib.hid y7
 have lx7 := lt_of_block x7
 have ly7 := lt_of_block y7
 obtain ⟨A1, n1, c1, rfl, u1, v1⟩ := kan hl7
 have F1_7 := Lib.hid hl7
 clear hg7 x7 y7 hl7
 clear q6_1 k6_1
 have q7_5 : w7.cell? ⟨w.heap.size + 1, 5, none⟩ = some (.slice none 0 0) := (ka0 Y7.out 5).trans rfl
 have k7_5 : w7.frozen? ⟨w.heap.size + 1, 5, none⟩ = false := free_at Y7.out 5
 have Y7a : Hid ((w7.setCell ⟨w.heap.size + 1, 5, none⟩ (.slice A1 n1 c1)).heap[w.heap.size + 1]? = some (.cells #[.int .i64 5, .string (str n), .int .i64 0, .slice none 0 0, .slice none 0 0, .slice A1 n1 c1] 58 (0, 0))) := Lib.hid (by have z := ka2 (v := .slice A1 n1 c1) Y7.out (k := 5) (by simp); simpa using z)
 have X7a := Lib.hid (ka7 (k := 5) (v := .slice A1 n1 c1) X7.out hne)
 have HG7a := Lib.hid (HG7.out.setLocal (k := 5) (B := w.heap.size + 1) (by omega) hlt (.slice A1 n1 c1))
 have F1_7a := Lib.hid (F1_7.out.stay (ka4 (P := fun t => t = 58) (k := 5) Y7.out rfl (.slice A1 n1 c1)) (by decide) (fun a x hx => ExpV.stay (ka4 (P := fun t => t = 58) (k := 5) Y7.out rfl (.slice A1 n1 c1)) (by decide) a x hx))
 go_wp2_with fail
 refine (kad (s := kaM) rfl HG7a.out.rd H3.out).mono ?_
 rintro e w8 ⟨rfl, hg8⟩
 have HG8 := Lib.hid (HG7a.out.trans hg8)
 have x8 := hg8.block X7a.out (by omega)
 have y8 := hg8.block Y7a.out (by omega)
 have X8 := Lib.hid x8
 have Y8 := Lib.hid y8
 have lx8 := lt_of_block x8
 have ly8 := lt_of_block y8
 have F1_8 := Lib.hid (F1_7a.out.stay (RdBy.stay HG7a.out.rd hg8) (by decide) (fun a x hx => ExpV.stay (RdBy.stay HG7a.out.rd hg8) (by decide) a x hx))
 clear hg8 x8 y8
 clear q7_5 k7_5
 have q8_0 : w8.cell? ⟨w.heap.size + 1, 0, none⟩ = some (.int .i64 5) := (ka0 Y8.out 0).trans rfl
 have p0 : w8.cell? ⟨w.heap.size, 0, none⟩ = some (.int .i64 0) := (ka0 X8.out 0).trans rfl
 have g0 : w8.frozen? ⟨w.heap.size, 0, none⟩ = false := free_at X8.out 0
 have q8_1 : w8.cell? ⟨w.heap.size + 1, 1, none⟩ = some (.string (str n)) := (ka0 Y8.out 1).trans rfl
 have p1 : w8.cell? ⟨w.heap.size, 1, none⟩ = some (.string ⟨#[]⟩) := (ka0 X8.out 1).trans rfl
 have g1 : w8.frozen? ⟨w.heap.size, 1, none⟩ = false := free_at X8.out 1
 have q8_2 : w8.cell? ⟨w.heap.size + 1, 2, none⟩ = some (.int .i64 0) := (ka0 Y8.out 2).trans rfl
 have p2 : w8.cell? ⟨w.heap.size, 2, none⟩ = some (.int .i64 0) := (ka0 X8.out 2).trans rfl
 have g2 : w8.frozen? ⟨w.heap.size, 2, none⟩ = false := free_at X8.out 2
 have q8_3 : w8.cell? ⟨w.heap.size + 1, 3, none⟩ = some (.slice none 0 0) := (ka0 Y8.out 3).trans rfl
 have p3 : w8.cell? ⟨w.heap.size, 3, none⟩ = some (.slice none 0 0) := (ka0 X8.out 3).trans rfl
 have g3 : w8.frozen? ⟨w.heap.size, 3, none⟩ = false := free_at X8.out 3
 have q8_4 : w8.cell? ⟨w.heap.size + 1, 4, none⟩ = some (.slice none 0 0) := (ka0 Y8.out 4).trans rfl
 have p4 : w8.cell? ⟨w.heap.size, 4, none⟩ = some (.slice none 0 0) := (ka0 X8.out 4).trans rfl
 have g4 : w8.frozen? ⟨w.heap.size, 4, none⟩ = false := free_at X8.out 4
 have q8_5 : w8.cell? ⟨w.heap.size + 1, 5, none⟩ = some (.slice A1 n1 c1) := (ka0 Y8.out 5).trans rfl
 have p5 : w8.cell? ⟨w.heap.size, 5, none⟩ = some (.slice none 0 0) := (ka0 X8.out 5).trans rfl
 have g5 : w8.frozen? ⟨w.heap.size, 5, none⟩ = false := free_at X8.out 5
 go_wp2
 have Z := blk6 X8.out (.int .i64 5) (.string (str n)) (.int .i64 0) (.slice none 0 0) (.slice none 0 0) (.slice A1 n1 c1)
 have hsz : w8.heap.size <= ((((((w8.setCell ⟨w.heap.size, 0, none⟩ (.int .i64 5)).setCell ⟨w.heap.size, 1, none⟩ (.string (str n))).setCell ⟨w.heap.size, 2, none⟩ (.int .i64 0)).setCell ⟨w.heap.size, 3, none⟩ (.slice none 0 0)).setCell ⟨w.heap.size, 4, none⟩ (.slice none 0 0)).setCell ⟨w.heap.size, 5, none⟩ (.slice A1 n1 c1)).heap.size := by simp [World.setCell]
 have hst : Stay (fun t => t = 58) w8 ((((((w8.setCell ⟨w.heap.size, 0, none⟩ (.int .i64 5)).setCell ⟨w.heap.size, 1, none⟩ (.string (str n))).setCell ⟨w.heap.size, 2, none⟩ (.int .i64 0)).setCell ⟨w.heap.size, 3, none⟩ (.slice none 0 0)).setCell ⟨w.heap.size, 4, none⟩ (.slice none 0 0)).setCell ⟨w.heap.size, 5, none⟩ (.slice A1 n1 c1)) := kbh X8.out rfl hsz (fun g hg => by simp only [kbO hg])
 have z0 := (ka0 Z 0).trans (show _ = some (.int .i64 5) from rfl)
 have z1 := (ka0 Z 1).trans (show _ = some (.string (str n)) from rfl)
 have z2 := (ka0 Z 2).trans (show _ = some (.int .i64 0) from rfl)
 have z3 := (ka0 Z 3).trans (show _ = some (.slice none 0 0) from rfl)
 have z4 := (ka0 Z 4).trans (show _ = some (.slice none 0 0) from rfl)
 have z5 := (ka0 Z 5).trans (show _ = some (.slice A1 n1 c1) from rfl)
 clear p0 g0 p1 g1 p2 g2 p3 g3 p4 g4 p5 g5 q8_0 q8_1 q8_2 q8_3 q8_4 q8_5
 exact bodyPost_ret (v := .tuple #[.agg #[.int .i64 5, .string (str n), .int .i64 0, .slice none 0 0, .slice none 0 0, .slice A1 n1 c1], .bool true]) (by simp [results, Tryz.results89, go_sem, z0, z1, z2, z3, z4, z5]) rfl (ItmO.of HE.out (PtW.nil _ _ rfl) (PtW.nil _ _ rfl) (F1_8.out.stay hst (by decide) (fun a x hx => ExpV.stay hst (by decide) a x hx)) ((((((HG8.out.setLocal (by omega) hlt _).setLocal (by omega) hlt _).setLocal (by omega) hlt _).setLocal (by omega) hlt _).setLocal (by omega) hlt _).setLocal (by omega) hlt _))
end Go.Proofs.YtlhcajhgbkgjbaaGreatDoor.Rp

/- Contracts of the document's reader of programs: an item. Conditions: a reader lies in memory. -/
namespace Go.Proofs.YtlhcajhgbkgjbaaGreatDoor.Rp
open Go.ChangeShapes Go.WideShapes Go.ChangeAt Go.RowKit
open Ex
open Tr (str ka1 ka6 Bytes Nd)
open Pg
theorem kaG {s : Bytes} {r : Rd} (h : r.isB s = false) : kau s r = (false, r) := by unfold kau; rw [h]; rfl
theorem kdb {s : Bytes} {r : Rd} (h : r.isB s = true) : kau s r = (true, r.adv) := by unfold kau; rw [h]; rfl
theorem kgv (b : Nat) (r : Rd) (w : World) (hr : RdIn w b r) : Calls Tryz.prog 89 #[.pointer (some ⟨b, 0, none⟩)] w (ItmO w b (kfk r)) := by
 have hq : kfk r = if kaZ r = 0 then (none, r) else kar (kbI (kaZ r)) (fun i => kbf (some i)) r.adv := rfl
 rcases Bool.eq_false_or_eq_true (r.isB kaS) with a1 | a1
 · have hk : kaZ r = 1 := by unfold kaZ; rw [a1]; rfl
   obtain ⟨⟨E, r1⟩, h1⟩ : ∃ x, kbj r.adv = x := ⟨_, rfl⟩
   refine kix b r w hr E r.adv r1 _ _ (kdb a1) h1 rfl ?_
   rw [hq, hk, if_neg (by decide)]
   refine Eq.symm ?_
   refine (pb (show kbI 1 r.adv = (⟨1, [], 0, E, [], []⟩, _) from ?_)).trans rfl
   unfold kbI
   rw [if_neg (by decide), if_neg (by decide), if_neg (by decide), pb h1]; rfl
 rcases Bool.eq_false_or_eq_true (r.isB kas) with a2 | a2
 · have hk : kaZ r = 2 := by unfold kaZ; rw [a1, a2]; rfl
   obtain ⟨⟨E, r1⟩, h1⟩ : ∃ x, kbj r.adv = x := ⟨_, rfl⟩
   refine kfD b r w hr E r.adv r1 _ _ (kaG a1) (kdb a2) h1 rfl ?_
   rw [hq, hk, if_neg (by decide)]
   refine Eq.symm ?_
   refine (pb (show kbI 2 r.adv = (⟨2, [], 0, E, [], []⟩, _) from ?_)).trans rfl
   unfold kbI
   rw [if_neg (by decide), if_neg (by decide), if_neg (by decide), pb h1]; rfl
 rcases Bool.eq_false_or_eq_true (r.isB kc7) with a3 | a3
 · have hk : kaZ r = 3 := by unfold kaZ; rw [a1, a2, a3]; rfl
   obtain ⟨⟨⟨pn, pt⟩, r1⟩, h1⟩ : ∃ x, kaK r.adv = x := ⟨_, rfl⟩
   obtain ⟨r2, h2⟩ : ∃ x, (kaj sEq r1).2 = x := ⟨_, rfl⟩
   obtain ⟨⟨E, r3⟩, h3⟩ : ∃ x, kbj r2 = x := ⟨_, rfl⟩
   refine kkj b r w hr pn pt E r.adv r1 r2 r3 _ _ (kaG a1) (kaG a2) (kdb a3) h1 h2 h3 rfl ?_
   rw [hq, hk, if_neg (by decide)]
   refine Eq.symm ?_
   refine (pb (show kbI 3 r.adv = (⟨3, pn, pt, E, [], []⟩, _) from ?_)).trans rfl
   unfold kbI
   rw [if_pos rfl, pb h1, pu h2, pb h3]; rfl
 rcases Bool.eq_false_or_eq_true (r.isB kep) with a4 | a4
 · have hk : kaZ r = 4 := by unfold kaZ; rw [a1, a2, a3, a4]; rfl
   obtain ⟨⟨n, r1⟩, h1⟩ : ∃ x, kbz r.adv = x := ⟨_, rfl⟩
   obtain ⟨r2, h2⟩ : ∃ x, (kaj kdT r1).2 = x := ⟨_, rfl⟩
   obtain ⟨⟨E, r3⟩, h3⟩ : ∃ x, kbj r2 = x := ⟨_, rfl⟩
   obtain ⟨r4, h4⟩ : ∃ x, (kaj keW r3).2 = x := ⟨_, rfl⟩
   obtain ⟨⟨F, r5⟩, h5⟩ : ∃ x, kbj r4 = x := ⟨_, rfl⟩
   refine km2 b r w hr n E F r.adv r1 r2 r3 r4 r5 _ _ (kaG a1) (kaG a2) (kaG a3) (kdb a4) h1 h2 h3 h4 h5 rfl ?_
   rw [hq, hk, if_neg (by decide)]
   refine Eq.symm ?_
   refine (pb (show kbI 4 r.adv = (⟨4, n, 0, E, F, []⟩, _) from ?_)).trans rfl
   unfold kbI
   rw [if_neg (by decide), if_pos rfl, pb h1, pu h2, pb h3, pu h4, pb h5]; rfl
 rcases Bool.eq_false_or_eq_true (r.isB kcw) with a5 | a5
 · have hk : kaZ r = 5 := by unfold kaZ; rw [a1, a2, a3, a4, a5]; rfl
   obtain ⟨⟨n, r1⟩, h1⟩ : ∃ x, kbz r.adv = x := ⟨_, rfl⟩
   obtain ⟨⟨l, r2⟩, h2⟩ : ∃ x, inQ kcr kbj r1 = x := ⟨_, rfl⟩
   refine kiw b r w hr n l r.adv r1 r2 _ _ (kaG a1) (kaG a2) (kaG a3) (kaG a4) (kdb a5) h1 h2 rfl ?_
   rw [hq, hk, if_neg (by decide)]
   refine Eq.symm ?_
   refine (pb (show kbI 5 r.adv = (⟨5, n, 0, [], [], l⟩, _) from ?_)).trans rfl
   unfold kbI
   rw [if_neg (by decide), if_neg (by decide), if_pos rfl, pb h1, pb h2]; rfl
 · have hk : kaZ r = 0 := by unfold kaZ; rw [a1, a2, a3, a4, a5]; rfl
   exact km1 b r w hr _ (kaG a1) (kaG a2) (kaG a3) (kaG a4) (kaG a5) (by rw [hq, hk]; rfl)
end Go.Proofs.YtlhcajhgbkgjbaaGreatDoor.Rp

/- Contracts of the document's reader of programs: items. Conditions: a reader lies in memory. -/
namespace Go.Proofs.YtlhcajhgbkgjbaaGreatDoor.Rp
open Go.ChangeShapes Go.WideShapes Go.ChangeAt Go.RowKit
open Ex
open Tr (str ka1 ka6 Bytes Nd)
open Pg
theorem khk : (Tryz.prog.info? 58).map (fun i => (i.zero, i.size, i.bytes)) = some (some (.agg #[.int .i64 0, .string ⟨#[]⟩, .int .i64 0, .slice none 0 0, .slice none 0 0, .slice none 0 0]), 6, 104) := by kernel_rfl
set_option maxRecDepth 100000 in
set_option maxHeartbeats 8000000 in
theorem kfj (b : Nat) (r : Rd) (w : World) (hr : RdIn w b r) : Calls Tryz.prog 60 #[.pointer (some ⟨b, 0, none⟩)] w (RowG 58 6 ItmV w b (kct r)) := by
 have HR := Lib.hid hr
 have hlt := hr.lt
 obtain ⟨i0, hi, hz0, hz1, hz2⟩ := info_parts khk
 obtain ⟨⟨l, re⟩, hX⟩ : ∃ X, itF kaH [] r = X := ⟨_, rfl⟩
 obtain ⟨rz, hz⟩ : ∃ x, (kaj wEnd re).2 = x := ⟨_, rfl⟩
 have hX' : kct r = (l, rz) := by unfold kct; rw [pb hX, pu hz]; rfl
 obtain ⟨X, hXX⟩ : ∃ X, ((l, re) : List Itm × Rd) = X := ⟨_, rfl⟩
 have HE0 : Hid (itF kaH [] r = X) := Lib.hid (hX.trans hXX)
 have HXX := Lib.hid hXX
 have HZ := Lib.hid hz
 rw [hX']
 clear hX hX' hXX hz hr
 go_enter Tryz.func60, Tryz.ntmps60
 go_wp2
 go_loopg [3] kaH (fun g s3 wr => ∃ (rr : Rd) (ov : Value) (acc : List (Itm)) (xs : List (List Value)), ov = s3 /\ acc.length <= 201 /\ 1 <= g /\ (rr.code = 0 -> acc.length <= 200 /\ 202 <= acc.length + g) /\ OList 58 6 ItmV wr w.heap.size ov acc xs /\ RdBy w wr b rr /\ itF g acc rr = X)
 case atStart => exact ⟨r, _, [], [], rfl, by simp, by simp [kaH], fun _ => by simp [kaH], OList.nil _ _, (RdBy.refl HR.out), HE0.out⟩
 case round =>
  obtain ⟨rr, ov, acc, xs, hov, ha, hg1, hag, hol, hgr, hrow⟩ := hrel
  subst hov
  have HOL := Lib.hid hol
  have HGR := Lib.hid hgr
  have HROW := Lib.hid hrow
  obtain ⟨A0, c0, hv0, hn1, hn2⟩ := kbC hol.own
  subst hv0
  have hs0 := hgr.grown.size
  clear hol hgr hrow
  cases gk with
  | zero => omega
  | succ gk =>
  obtain ⟨B, hB⟩ : ∃ B, decide (kaZ rr ≠ 0) = B := ⟨_, rfl⟩
  have HB := Lib.hid (kkv HGR.out.rd hB)
  cases B with
  | false =>
   have hk : kaZ rr = 0 := by simpa using hB
   have HE : Hid ((acc, rr) = X) := Lib.hid ((ko0 hk).symm.trans HROW.out)
   clear hk hB
   go_wp2_with fail
   refine HB.out.mono ?_
   rintro e w1 ⟨rfl, hb1⟩
   have HG1 := Lib.hid (HGR.out.then_below hb1)
   have HOL1 := Lib.hid (HOL.out.stay (Stay.below (P := fun t => t = 93) hb1) (by decide) (fun a x hx => ItmV.stay (Stay.below (P := fun t => t = 93) hb1) (by decide) (by decide) a x hx))
   clear hb1
   obtain ⟨rfl, rfl⟩ : l = acc /\ re = rr := by have z := HXX.out.trans HE.out.symm; injection z with z1 z2; exact ⟨z1, z2⟩
   go_wp2_with fail
   refine (kad (s := wEnd) rfl HG1.out.rd HZ.out).mono ?_
   rintro e w2 ⟨rfl, hg2⟩
   have HG2 := Lib.hid (HG1.out.trans hg2)
   have HOL2 := Lib.hid (HOL1.out.stay (RdBy.stay HG1.out.rd hg2) (by decide) (fun a x hx => ItmV.stay (RdBy.stay HG1.out.rd hg2) (by decide) (by decide) a x hx))
   clear hg2
   go_wp2
   go_ret
   exact ⟨_, rfl, HOL2.out.row, HG2.out⟩
  | true =>
  have hk : kaZ rr ≠ 0 := by simpa using hB
  have hc : rr.code = 0 := HGR.out.rd.alive (klU hk)
  have hag' := hag hc
  obtain ⟨r1, k1⟩ : ∃ x, (kby acc.length rr).2 = x := ⟨_, rfl⟩
  have HK1 : Hid (∀ w', RdIn w' b rr -> Calls Tryz.prog 42 #[.pointer (some ⟨b, 0, none⟩), .int .i64 (acc.length : Int)] w' (fun e w'' => e = .returned (.tuple #[]) /\ RdBy w' w'' b r1)) := Lib.hid (fun w' h => kdo (n := acc.length) (by omega) h k1)
  obtain ⟨⟨x, r2⟩, k2⟩ : ∃ x, kfk r1 = x := ⟨_, rfl⟩
  have HO : Hid (∀ w', RdIn w' b r1 -> Calls Tryz.prog 89 #[.pointer (some ⟨b, 0, none⟩)] w' (ItmO w' b (x, r2))) := Lib.hid (fun w' h => by rw [<- k2]; exact kgv b r1 w' h)
  have HE : Hid (itF gk (acc ++ x.toList) r2 = X) := Lib.hid ((ko1 hk k1 k2).symm.trans HROW.out)
  have HST : Hid (r2.code = 0 -> acc.length < 200) := Lib.hid (fun h => kc0 k1 (Classical.byContradiction fun hn => by
   have s1 := ker r1 hn
   rw [k2] at s1
   exact s1 h))
  have HSN : Hid (x ≠ none -> acc.length < 200) := Lib.hid (fun h => kc0 k1 (Classical.byContradiction fun hn => h (by
   have := km3 (koX HGR.out.rd k1) hn
   rw [k2] at this; exact this)))
  have HSX : Hid (x = none -> r2.code ≠ 0) := Lib.hid (fun hx hc2 => by
   have h1 : r1.code = 0 := Classical.byContradiction fun hn => by
    have s1 := ker r1 hn
    rw [k2] at s1
    exact s1 hc2
   have h2 := kc0 k1 h1
   have h3 : rr = r1 := by rw [<- k1]; unfold kby; simp only; rw [if_neg (by omega)]
   have h4 : (kfk rr).1 ≠ none := by unfold kfk; rw [if_neg hk]; unfold kar kbf; simp
   rw [h3, k2] at h4
   exact h4 hx)
  clear k1 k2 hc hk hB hag
  go_wp2_with fail
  refine HB.out.mono ?_
  rintro e w0 ⟨rfl, hb0⟩
  have HG0 := Lib.hid (HGR.out.then_below hb0)
  have hsb := hb0.size
  have HOL0 := Lib.hid (HOL.out.stay (Stay.below (P := fun t => t = 93) hb0) (by decide) (fun a x hx => ItmV.stay (Stay.below (P := fun t => t = 93) hb0) (by decide) (by decide) a x hx))
  clear hb0
  go_wp2_with fail
  refine (HK1.out w0 HG0.out.rd).mono ?_
  rintro e w1 ⟨rfl, hg1⟩
  have HG1 := Lib.hid (HG0.out.trans hg1)
  have hs1 := hg1.grown.size
  have HOL1 := Lib.hid (HOL0.out.stay (RdBy.stay HG0.out.rd hg1) (by decide) (fun a x hx => ItmV.stay (RdBy.stay HG0.out.rd hg1) (by decide) (by decide) a x hx))
  clear hg1
  go_wp2_with fail
  refine (HO.out w1 HG1.out.rd).mono ?_
  rintro e w2 ⟨i, ev, fv, av, hx, rfl, hp, hq, hl, hg2⟩
  have HG2 := Lib.hid (HG1.out.trans hg2)
  have hs2 := hg2.grown.size
  have HOL2 := Lib.hid (HOL1.out.stay (RdBy.stay HG1.out.rd hg2) (by decide) (fun a x hx => ItmV.stay (RdBy.stay HG1.out.rd hg2) (by decide) (by decide) a x hx))
  clear hg2
  obtain ⟨A2, n2, c2, rfl, y1, y2⟩ := kcy hp
  obtain ⟨A4, n4, c4, rfl, y11, y12⟩ := kcy hq
  obtain ⟨A5, n5, c5, rfl, y13, y14⟩ := kan hl
  have HXV : Hid (ItmV w2 i [.int .i64 i.kind, .string (str i.name), .int .i64 i.ty, .slice A2 n2 c2, .slice A4 n4 c4, .slice A5 n5 c5]) := Lib.hid ⟨_, _, _, rfl, hp, hq, hl⟩
  have HX := Lib.hid hx
  clear hp hq hl hx
  obtain ⟨wx, hwx⟩ : ∃ W, w2.alloc (.cells #[.int .i64 i.kind, .string (str i.name), .int .i64 i.ty, .slice A2 n2 c2, .slice A4 n4 c4, .slice A5 n5 c5] 58) = W := ⟨_, rfl⟩
  have hbx : Below w2.heap.size w2 wx := hwx ▸ below_new w2 _
  have HGX := Lib.hid (HG2.out.then_below hbx)
  have HOLX := Lib.hid (HOL2.out.stay (Stay.below (P := fun t => t = 93) hbx) (by decide) (fun a x hx => ItmV.stay (Stay.below (P := fun t => t = 93) hbx) (by decide) (by decide) a x hx))
  have HXVX := Lib.hid (ItmV.stay (Stay.below (P := fun t => t = 93) hbx) (by decide) (by decide) _ _ HXV.out)
  have hsx := hbx.size
  have hIX : wx.heap[w2.heap.size]? = some (.cells #[.int .i64 i.kind, .string (str i.name), .int .i64 i.ty, .slice A2 n2 c2, .slice A4 n4 c4, .slice A5 n5 c5] 58 (0, 0)) := hwx ▸ heap_alloc_new w2 _
  have HIX := Lib.hid hIX
  clear hIX
  clear hbx
  cases x with
  | none =>
   have HE1 : Hid (itF gk (acc ++ ([] : List Itm)) r2 = X) := Lib.hid HE.out
   go_wp2
   go_roundg gk
   case measure => omega
   case rel => exact ⟨r2, _, acc, xs, rfl, by omega, by omega, fun h => absurd h (HSX.out (by simp)), HOLX.out, HGX.out, by have := HE1.out; rw [List.append_nil] at this; exact this⟩
  | some j =>
  obtain rfl := HX.out j rfl
  have ha2 := HSN.out (by simp)
  have q0 : wx.cell? ⟨w2.heap.size, 0, none⟩ = some (.int .i64 j.kind) := (ka0 HIX.out 0).trans rfl
  have q1 : wx.cell? ⟨w2.heap.size, 1, none⟩ = some (.string (str j.name)) := (ka0 HIX.out 1).trans rfl
  have q2 : wx.cell? ⟨w2.heap.size, 2, none⟩ = some (.int .i64 j.ty) := (ka0 HIX.out 2).trans rfl
  have q3 : wx.cell? ⟨w2.heap.size, 3, none⟩ = some (.slice A2 n2 c2) := (ka0 HIX.out 3).trans rfl
  have q4 : wx.cell? ⟨w2.heap.size, 4, none⟩ = some (.slice A4 n4 c4) := (ka0 HIX.out 4).trans rfl
  have q5 : wx.cell? ⟨w2.heap.size, 5, none⟩ = some (.slice A5 n5 c5) := (ka0 HIX.out 5).trans rfl
  have lqx := lt_of_block HIX.out
  go_wp2_with (at_builtin; refine wpList_append_own _ rfl (.tmp 18) (.tmp 20) 52 rfl w.heap.size 58 i0 _ 6 104 Tryz.underlying52 hi hz0 hz1 hz2 rfl (by decide) _ acc.length xs.flatten rfl (HOLX.out.own.alloc _) ⟨wx.heap.size, 0, none⟩ 1 1 [.int .i64 j.kind, .string (str j.name), .int .i64 j.ty, .slice A2 n2 c2, .slice A4 n4 c4, .slice A5 n5 c5] rfl rfl ?a1 ?b1 ?c1 ?d1 ?e1 ?_)
  case a1 => exact ke5 _ _ _ _ rfl rfl
  case b1 => simp [Value.oneCell']
  case c1 => unfold maxLen; omega
  case d1 => omega
  case e1 => simp; omega
  intro v3 w3 hown3 hg3 _
  have HOL3 := Lib.hid (HOLX.out.snoc HXVX.out rfl (below_new wx _) hown3 hg3 (fun st => ItmV.stay st (by decide) (by decide)))
  have HGR3 := Lib.hid (RdBy.row HGX.out hlt (below_new wx _) hg3 (fun g hg => (HOLX.out.own.lt g hg).1))
  obtain ⟨A3, c3, hv3, y3, y4⟩ := kbC hown3
  subst hv3
  clear hown3 hg3
  go_wp2
  go_roundg gk
  case measure => omega
  case rel => exact ⟨r2, _, acc ++ [j], xs ++ [[.int .i64 j.kind, .string (str j.name), .int .i64 j.ty, .slice A2 n2 c2, .slice A4 n4 c4, .slice A5 n5 c5]], rfl, by simp; omega, by omega, fun h => by have := HST.out h; simp; omega, HOL3.out, HGR3.out, HE.out⟩
end Go.Proofs.YtlhcajhgbkgjbaaGreatDoor.Rp

/- Contracts of the document's reader of programs: a contract. Conditions: a reader lies in memory. -/
namespace Go.Proofs.YtlhcajhgbkgjbaaGreatDoor.Rp
open Go.ChangeShapes Go.WideShapes Go.ChangeAt Go.RowKit
open Ex
open Tr (str ka1 ka6 Bytes Nd)
open Pg
set_option maxRecDepth 100000 in
set_option maxHeartbeats 8000000 in
theorem kgb (b : Nat) (r : Rd) (w : World) (hr : RdIn w b r) (n : Bytes) (i : List Prm) (l : List Itm) (r0 r1 r2 r3 : Rd) (X : Unt × Rd) (h0 : kau kai r = (true, r0)) (h1 : kbz r0 = (n, r1)) (h2 : inQ kaM kaK r1 = (i, r2)) (h3 : kct r2 = (l, r3)) (he : ((⟨true, n, i, ⟨[], 0⟩, [], [], l⟩ : Unt), r3) = X) : Calls Tryz.prog 43 #[.pointer (some ⟨b, 0, none⟩)] w (UntG w b X) := by
 have HR := Lib.hid hr
 have hlt := hr.lt
 have HE := Lib.hid he
 have H0 := Lib.hid h0
 have H1 := Lib.hid h1
 have HC2 : Hid (∀ w', RdIn w' b r1 -> Calls Tryz.prog 59 #[.pointer (some ⟨b, 0, none⟩)] w' (RowG 50 2 PrmV w' b (i, r2))) := Lib.hid (fun w' h => by rw [<- h2]; exact kcP b r1 w' h)
 have HC3 : Hid (∀ w', RdIn w' b r2 -> Calls Tryz.prog 60 #[.pointer (some ⟨b, 0, none⟩)] w' (RowG 58 6 ItmV w' b (l, r3))) := Lib.hid (fun w' h => by rw [<- h3]; exact kfj b r2 w' h)
 clear h0 h1 h2 h3 he hr
 have hBW : Below w.heap.size w ((w.alloc (.cells #[.bool false, .string ⟨#[]⟩, .slice none 0 0, .string ⟨#[]⟩, .int .i64 0, .slice none 0 0, .slice none 0 0, .slice none 0 0] 54)).alloc (.cells #[.bool false, .string ⟨#[]⟩, .slice none 0 0, .string ⟨#[]⟩, .int .i64 0, .slice none 0 0, .slice none 0 0, .slice none 0 0] 54)) := (below_new w _).alloc (below_new w _).size _
 have X0 : Hid (((w.alloc (.cells #[.bool false, .string ⟨#[]⟩, .slice none 0 0, .string ⟨#[]⟩, .int .i64 0, .slice none 0 0, .slice none 0 0, .slice none 0 0] 54)).alloc (.cells #[.bool false, .string ⟨#[]⟩, .slice none 0 0, .string ⟨#[]⟩, .int .i64 0, .slice none 0 0, .slice none 0 0, .slice none 0 0] 54)).heap[w.heap.size]? = some (.cells #[.bool false, .string ⟨#[]⟩, .slice none 0 0, .string ⟨#[]⟩, .int .i64 0, .slice none 0 0, .slice none 0 0, .slice none 0 0] 54 (0, 0))) := Lib.hid (kdE (heap_alloc_new w _))
 have Y0 : Hid (((w.alloc (.cells #[.bool false, .string ⟨#[]⟩, .slice none 0 0, .string ⟨#[]⟩, .int .i64 0, .slice none 0 0, .slice none 0 0, .slice none 0 0] 54)).alloc (.cells #[.bool false, .string ⟨#[]⟩, .slice none 0 0, .string ⟨#[]⟩, .int .i64 0, .slice none 0 0, .slice none 0 0, .slice none 0 0] 54)).heap[w.heap.size + 1]? = some (.cells #[.bool false, .string ⟨#[]⟩, .slice none 0 0, .string ⟨#[]⟩, .int .i64 0, .slice none 0 0, .slice none 0 0, .slice none 0 0] 54 (0, 0))) := Lib.hid (kbo (by simp))
 have HG0 := Lib.hid (RdBy.of_below HR.out hBW)
 have hne : w.heap.size ≠ w.heap.size + 1 := by omega
 clear hBW
 go_enter Tryz.func43, Tryz.ntmps43
 go_wp2_with fail
 refine (kac (s := kai) rfl HG0.out.rd H0.out).mono ?_
 rintro e w1 ⟨rfl, hg1⟩
 have HG1 := Lib.hid (HG0.out.trans hg1)
 have x1 := hg1.block X0.out (by omega)
 have y1 := hg1.block Y0.out (by omega)
 have X1 := Lib.hid x1
 have Y1 := Lib.hid y1
 have lx1 := lt_of_block x1
 have ly1 := lt_of_block y1
 clear hg1 x1 y1
 have q1_0 : w1.cell? ⟨w.heap.size + 1, 0, none⟩ = some (.bool false) := (ka0 Y1.out 0).trans rfl
 have k1_0 : w1.frozen? ⟨w.heap.size + 1, 0, none⟩ = false := free_at Y1.out 0
 have Y1a : Hid ((w1.setCell ⟨w.heap.size + 1, 0, none⟩ (.bool true)).heap[w.heap.size + 1]? = some (.cells #[.bool true, .string ⟨#[]⟩, .slice none 0 0, .string ⟨#[]⟩, .int .i64 0, .slice none 0 0, .slice none 0 0, .slice none 0 0] 54 (0, 0))) := Lib.hid (by have z := ka2 (v := .bool true) Y1.out (k := 0) (by simp); simpa using z)
 have X1a := Lib.hid (ka7 (k := 0) (v := .bool true) X1.out hne)
 have HG1a := Lib.hid (HG1.out.setLocal (k := 0) (B := w.heap.size + 1) (by omega) hlt (.bool true))
 go_wp2_with fail
 refine (kbW HG1a.out.rd H1.out).mono ?_
 rintro e w2 ⟨rfl, hg2⟩
 have HG2 := Lib.hid (HG1a.out.trans hg2)
 have x2 := hg2.block X1a.out (by omega)
 have y2 := hg2.block Y1a.out (by omega)
 have X2 := Lib.hid x2
 have Y2 := Lib.hid y2
 have lx2 := lt_of_block x2
 have ly2 := lt_of_block y2
 clear hg2 x2 y2
 clear q1_0 k1_0
 have q2_1 : w2.cell? ⟨w.heap.size + 1, 1, none⟩ = some (.string ⟨#[]⟩) := (ka0 Y2.out 1).trans rfl
 have k2_1 : w2.frozen? ⟨w.heap.size + 1, 1, none⟩ = false := free_at Y2.out 1
 have Y2a : Hid ((w2.setCell ⟨w.heap.size + 1, 1, none⟩ (.string (str n))).heap[w.heap.size + 1]? = some (.cells #[.bool true, .string (str n), .slice none 0 0, .string ⟨#[]⟩, .int .i64 0, .slice none 0 0, .slice none 0 0, .slice none 0 0] 54 (0, 0))) := Lib.hid (by have z := ka2 (v := .string (str n)) Y2.out (k := 1) (by simp); simpa using z)
 have X2a := Lib.hid (ka7 (k := 1) (v := .string (str n)) X2.out hne)
 have HG2a := Lib.hid (HG2.out.setLocal (k := 1) (B := w.heap.size + 1) (by omega) hlt (.string (str n)))
 go_wp2_with fail
 refine (HC2.out _ HG2a.out.rd).mono ?_
 rintro e w3 ⟨iv, rfl, hl3, hg3⟩
 have HG3 := Lib.hid (HG2a.out.trans hg3)
 have x3 := hg3.block X2a.out (by omega)
 have y3 := hg3.block Y2a.out (by omega)
 have X3 := Lib.hid x3
 have Y3 := Lib.hid y3
 have lx3 := lt_of_block x3
 have ly3 := lt_of_block y3
 obtain ⟨A1, n1, c1, rfl, u1, v1⟩ := kan hl3
 have F1_3 := Lib.hid hl3
 clear hg3 x3 y3 hl3
 clear q2_1 k2_1
 have q3_2 : w3.cell? ⟨w.heap.size + 1, 2, none⟩ = some (.slice none 0 0) := (ka0 Y3.out 2).trans rfl
 have k3_2 : w3.frozen? ⟨w.heap.size + 1, 2, none⟩ = false := free_at Y3.out 2
 have Y3a : Hid ((w3.setCell ⟨w.heap.size + 1, 2, none⟩ (.slice A1 n1 c1)).heap[w.heap.size + 1]? = some (.cells #[.bool true, .string (str n), .slice A1 n1 c1, .string ⟨#[]⟩, .int .i64 0, .slice none 0 0, .slice none 0 0, .slice none 0 0] 54 (0, 0))) := Lib.hid (by have z := ka2 (v := .slice A1 n1 c1) Y3.out (k := 2) (by simp); simpa using z)
 have X3a := Lib.hid (ka7 (k := 2) (v := .slice A1 n1 c1) X3.out hne)
 have HG3a := Lib.hid (HG3.out.setLocal (k := 2) (B := w.heap.size + 1) (by omega) hlt (.slice A1 n1 c1))
 have F1_3a := Lib.hid (F1_3.out.stay (ka4 (P := fun t => t = 54) (k := 2) Y3.out rfl (.slice A1 n1 c1)) (by decide) (fun a x hx => PrmV.stay (ka4 (P := fun t => t = 54) (k := 2) Y3.out rfl (.slice A1 n1 c1)) a x hx))
 go_wp2_with fail
 refine (HC3.out _ HG3a.out.rd).mono ?_
 rintro e w4 ⟨lv, rfl, hl4, hg4⟩
 have HG4 := Lib.hid (HG3a.out.trans hg4)
 have x4 := hg4.block X3a.out (by omega)
 have y4 := hg4.block Y3a.out (by omega)
 have X4 := Lib.hid x4
 have Y4 := Lib.hid y4
 have lx4 := lt_of_block x4
 have ly4 := lt_of_block y4
 have F1_4 := Lib.hid (F1_3a.out.stay (RdBy.stay HG3a.out.rd hg4) (by decide) (fun a x hx => PrmV.stay (RdBy.stay HG3a.out.rd hg4) a x hx))
 obtain ⟨A2, n2, c2, rfl, u2, v2⟩ := kan hl4
 have F2_4 := Lib.hid hl4
 clear hg4 x4 y4 hl4
 clear q3_2 k3_2
 have q4_7 : w4.cell? ⟨w.heap.size + 1, 7, none⟩ = some (.slice none 0 0) := (ka0 Y4.out 7).trans rfl
 have k4_7 : w4.frozen? ⟨w.heap.size + 1, 7, none⟩ = false := free_at Y4.out 7
 have Y4a : Hid ((w4.setCell ⟨w.heap.size + 1, 7, none⟩ (.slice A2 n2 c2)).heap[w.heap.size + 1]? = some (.cells #[.bool true, .string (str n), .slice A1 n1 c1, .string ⟨#[]⟩, .int .i64 0, .slice none 0 0, .slice none 0 0, .slice A2 n2 c2] 54 (0, 0))) := Lib.hid (by have z := ka2 (v := .slice A2 n2 c2) Y4.out (k := 7) (by simp); simpa using z)
 have X4a := Lib.hid (ka7 (k := 7) (v := .slice A2 n2 c2) X4.out hne)
 have HG4a := Lib.hid (HG4.out.setLocal (k := 7) (B := w.heap.size + 1) (by omega) hlt (.slice A2 n2 c2))
 have F1_4a := Lib.hid (F1_4.out.stay (ka4 (P := fun t => t = 54) (k := 7) Y4.out rfl (.slice A2 n2 c2)) (by decide) (fun a x hx => PrmV.stay (ka4 (P := fun t => t = 54) (k := 7) Y4.out rfl (.slice A2 n2 c2)) a x hx))
 have F2_4a := Lib.hid (F2_4.out.stay (ka4 (P := fun t => t = 54) (k := 7) Y4.out rfl (.slice A2 n2 c2)) (by decide) (fun a x hx => ItmV.stay (ka4 (P := fun t => t = 54) (k := 7) Y4.out rfl (.slice A2 n2 c2)) (by decide) (by decide) a x hx))
 have q4_0 : w4.cell? ⟨w.heap.size + 1, 0, none⟩ = some (.bool true) := (ka0 Y4.out 0).trans rfl
 have p0 : w4.cell? ⟨w.heap.size, 0, none⟩ = some (.bool false) := (ka0 X4.out 0).trans rfl
 have g0 : w4.frozen? ⟨w.heap.size, 0, none⟩ = false := free_at X4.out 0
 have q4_1 : w4.cell? ⟨w.heap.size + 1, 1, none⟩ = some (.string (str n)) := (ka0 Y4.out 1).trans rfl
 have p1 : w4.cell? ⟨w.heap.size, 1, none⟩ = some (.string ⟨#[]⟩) := (ka0 X4.out 1).trans rfl
 have g1 : w4.frozen? ⟨w.heap.size, 1, none⟩ = false := free_at X4.out 1
 have q4_2 : w4.cell? ⟨w.heap.size + 1, 2, none⟩ = some (.slice A1 n1 c1) := (ka0 Y4.out 2).trans rfl
 have p2 : w4.cell? ⟨w.heap.size, 2, none⟩ = some (.slice none 0 0) := (ka0 X4.out 2).trans rfl
 have g2 : w4.frozen? ⟨w.heap.size, 2, none⟩ = false := free_at X4.out 2
 have q4_3 : w4.cell? ⟨w.heap.size + 1, 3, none⟩ = some (.string ⟨#[]⟩) := (ka0 Y4.out 3).trans rfl
 have p3 : w4.cell? ⟨w.heap.size, 3, none⟩ = some (.string ⟨#[]⟩) := (ka0 X4.out 3).trans rfl
 have g3 : w4.frozen? ⟨w.heap.size, 3, none⟩ = false := free_at X4.out 3
 have q4_4 : w4.cell? ⟨w.heap.size + 1, 4, none⟩ = some (.int .i64 0) := (ka0 Y4.out 4).trans rfl
 have p4 : w4.cell? ⟨w.heap.size, 4, none⟩ = some (.int .i64 0) := (ka0 X4.out 4).trans rfl
 have g4 : w4.frozen? ⟨w.heap.size, 4, none⟩ = false := free_at X4.out 4
 have q4_5 : w4.cell? ⟨w.heap.size + 1, 5, none⟩ = some (.slice none 0 0) := (ka0 Y4.out 5).trans rfl
 have p5 : w4.cell? ⟨w.heap.size, 5, none⟩ = some (.slice none 0 0) := (ka0 X4.out 5).trans rfl
 have g5 : w4.frozen? ⟨w.heap.size, 5, none⟩ = false := free_at X4.out 5
 have q4_6 : w4.cell? ⟨w.heap.size + 1, 6, none⟩ = some (.slice none 0 0) := (ka0 Y4.out 6).trans rfl
 have p6 : w4.cell? ⟨w.heap.size, 6, none⟩ = some (.slice none 0 0) := (ka0 X4.out 6).trans rfl
 have g6 : w4.frozen? ⟨w.heap.size, 6, none⟩ = false := free_at X4.out 6
 have p7 : w4.cell? ⟨w.heap.size, 7, none⟩ = some (.slice none 0 0) := (ka0 X4.out 7).trans rfl
 have g7 : w4.frozen? ⟨w.heap.size, 7, none⟩ = false := free_at X4.out 7
 go_wp2
 have Z := blk8 X4a.out (.bool true) (.string (str n)) (.slice A1 n1 c1) (.string ⟨#[]⟩) (.int .i64 0) (.slice none 0 0) (.slice none 0 0) (.slice A2 n2 c2)
 have hsz : (w4.setCell ⟨w.heap.size + 1, 7, none⟩ (.slice A2 n2 c2)).heap.size <= (((((((((w4.setCell ⟨w.heap.size + 1, 7, none⟩ (.slice A2 n2 c2)).setCell ⟨w.heap.size, 0, none⟩ (.bool true)).setCell ⟨w.heap.size, 1, none⟩ (.string (str n))).setCell ⟨w.heap.size, 2, none⟩ (.slice A1 n1 c1)).setCell ⟨w.heap.size, 3, none⟩ (.string ⟨#[]⟩)).setCell ⟨w.heap.size, 4, none⟩ (.int .i64 0)).setCell ⟨w.heap.size, 5, none⟩ (.slice none 0 0)).setCell ⟨w.heap.size, 6, none⟩ (.slice none 0 0)).setCell ⟨w.heap.size, 7, none⟩ (.slice A2 n2 c2)).heap.size := by simp [World.setCell]
 have hst : Stay (fun t => t = 54) (w4.setCell ⟨w.heap.size + 1, 7, none⟩ (.slice A2 n2 c2)) (((((((((w4.setCell ⟨w.heap.size + 1, 7, none⟩ (.slice A2 n2 c2)).setCell ⟨w.heap.size, 0, none⟩ (.bool true)).setCell ⟨w.heap.size, 1, none⟩ (.string (str n))).setCell ⟨w.heap.size, 2, none⟩ (.slice A1 n1 c1)).setCell ⟨w.heap.size, 3, none⟩ (.string ⟨#[]⟩)).setCell ⟨w.heap.size, 4, none⟩ (.int .i64 0)).setCell ⟨w.heap.size, 5, none⟩ (.slice none 0 0)).setCell ⟨w.heap.size, 6, none⟩ (.slice none 0 0)).setCell ⟨w.heap.size, 7, none⟩ (.slice A2 n2 c2)) := kbh X4a.out rfl hsz (fun g hg => by simp only [kbO hg])
 have z0 := (ka0 Z 0).trans (show _ = some (.bool true) from rfl)
 have z1 := (ka0 Z 1).trans (show _ = some (.string (str n)) from rfl)
 have z2 := (ka0 Z 2).trans (show _ = some (.slice A1 n1 c1) from rfl)
 have z3 := (ka0 Z 3).trans (show _ = some (.string ⟨#[]⟩) from rfl)
 have z4 := (ka0 Z 4).trans (show _ = some (.int .i64 0) from rfl)
 have z5 := (ka0 Z 5).trans (show _ = some (.slice none 0 0) from rfl)
 have z6 := (ka0 Z 6).trans (show _ = some (.slice none 0 0) from rfl)
 have z7 := (ka0 Z 7).trans (show _ = some (.slice A2 n2 c2) from rfl)
 clear p0 g0 p1 g1 p2 g2 p3 g3 p4 g4 p5 g5 p6 g6 p7 g7 q4_7 k4_7 q4_0 q4_1 q4_2 q4_3 q4_4 q4_5 q4_6
 exact bodyPost_ret (v := .agg #[.bool true, .string (str n), .slice A1 n1 c1, .string ⟨#[]⟩, .int .i64 0, .slice none 0 0, .slice none 0 0, .slice A2 n2 c2]) (by simp [results, Tryz.results43, go_sem, z0, z1, z2, z3, z4, z5, z6, z7]) rfl (UntG.of HE.out (F1_4a.out.stay hst (by decide) (fun a x hx => PrmV.stay hst a x hx)) (RowR.nil _ _ _ _) (RowR.nil _ _ _ _) (F2_4a.out.stay hst (by decide) (fun a x hx => ItmV.stay hst (by decide) (by decide) a x hx)) ((((((((HG4a.out.setLocal (by omega) hlt _).setLocal (by omega) hlt _).setLocal (by omega) hlt _).setLocal (by omega) hlt _).setLocal (by omega) hlt _).setLocal (by omega) hlt _).setLocal (by omega) hlt _).setLocal (by omega) hlt _))
end Go.Proofs.YtlhcajhgbkgjbaaGreatDoor.Rp

