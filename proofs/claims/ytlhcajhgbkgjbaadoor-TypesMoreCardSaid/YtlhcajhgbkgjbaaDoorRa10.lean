/- Contracts of the document's reader of programs: an expression. Conditions: a reader lies in memory. -/
import Derived.Test.YtlhcajhgbkgjbaaDoorRa08
import Derived.Test.YtlhcajhgbkgjbaaDoorKb22
import Derived.Test.YtlhcajhgbkgjbaaDoorRa09
set_option linter.unusedVariables false
set_option linter.unusedSimpArgs false
namespace Go.Proofs.YtlhcajhgbkgjbaaDoor.Rp
open Go.ChangeShapes Go.WideShapes Go.ChangeAt Go.RowKit
open Ex
open Tr (str ka1 ka5 Bytes Nd)
open Pg
theorem kj8 (l : List Tok) (k : Nat) : ∃ p r, run (kcq l k) (.lev 1) ⟨l, k, 0, 0, 0⟩ = some (p, r) := by
  obtain ⟨⟨p, r⟩, h⟩ := kgS (kcq l k) (.lev 1) ⟨l, k, 0, 0, 0⟩ (fun hc => absurd rfl hc) (by simp [Task.pre]) (by unfold kcq Rd.rem Task.wt; simp; omega)
  exact ⟨p, r, h⟩
theorem parse_doc {L : List Tok} {lv : Value} {n : Nat} {w : World} {b : Nat} (hv : TokOff w b lv L) (hb : b <= w.heap.size) (hok : Rf.OkL L) (ht : ∀ t ∈ L, t.text.length <= 1000000) (hn : n <= L.length) : Calls Tryd.prog 37 #[lv, .int .i64 (n : Int)] w (keo w (kaU L n)) := by
  obtain ⟨p, r, e⟩ := kj8 L n
  have h := Rf.rparse_any L hok ht lv n hn w (kj4 hv hb) p r e
  unfold kaU; rw [e]; exact h
theorem parse_in {L : List Tok} {n : Nat} (hlen : L.length <= 1000000) (hn : n <= L.length) (hc : (kaU L n).2.2.1 = 0) : (kaU L n).2.1 <= L.length := by
  obtain ⟨p, r, e⟩ := kj8 L n
  have h1 := (kau _ _ _ _ _ e (fun hc => absurd rfl hc) (by simp [Task.pre])).1.top
  simp only at h1
  unfold kaU at hc ⊢; rw [e] at hc ⊢
  simp only [kb2] at hc ⊢
  split
  · simp
  · split
    · simp
    · split
      · simp
      · simp only; omega
set_option maxHeartbeats 1600000 in
theorem kcS (b : Nat) (r : Rd) (w : World) (hr : RdIn w b r) : Calls Tryd.prog 68 #[.pointer (some ⟨b, 0, none⟩)] w (ExpG w b (kbh r)) := by
  have HR := Lib.hid hr
  have hlt := hr.lt
  by_cases h0 : r.code = 0
  rotate_left
  · have HOK := Lib.hid (kcX (B := false) HR.out (by simpa using h0))
    have HT : Hid (kbh r = ([], r)) := Lib.hid (by unfold kbh; rw [if_pos h0])
    rw [HT.out]
    clear h0 hr
    go_enter Tryd.func68, Tryd.ntmps68
    go_wp2_with fail
    refine HOK.out.mono ?_
    rintro x w1 ⟨rfl, rfl⟩
    go_wp2
    go_ret
    exact ⟨_, rfl, PtW.nil _ _ rfl, RdBy.refl HR.out⟩
  have HOK := Lib.hid (kcX (B := true) HR.out (by rw [h0]; rfl))
  obtain ⟨L, lv, i, c, a, hat⟩ := hr
  have HAT := Lib.hid hat
  obtain ⟨q1, q2, q3, q4⟩ := hat.st.resolve_right (fun h => h.1 h0)
  have hlv := hat.tok
  obtain ⟨A0, cc, rfl, z1, z2, _⟩ := hlv
  have c0 : w.cell? ⟨b, 0, none⟩ = some (.slice A0 L.length cc) := kaL hat.blk 0
  have c1 : w.cell? ⟨b, 1, none⟩ = some (.int .i64 (i : Int)) := kaL hat.blk 1
  have hil := hat.ile
  have hL := hat.okl.len
  have HC : Hid (∀ w', Below w.heap.size w w' -> Calls Tryd.prog 37 #[.slice A0 L.length cc, .int .i64 (i : Int)] w' (keo w' (kaU L i))) := Lib.hid (fun w' hb => parse_doc (HAT.out.tok.keep hb.size (fun g _ hg => hb.block g hg)) (by have := hb.size; omega) HAT.out.okl HAT.out.txt HAT.out.ile)
  have HP0 := Lib.hid (parse_in (n := i) (by omega) hil)
  have hx0 : kbh r = if (kaU L i).2.2.1 ≠ 0 then ([], Pg.Rd.stop (kaU L i).2.2.1 (kaU L i).2.2.2 r) else ((kaU L i).1, Pg.Rd.to (kaU L i).2.1 r) := by unfold kbh; rw [if_neg (by simpa using h0), q3, <- q4]
  have H0 := Lib.hid h0
  obtain ⟨⟨E, N, C, A⟩, hx⟩ : ∃ x, kaU L i = x := ⟨_, rfl⟩
  rw [hx] at HC HP0 hx0
  simp only at HP0 hx0
  rw [hx0]
  clear hat hx hx0 h0 q1 q2 q3 q4
  have HW0 : Hid (Below w.heap.size w w.drew) := Lib.hid (Tr.below_drewN (n := 1) (Below.refl w.heap.size w))
  have HW1 : Hid (Below w.heap.size w (w.alloc (.cells #[.int .i64 0, .int .i64 0] 45)).drew) := Lib.hid (kiB w _)
  by_cases hC : C = 0
  · rw [if_neg (by simpa using hC)]
    have hd : (C != 0) = false := by simpa using hC
    have HN := Lib.hid (HP0.out hC)
    clear hC
    go_enter Tryd.func68, Tryd.ntmps68
    go_wp2_with fail
    refine HOK.out.mono ?_
    rintro x wz ⟨rfl, rfl⟩
    go_wp2
    go_region_with ((first | (go_at_call 37; (with_reducible refine (HC.out (w.alloc (.cells #[.int .i64 0, .int .i64 0] 45)).drew HW1.out).mono ?_); rintro e w1 ⟨ev, rfl, hpt, hb1⟩; have HP := Lib.hid hpt; have X3 : Hid (w1.heap[w.heap.size]? = some (.cells #[.int .i64 0, .int .i64 0] 45 (0, 0))) := Lib.hid ((hb1.block w.heap.size (by show _ < (w.alloc _).heap.size; simp)).trans (heap_alloc_new w _)); have HB1 := Lib.hid (HW1.out.trans (hb1.mono (by show w.heap.size <= (w.alloc _).heap.size; simp))); have p0 : w1.cell? ⟨w.heap.size, 0, none⟩ = some (.int .i64 0) := (ka0 X3.out 0).trans rfl; have p1 : w1.cell? ⟨w.heap.size, 1, none⟩ = some (.int .i64 0) := (ka0 X3.out 1).trans rfl; have g0 : w1.frozen? ⟨w.heap.size, 0, none⟩ = false := free_at X3.out 0; have g1 : w1.frozen? ⟨w.heap.size, 1, none⟩ = false := free_at X3.out 1; clear hpt hb1) | (go_at_call 37; (with_reducible refine (HC.out w.drew HW0.out).mono ?_); rintro e w1 ⟨ev, rfl, hpt, hb1⟩; have HP := Lib.hid hpt; have HB1 := Lib.hid (HW0.out.trans hb1); have HBB : True := trivial; clear hpt hb1)))
    all_goals first
    | (have HAA := X3
       have hbn : b ≠ w.heap.size := by omega
       have hbn2 : w.heap.size ≠ b := by omega
       have hsz := HB1.out.size
       have HK := Lib.hid (HAT.out.below (Below.setCell (Below.setCell HB1.out (p := ⟨w.heap.size, 0, none⟩) (Nat.le_refl _) (.int .i64 C)) (p := ⟨w.heap.size, 1, none⟩) (Nat.le_refl _) (.int .i64 A)))
       have HK1 := HAT.out.below HB1.out
       have c1' : w1.cell? ⟨b, 1, none⟩ = some (.int .i64 (i : Int)) := kaL HK1.blk 1
       have f1' : w1.frozen? ⟨b, 1, none⟩ = false := kcs HK1.blk 1
       clear HK1
       go_wp2
       go_ret
       have HGb := HK.out.setTo H0.out HN.out
       have Y1 := (HP.out.set X3.out (by decide) (k := 0) (.int .i64 C)).set (ka2 (v := .int .i64 C) X3.out (k := 0) (by simp)) (by decide) (k := 1) (.int .i64 A)
       exact ⟨_, rfl, (RdBy.stay ⟨_, _, _, _, _, HK.out⟩ HGb).pt (by decide) Y1, (RdBy.of_below HR.out (Below.setCell (Below.setCell HB1.out (p := ⟨w.heap.size, 0, none⟩) (Nat.le_refl _) (.int .i64 C)) (p := ⟨w.heap.size, 1, none⟩) (Nat.le_refl _) (.int .i64 A))).trans HGb⟩)
    | (have HAB := HBB
       have hs1 := HB1.out.size
       have hbn : b ≠ w1.heap.size := by omega
       have hbz : b < w1.heap.size := by omega
       have HK1 := HAT.out.below HB1.out
       have HK := Lib.hid HK1
       have c1' : w1.cell? ⟨b, 1, none⟩ = some (.int .i64 (i : Int)) := kaL HK1.blk 1
       have f1' : w1.frozen? ⟨b, 1, none⟩ = false := kcs HK1.blk 1
       clear HK1
       go_wp2
       go_ret
       have HT2 := (HK.out.setTo H0.out HN.out).then_below (below_new _ (.cells #[.int .i64 C, .int .i64 A] 45))
       exact ⟨_, rfl, (RdBy.stay ⟨_, _, _, _, _, HK.out⟩ HT2).pt (by decide) HP.out, RdBy.below HB1.out hlt HT2⟩)
  · rw [if_pos (by simpa using hC)]
    have hd : (C != 0) = true := by simpa using hC
    have HCN := Lib.hid hC
    clear hC
    go_enter Tryd.func68, Tryd.ntmps68
    go_wp2_with fail
    refine HOK.out.mono ?_
    rintro x wz ⟨rfl, rfl⟩
    go_wp2
    go_region_with ((first | (go_at_call 37; (with_reducible refine (HC.out (w.alloc (.cells #[.int .i64 0, .int .i64 0] 45)).drew HW1.out).mono ?_); rintro e w1 ⟨ev, rfl, hpt, hb1⟩; have HP := Lib.hid hpt; have X3 : Hid (w1.heap[w.heap.size]? = some (.cells #[.int .i64 0, .int .i64 0] 45 (0, 0))) := Lib.hid ((hb1.block w.heap.size (by show _ < (w.alloc _).heap.size; simp)).trans (heap_alloc_new w _)); have HB1 := Lib.hid (HW1.out.trans (hb1.mono (by show w.heap.size <= (w.alloc _).heap.size; simp))); have p0 : w1.cell? ⟨w.heap.size, 0, none⟩ = some (.int .i64 0) := (ka0 X3.out 0).trans rfl; have p1 : w1.cell? ⟨w.heap.size, 1, none⟩ = some (.int .i64 0) := (ka0 X3.out 1).trans rfl; have g0 : w1.frozen? ⟨w.heap.size, 0, none⟩ = false := free_at X3.out 0; have g1 : w1.frozen? ⟨w.heap.size, 1, none⟩ = false := free_at X3.out 1; clear hpt hb1) | (go_at_call 37; (with_reducible refine (HC.out w.drew HW0.out).mono ?_); rintro e w1 ⟨ev, rfl, hpt, hb1⟩; have HP := Lib.hid hpt; have HB1 := Lib.hid (HW0.out.trans hb1); have HBB : True := trivial; clear hpt hb1)))
    all_goals first
    | (have HAA := X3
       have hbn : b ≠ w.heap.size := by omega
       have hbn2 : w.heap.size ≠ b := by omega
       have hsz := HB1.out.size
       have HK := Lib.hid (HAT.out.below (Below.setCell (Below.setCell HB1.out (p := ⟨w.heap.size, 0, none⟩) (Nat.le_refl _) (.int .i64 C)) (p := ⟨w.heap.size, 1, none⟩) (Nat.le_refl _) (.int .i64 A)))
       have HK1 := HAT.out.below HB1.out
       have c2' : w1.cell? ⟨b, 2, none⟩ = some (.int .i64 c) := kaL HK1.blk 2
       have f2' : w1.frozen? ⟨b, 2, none⟩ = false := kcs HK1.blk 2
       have c3' : w1.cell? ⟨b, 3, none⟩ = some (.int .i64 a) := kaL HK1.blk 3
       have f3' : w1.frozen? ⟨b, 3, none⟩ = false := kcs HK1.blk 3
       clear HK1
       go_wp2
       go_ret
       exact ⟨_, rfl, PtW.nil _ _ rfl, (RdBy.of_below HR.out (Below.setCell (Below.setCell HB1.out (p := ⟨w.heap.size, 0, none⟩) (Nat.le_refl _) (.int .i64 C)) (p := ⟨w.heap.size, 1, none⟩) (Nat.le_refl _) (.int .i64 A))).trans (HK.out.setF H0.out C A HCN.out)⟩)
    | (have HAB := HBB
       have hs1 := HB1.out.size
       have hbn : b ≠ w1.heap.size := by omega
       have hbz : b < w1.heap.size := by omega
       have HK1 := HAT.out.below HB1.out
       have HK := Lib.hid HK1
       have c2' : w1.cell? ⟨b, 2, none⟩ = some (.int .i64 c) := kaL HK1.blk 2
       have f2' : w1.frozen? ⟨b, 2, none⟩ = false := kcs HK1.blk 2
       have c3' : w1.cell? ⟨b, 3, none⟩ = some (.int .i64 a) := kaL HK1.blk 3
       have f3' : w1.frozen? ⟨b, 3, none⟩ = false := kcs HK1.blk 3
       clear HK1
       go_wp2
       go_ret
       exact ⟨_, rfl, PtW.nil _ _ rfl, RdBy.below HB1.out hlt ((HK.out.setF H0.out C A HCN.out).then_below (below_new _ (.cells #[.int .i64 C, .int .i64 A] 45)))⟩)
end Go.Proofs.YtlhcajhgbkgjbaaDoor.Rp

/- Contracts of the document's reader of programs: an item. Conditions: a reader lies in memory. -/
namespace Go.Proofs.YtlhcajhgbkgjbaaDoor.Rp
open Go.ChangeShapes Go.WideShapes Go.ChangeAt Go.RowKit
open Ex
open Tr (str ka1 ka5 Bytes Nd)
open Pg
set_option maxRecDepth 100000 in
set_option maxHeartbeats 8000000 in
theorem item_none (b : Nat) (r : Rd) (w : World) (hr : RdIn w b r)   (X : Option Itm × Rd) (t1 : kaw kaP r = (false, r)) (t2 : kaw kat r = (false, r)) (t3 : kaw kc4 r = (false, r)) (t4 : kaw kef r = (false, r)) (t5 : kaw kcr r = (false, r))  (he : ((none : Option Itm), r) = X) : Calls Tryd.prog 67 #[.pointer (some ⟨b, 0, none⟩)] w (ItmO w b X) := by
  have HR := Lib.hid hr
  have hlt := hr.lt
  have HE := Lib.hid he
  have T1 := Lib.hid t1
  have T2 := Lib.hid t2
  have T3 := Lib.hid t3
  have T4 := Lib.hid t4
  have T5 := Lib.hid t5
  clear t1 t2 t3 t4 t5 he hr
  have hBW : Below w.heap.size w ((w.alloc (.cells #[.int .i64 0, .string ⟨#[]⟩, .int .i64 0, .slice none 0 0, .slice none 0 0, .slice none 0 0] 100)).alloc (.cells #[.int .i64 0, .string ⟨#[]⟩, .int .i64 0, .slice none 0 0, .slice none 0 0, .slice none 0 0] 100)) := (below_new w _).alloc (below_new w _).size _
  have X0 : Hid (((w.alloc (.cells #[.int .i64 0, .string ⟨#[]⟩, .int .i64 0, .slice none 0 0, .slice none 0 0, .slice none 0 0] 100)).alloc (.cells #[.int .i64 0, .string ⟨#[]⟩, .int .i64 0, .slice none 0 0, .slice none 0 0, .slice none 0 0] 100)).heap[w.heap.size]? = some (.cells #[.int .i64 0, .string ⟨#[]⟩, .int .i64 0, .slice none 0 0, .slice none 0 0, .slice none 0 0] 100 (0, 0))) := Lib.hid (kdw (heap_alloc_new w _))
  have Y0 : Hid (((w.alloc (.cells #[.int .i64 0, .string ⟨#[]⟩, .int .i64 0, .slice none 0 0, .slice none 0 0, .slice none 0 0] 100)).alloc (.cells #[.int .i64 0, .string ⟨#[]⟩, .int .i64 0, .slice none 0 0, .slice none 0 0, .slice none 0 0] 100)).heap[w.heap.size + 1]? = some (.cells #[.int .i64 0, .string ⟨#[]⟩, .int .i64 0, .slice none 0 0, .slice none 0 0, .slice none 0 0] 100 (0, 0))) := Lib.hid (kbk (by simp))
  have HG0 := Lib.hid (RdBy.of_below HR.out hBW)
  have hne : w.heap.size ≠ w.heap.size + 1 := by omega
  clear hBW
  go_enter Tryd.func67, Tryd.ntmps67
  go_wp2_with fail
  refine (kad (s := kaP) rfl HG0.out.rd T1.out).mono ?_
  rintro e w1 ⟨rfl, hg1⟩
  have HG1 := Lib.hid (HG0.out.trans hg1)
  have x1 := hg1.block X0.out (by omega)
  have y1 := hg1.block Y0.out (by omega)
  have X1 := Lib.hid x1
  have Y1 := Lib.hid y1
  have lx1 := lt_of_block x1
  have ly1 := lt_of_block y1
  clear hg1 x1 y1
  go_wp2_with fail
  refine (kad (s := kat) rfl HG1.out.rd T2.out).mono ?_
  rintro e w2 ⟨rfl, hg2⟩
  have HG2 := Lib.hid (HG1.out.trans hg2)
  have x2 := hg2.block X1.out (by omega)
  have y2 := hg2.block Y1.out (by omega)
  have X2 := Lib.hid x2
  have Y2 := Lib.hid y2
  have lx2 := lt_of_block x2
  have ly2 := lt_of_block y2
  clear hg2 x2 y2
  go_wp2_with fail
  refine (kad (s := kc4) rfl HG2.out.rd T3.out).mono ?_
  rintro e w3 ⟨rfl, hg3⟩
  have HG3 := Lib.hid (HG2.out.trans hg3)
  have x3 := hg3.block X2.out (by omega)
  have y3 := hg3.block Y2.out (by omega)
  have X3 := Lib.hid x3
  have Y3 := Lib.hid y3
  have lx3 := lt_of_block x3
  have ly3 := lt_of_block y3
  clear hg3 x3 y3
  go_wp2_with fail
  refine (kad (s := kef) rfl HG3.out.rd T4.out).mono ?_
  rintro e w4 ⟨rfl, hg4⟩
  have HG4 := Lib.hid (HG3.out.trans hg4)
  have x4 := hg4.block X3.out (by omega)
  have y4 := hg4.block Y3.out (by omega)
  have X4 := Lib.hid x4
  have Y4 := Lib.hid y4
  have lx4 := lt_of_block x4
  have ly4 := lt_of_block y4
  clear hg4 x4 y4
  go_wp2_with fail
  refine (kad (s := kcr) rfl HG4.out.rd T5.out).mono ?_
  rintro e w5 ⟨rfl, hg5⟩
  have HG5 := Lib.hid (HG4.out.trans hg5)
  have x5 := hg5.block X4.out (by omega)
  have y5 := hg5.block Y4.out (by omega)
  have X5 := Lib.hid x5
  have Y5 := Lib.hid y5
  have lx5 := lt_of_block x5
  have ly5 := lt_of_block y5
  clear hg5 x5 y5
  have q5_0 : w5.cell? ⟨w.heap.size + 1, 0, none⟩ = some (.int .i64 0) := (ka0 Y5.out 0).trans rfl
  have p0 : w5.cell? ⟨w.heap.size, 0, none⟩ = some (.int .i64 0) := (ka0 X5.out 0).trans rfl
  have g0 : w5.frozen? ⟨w.heap.size, 0, none⟩ = false := free_at X5.out 0
  have q5_1 : w5.cell? ⟨w.heap.size + 1, 1, none⟩ = some (.string ⟨#[]⟩) := (ka0 Y5.out 1).trans rfl
  have p1 : w5.cell? ⟨w.heap.size, 1, none⟩ = some (.string ⟨#[]⟩) := (ka0 X5.out 1).trans rfl
  have g1 : w5.frozen? ⟨w.heap.size, 1, none⟩ = false := free_at X5.out 1
  have q5_2 : w5.cell? ⟨w.heap.size + 1, 2, none⟩ = some (.int .i64 0) := (ka0 Y5.out 2).trans rfl
  have p2 : w5.cell? ⟨w.heap.size, 2, none⟩ = some (.int .i64 0) := (ka0 X5.out 2).trans rfl
  have g2 : w5.frozen? ⟨w.heap.size, 2, none⟩ = false := free_at X5.out 2
  have q5_3 : w5.cell? ⟨w.heap.size + 1, 3, none⟩ = some (.slice none 0 0) := (ka0 Y5.out 3).trans rfl
  have p3 : w5.cell? ⟨w.heap.size, 3, none⟩ = some (.slice none 0 0) := (ka0 X5.out 3).trans rfl
  have g3 : w5.frozen? ⟨w.heap.size, 3, none⟩ = false := free_at X5.out 3
  have q5_4 : w5.cell? ⟨w.heap.size + 1, 4, none⟩ = some (.slice none 0 0) := (ka0 Y5.out 4).trans rfl
  have p4 : w5.cell? ⟨w.heap.size, 4, none⟩ = some (.slice none 0 0) := (ka0 X5.out 4).trans rfl
  have g4 : w5.frozen? ⟨w.heap.size, 4, none⟩ = false := free_at X5.out 4
  have q5_5 : w5.cell? ⟨w.heap.size + 1, 5, none⟩ = some (.slice none 0 0) := (ka0 Y5.out 5).trans rfl
  have p5 : w5.cell? ⟨w.heap.size, 5, none⟩ = some (.slice none 0 0) := (ka0 X5.out 5).trans rfl
  have g5 : w5.frozen? ⟨w.heap.size, 5, none⟩ = false := free_at X5.out 5
  go_wp2
  have Z := blk6 X5.out (.int .i64 0) (.string ⟨#[]⟩) (.int .i64 0) (.slice none 0 0) (.slice none 0 0) (.slice none 0 0)
  have hsz : w5.heap.size <= ((((((w5.setCell ⟨w.heap.size, 0, none⟩ (.int .i64 0)).setCell ⟨w.heap.size, 1, none⟩ (.string ⟨#[]⟩)).setCell ⟨w.heap.size, 2, none⟩ (.int .i64 0)).setCell ⟨w.heap.size, 3, none⟩ (.slice none 0 0)).setCell ⟨w.heap.size, 4, none⟩ (.slice none 0 0)).setCell ⟨w.heap.size, 5, none⟩ (.slice none 0 0)).heap.size := by simp [World.setCell]
  have hst : Stay (fun t => t = 100) w5 ((((((w5.setCell ⟨w.heap.size, 0, none⟩ (.int .i64 0)).setCell ⟨w.heap.size, 1, none⟩ (.string ⟨#[]⟩)).setCell ⟨w.heap.size, 2, none⟩ (.int .i64 0)).setCell ⟨w.heap.size, 3, none⟩ (.slice none 0 0)).setCell ⟨w.heap.size, 4, none⟩ (.slice none 0 0)).setCell ⟨w.heap.size, 5, none⟩ (.slice none 0 0)) := kbe X5.out rfl hsz (fun g hg => by simp only [kbJ hg])
  have z0 := (ka0 Z 0).trans (show _ = some (.int .i64 0) from rfl)
  have z1 := (ka0 Z 1).trans (show _ = some (.string ⟨#[]⟩) from rfl)
  have z2 := (ka0 Z 2).trans (show _ = some (.int .i64 0) from rfl)
  have z3 := (ka0 Z 3).trans (show _ = some (.slice none 0 0) from rfl)
  have z4 := (ka0 Z 4).trans (show _ = some (.slice none 0 0) from rfl)
  have z5 := (ka0 Z 5).trans (show _ = some (.slice none 0 0) from rfl)
  clear p0 g0 p1 g1 p2 g2 p3 g3 p4 g4 p5 g5 q5_0 q5_1 q5_2 q5_3 q5_4 q5_5
  exact bodyPost_ret (v := .tuple #[.agg #[.int .i64 0, .string ⟨#[]⟩, .int .i64 0, .slice none 0 0, .slice none 0 0, .slice none 0 0], .bool false]) (by simp [results, Tryd.results67, go_sem, z0, z1, z2, z3, z4, z5]) rfl (ItmO.none HE.out  ((((((HG5.out.setLocal (by omega) hlt _).setLocal (by omega) hlt _).setLocal (by omega) hlt _).setLocal (by omega) hlt _).setLocal (by omega) hlt _).setLocal (by omega) hlt _))
end Go.Proofs.YtlhcajhgbkgjbaaDoor.Rp

/- Contracts of the document's reader of programs: an item. Conditions: a reader lies in memory. -/
namespace Go.Proofs.YtlhcajhgbkgjbaaDoor.Rp
open Go.ChangeShapes Go.WideShapes Go.ChangeAt Go.RowKit
open Ex
open Tr (str ka1 ka5 Bytes Nd)
open Pg
set_option maxRecDepth 100000 in
set_option maxHeartbeats 8000000 in
theorem kip (b : Nat) (r : Rd) (w : World) (hr : RdIn w b r) (E : List Nd) (r0 r1 r2 : Rd) (X : Option Itm × Rd)  (t1 : kaw kaP r = (true, r0)) (h1 : kbh r0 = (E, r1)) (h2 : (kaj kaK r1).2 = r2) (he : (some (⟨1, [], 0, E, [], []⟩ : Itm), r2) = X) : Calls Tryd.prog 67 #[.pointer (some ⟨b, 0, none⟩)] w (ItmO w b X) := by
  have HR := Lib.hid hr
  have hlt := hr.lt
  have HE := Lib.hid he
  have T1 := Lib.hid t1
  have HC1 : Hid (∀ w', RdIn w' b r0 -> Calls Tryd.prog 68 #[.pointer (some ⟨b, 0, none⟩)] w' (ExpG w' b (E, r1))) := Lib.hid (fun w' h => by rw [<- h1]; exact kcS b r0 w' h)
  have H2 := Lib.hid h2
  clear t1 h1 h2 he hr
  have hBW : Below w.heap.size w ((w.alloc (.cells #[.int .i64 0, .string ⟨#[]⟩, .int .i64 0, .slice none 0 0, .slice none 0 0, .slice none 0 0] 100)).alloc (.cells #[.int .i64 0, .string ⟨#[]⟩, .int .i64 0, .slice none 0 0, .slice none 0 0, .slice none 0 0] 100)) := (below_new w _).alloc (below_new w _).size _
  have X0 : Hid (((w.alloc (.cells #[.int .i64 0, .string ⟨#[]⟩, .int .i64 0, .slice none 0 0, .slice none 0 0, .slice none 0 0] 100)).alloc (.cells #[.int .i64 0, .string ⟨#[]⟩, .int .i64 0, .slice none 0 0, .slice none 0 0, .slice none 0 0] 100)).heap[w.heap.size]? = some (.cells #[.int .i64 0, .string ⟨#[]⟩, .int .i64 0, .slice none 0 0, .slice none 0 0, .slice none 0 0] 100 (0, 0))) := Lib.hid (kdw (heap_alloc_new w _))
  have Y0 : Hid (((w.alloc (.cells #[.int .i64 0, .string ⟨#[]⟩, .int .i64 0, .slice none 0 0, .slice none 0 0, .slice none 0 0] 100)).alloc (.cells #[.int .i64 0, .string ⟨#[]⟩, .int .i64 0, .slice none 0 0, .slice none 0 0, .slice none 0 0] 100)).heap[w.heap.size + 1]? = some (.cells #[.int .i64 0, .string ⟨#[]⟩, .int .i64 0, .slice none 0 0, .slice none 0 0, .slice none 0 0] 100 (0, 0))) := Lib.hid (kbk (by simp))
  have HG0 := Lib.hid (RdBy.of_below HR.out hBW)
  have hne : w.heap.size ≠ w.heap.size + 1 := by omega
  clear hBW
  go_enter Tryd.func67, Tryd.ntmps67
  go_wp2_with fail
  refine (kad (s := kaP) rfl HG0.out.rd T1.out).mono ?_
  rintro e w1 ⟨rfl, hg1⟩
  have HG1 := Lib.hid (HG0.out.trans hg1)
  have x1 := hg1.block X0.out (by omega)
  have y1 := hg1.block Y0.out (by omega)
  have X1 := Lib.hid x1
  have Y1 := Lib.hid y1
  have lx1 := lt_of_block x1
  have ly1 := lt_of_block y1
  clear hg1 x1 y1
  have q1_0 : w1.cell? ⟨w.heap.size + 1, 0, none⟩ = some (.int .i64 0) := (ka0 Y1.out 0).trans rfl
  have k1_0 : w1.frozen? ⟨w.heap.size + 1, 0, none⟩ = false := free_at Y1.out 0
  have Y1a : Hid ((w1.setCell ⟨w.heap.size + 1, 0, none⟩ (.int .i64 1)).heap[w.heap.size + 1]? = some (.cells #[.int .i64 1, .string ⟨#[]⟩, .int .i64 0, .slice none 0 0, .slice none 0 0, .slice none 0 0] 100 (0, 0))) := Lib.hid (by have z := ka2 (v := .int .i64 1) Y1.out (k := 0) (by simp); simpa using z)
  have X1a := Lib.hid (ka9 (k := 0) (v := .int .i64 1) X1.out hne)
  have HG1a := Lib.hid (HG1.out.setLocal (k := 0) (B := w.heap.size + 1) (by omega) hlt (.int .i64 1))
  go_wp2_with fail
  refine (HC1.out _ HG1a.out.rd).mono ?_
  rintro e w2 ⟨ev, rfl, hp2, hg2⟩
  have HG2 := Lib.hid (HG1a.out.trans hg2)
  have x2 := hg2.block X1a.out (by omega)
  have y2 := hg2.block Y1a.out (by omega)
  have X2 := Lib.hid x2
  have Y2 := Lib.hid y2
  have lx2 := lt_of_block x2
  have ly2 := lt_of_block y2
  obtain ⟨A1, n1, c1, rfl, u1, v1⟩ := kct hp2
  have F1_2 := Lib.hid hp2
  clear hg2 x2 y2 hp2
  clear q1_0 k1_0
  have q2_3 : w2.cell? ⟨w.heap.size + 1, 3, none⟩ = some (.slice none 0 0) := (ka0 Y2.out 3).trans rfl
  have k2_3 : w2.frozen? ⟨w.heap.size + 1, 3, none⟩ = false := free_at Y2.out 3
  have Y2a : Hid ((w2.setCell ⟨w.heap.size + 1, 3, none⟩ (.slice A1 n1 c1)).heap[w.heap.size + 1]? = some (.cells #[.int .i64 1, .string ⟨#[]⟩, .int .i64 0, .slice A1 n1 c1, .slice none 0 0, .slice none 0 0] 100 (0, 0))) := Lib.hid (by have z := ka2 (v := .slice A1 n1 c1) Y2.out (k := 3) (by simp); simpa using z)
  have X2a := Lib.hid (ka9 (k := 3) (v := .slice A1 n1 c1) X2.out hne)
  have HG2a := Lib.hid (HG2.out.setLocal (k := 3) (B := w.heap.size + 1) (by omega) hlt (.slice A1 n1 c1))
  have F1_2a := Lib.hid ((ka4 (P := fun t => t = 100) (k := 3) Y2.out rfl (.slice A1 n1 c1)).pt (by decide) F1_2.out)
  go_wp2_with fail
  refine (kae (s := kaK) rfl HG2a.out.rd H2.out).mono ?_
  rintro e w3 ⟨rfl, hg3⟩
  have HG3 := Lib.hid (HG2a.out.trans hg3)
  have x3 := hg3.block X2a.out (by omega)
  have y3 := hg3.block Y2a.out (by omega)
  have X3 := Lib.hid x3
  have Y3 := Lib.hid y3
  have lx3 := lt_of_block x3
  have ly3 := lt_of_block y3
  have F1_3 := Lib.hid ((RdBy.stay HG2a.out.rd hg3).pt (by decide) F1_2a.out)
  clear hg3 x3 y3
  clear q2_3 k2_3
  have q3_0 : w3.cell? ⟨w.heap.size + 1, 0, none⟩ = some (.int .i64 1) := (ka0 Y3.out 0).trans rfl
  have p0 : w3.cell? ⟨w.heap.size, 0, none⟩ = some (.int .i64 0) := (ka0 X3.out 0).trans rfl
  have g0 : w3.frozen? ⟨w.heap.size, 0, none⟩ = false := free_at X3.out 0
  have q3_1 : w3.cell? ⟨w.heap.size + 1, 1, none⟩ = some (.string ⟨#[]⟩) := (ka0 Y3.out 1).trans rfl
  have p1 : w3.cell? ⟨w.heap.size, 1, none⟩ = some (.string ⟨#[]⟩) := (ka0 X3.out 1).trans rfl
  have g1 : w3.frozen? ⟨w.heap.size, 1, none⟩ = false := free_at X3.out 1
  have q3_2 : w3.cell? ⟨w.heap.size + 1, 2, none⟩ = some (.int .i64 0) := (ka0 Y3.out 2).trans rfl
  have p2 : w3.cell? ⟨w.heap.size, 2, none⟩ = some (.int .i64 0) := (ka0 X3.out 2).trans rfl
  have g2 : w3.frozen? ⟨w.heap.size, 2, none⟩ = false := free_at X3.out 2
  have q3_3 : w3.cell? ⟨w.heap.size + 1, 3, none⟩ = some (.slice A1 n1 c1) := (ka0 Y3.out 3).trans rfl
  have p3 : w3.cell? ⟨w.heap.size, 3, none⟩ = some (.slice none 0 0) := (ka0 X3.out 3).trans rfl
  have g3 : w3.frozen? ⟨w.heap.size, 3, none⟩ = false := free_at X3.out 3
  have q3_4 : w3.cell? ⟨w.heap.size + 1, 4, none⟩ = some (.slice none 0 0) := (ka0 Y3.out 4).trans rfl
  have p4 : w3.cell? ⟨w.heap.size, 4, none⟩ = some (.slice none 0 0) := (ka0 X3.out 4).trans rfl
  have g4 : w3.frozen? ⟨w.heap.size, 4, none⟩ = false := free_at X3.out 4
  have q3_5 : w3.cell? ⟨w.heap.size + 1, 5, none⟩ = some (.slice none 0 0) := (ka0 Y3.out 5).trans rfl
  have p5 : w3.cell? ⟨w.heap.size, 5, none⟩ = some (.slice none 0 0) := (ka0 X3.out 5).trans rfl
  have g5 : w3.frozen? ⟨w.heap.size, 5, none⟩ = false := free_at X3.out 5
  go_wp2
  have Z := blk6 X3.out (.int .i64 1) (.string ⟨#[]⟩) (.int .i64 0) (.slice A1 n1 c1) (.slice none 0 0) (.slice none 0 0)
  have hsz : w3.heap.size <= ((((((w3.setCell ⟨w.heap.size, 0, none⟩ (.int .i64 1)).setCell ⟨w.heap.size, 1, none⟩ (.string ⟨#[]⟩)).setCell ⟨w.heap.size, 2, none⟩ (.int .i64 0)).setCell ⟨w.heap.size, 3, none⟩ (.slice A1 n1 c1)).setCell ⟨w.heap.size, 4, none⟩ (.slice none 0 0)).setCell ⟨w.heap.size, 5, none⟩ (.slice none 0 0)).heap.size := by simp [World.setCell]
  have hst : Stay (fun t => t = 100) w3 ((((((w3.setCell ⟨w.heap.size, 0, none⟩ (.int .i64 1)).setCell ⟨w.heap.size, 1, none⟩ (.string ⟨#[]⟩)).setCell ⟨w.heap.size, 2, none⟩ (.int .i64 0)).setCell ⟨w.heap.size, 3, none⟩ (.slice A1 n1 c1)).setCell ⟨w.heap.size, 4, none⟩ (.slice none 0 0)).setCell ⟨w.heap.size, 5, none⟩ (.slice none 0 0)) := kbe X3.out rfl hsz (fun g hg => by simp only [kbJ hg])
  have z0 := (ka0 Z 0).trans (show _ = some (.int .i64 1) from rfl)
  have z1 := (ka0 Z 1).trans (show _ = some (.string ⟨#[]⟩) from rfl)
  have z2 := (ka0 Z 2).trans (show _ = some (.int .i64 0) from rfl)
  have z3 := (ka0 Z 3).trans (show _ = some (.slice A1 n1 c1) from rfl)
  have z4 := (ka0 Z 4).trans (show _ = some (.slice none 0 0) from rfl)
  have z5 := (ka0 Z 5).trans (show _ = some (.slice none 0 0) from rfl)
  clear p0 g0 p1 g1 p2 g2 p3 g3 p4 g4 p5 g5 q3_0 q3_1 q3_2 q3_3 q3_4 q3_5
  exact bodyPost_ret (v := .tuple #[.agg #[.int .i64 1, .string ⟨#[]⟩, .int .i64 0, .slice A1 n1 c1, .slice none 0 0, .slice none 0 0], .bool true]) (by simp [results, Tryd.results67, go_sem, z0, z1, z2, z3, z4, z5]) rfl (ItmO.of HE.out (hst.pt (by decide) F1_3.out) (PtW.nil _ _ rfl) (RowR.nil _ _ _ _) ((((((HG3.out.setLocal (by omega) hlt _).setLocal (by omega) hlt _).setLocal (by omega) hlt _).setLocal (by omega) hlt _).setLocal (by omega) hlt _).setLocal (by omega) hlt _))
end Go.Proofs.YtlhcajhgbkgjbaaDoor.Rp

/- Contracts of the document's reader of programs: an item. Conditions: a reader lies in memory. -/
namespace Go.Proofs.YtlhcajhgbkgjbaaDoor.Rp
open Go.ChangeShapes Go.WideShapes Go.ChangeAt Go.RowKit
open Ex
open Tr (str ka1 ka5 Bytes Nd)
open Pg
set_option maxRecDepth 100000 in
set_option maxHeartbeats 8000000 in
theorem kfr (b : Nat) (r : Rd) (w : World) (hr : RdIn w b r) (E : List Nd) (r0 r1 r2 : Rd) (X : Option Itm × Rd) (t1 : kaw kaP r = (false, r)) (t2 : kaw kat r = (true, r0)) (h1 : kbh r0 = (E, r1)) (h2 : (kaj kaK r1).2 = r2) (he : (some (⟨2, [], 0, E, [], []⟩ : Itm), r2) = X) : Calls Tryd.prog 67 #[.pointer (some ⟨b, 0, none⟩)] w (ItmO w b X) := by
  have HR := Lib.hid hr
  have hlt := hr.lt
  have HE := Lib.hid he
  have T1 := Lib.hid t1
  have T2 := Lib.hid t2
  have HC1 : Hid (∀ w', RdIn w' b r0 -> Calls Tryd.prog 68 #[.pointer (some ⟨b, 0, none⟩)] w' (ExpG w' b (E, r1))) := Lib.hid (fun w' h => by rw [<- h1]; exact kcS b r0 w' h)
  have H2 := Lib.hid h2
  clear t1 t2 h1 h2 he hr
  have hBW : Below w.heap.size w ((w.alloc (.cells #[.int .i64 0, .string ⟨#[]⟩, .int .i64 0, .slice none 0 0, .slice none 0 0, .slice none 0 0] 100)).alloc (.cells #[.int .i64 0, .string ⟨#[]⟩, .int .i64 0, .slice none 0 0, .slice none 0 0, .slice none 0 0] 100)) := (below_new w _).alloc (below_new w _).size _
  have X0 : Hid (((w.alloc (.cells #[.int .i64 0, .string ⟨#[]⟩, .int .i64 0, .slice none 0 0, .slice none 0 0, .slice none 0 0] 100)).alloc (.cells #[.int .i64 0, .string ⟨#[]⟩, .int .i64 0, .slice none 0 0, .slice none 0 0, .slice none 0 0] 100)).heap[w.heap.size]? = some (.cells #[.int .i64 0, .string ⟨#[]⟩, .int .i64 0, .slice none 0 0, .slice none 0 0, .slice none 0 0] 100 (0, 0))) := Lib.hid (kdw (heap_alloc_new w _))
  have Y0 : Hid (((w.alloc (.cells #[.int .i64 0, .string ⟨#[]⟩, .int .i64 0, .slice none 0 0, .slice none 0 0, .slice none 0 0] 100)).alloc (.cells #[.int .i64 0, .string ⟨#[]⟩, .int .i64 0, .slice none 0 0, .slice none 0 0, .slice none 0 0] 100)).heap[w.heap.size + 1]? = some (.cells #[.int .i64 0, .string ⟨#[]⟩, .int .i64 0, .slice none 0 0, .slice none 0 0, .slice none 0 0] 100 (0, 0))) := Lib.hid (kbk (by simp))
  have HG0 := Lib.hid (RdBy.of_below HR.out hBW)
  have hne : w.heap.size ≠ w.heap.size + 1 := by omega
  clear hBW
  go_enter Tryd.func67, Tryd.ntmps67
  go_wp2_with fail
  refine (kad (s := kaP) rfl HG0.out.rd T1.out).mono ?_
  rintro e w1 ⟨rfl, hg1⟩
  have HG1 := Lib.hid (HG0.out.trans hg1)
  have x1 := hg1.block X0.out (by omega)
  have y1 := hg1.block Y0.out (by omega)
  have X1 := Lib.hid x1
  have Y1 := Lib.hid y1
  have lx1 := lt_of_block x1
  have ly1 := lt_of_block y1
  clear hg1 x1 y1
  go_wp2_with fail
  refine (kad (s := kat) rfl HG1.out.rd T2.out).mono ?_
  rintro e w2 ⟨rfl, hg2⟩
  have HG2 := Lib.hid (HG1.out.trans hg2)
  have x2 := hg2.block X1.out (by omega)
  have y2 := hg2.block Y1.out (by omega)
  have X2 := Lib.hid x2
  have Y2 := Lib.hid y2
  have lx2 := lt_of_block x2
  have ly2 := lt_of_block y2
  clear hg2 x2 y2
  have q2_0 : w2.cell? ⟨w.heap.size + 1, 0, none⟩ = some (.int .i64 0) := (ka0 Y2.out 0).trans rfl
  have k2_0 : w2.frozen? ⟨w.heap.size + 1, 0, none⟩ = false := free_at Y2.out 0
  have Y2a : Hid ((w2.setCell ⟨w.heap.size + 1, 0, none⟩ (.int .i64 2)).heap[w.heap.size + 1]? = some (.cells #[.int .i64 2, .string ⟨#[]⟩, .int .i64 0, .slice none 0 0, .slice none 0 0, .slice none 0 0] 100 (0, 0))) := Lib.hid (by have z := ka2 (v := .int .i64 2) Y2.out (k := 0) (by simp); simpa using z)
  have X2a := Lib.hid (ka9 (k := 0) (v := .int .i64 2) X2.out hne)
  have HG2a := Lib.hid (HG2.out.setLocal (k := 0) (B := w.heap.size + 1) (by omega) hlt (.int .i64 2))
  go_wp2_with fail
  refine (HC1.out _ HG2a.out.rd).mono ?_
  rintro e w3 ⟨ev, rfl, hp3, hg3⟩
  have HG3 := Lib.hid (HG2a.out.trans hg3)
  have x3 := hg3.block X2a.out (by omega)
  have y3 := hg3.block Y2a.out (by omega)
  have X3 := Lib.hid x3
  have Y3 := Lib.hid y3
  have lx3 := lt_of_block x3
  have ly3 := lt_of_block y3
  obtain ⟨A1, n1, c1, rfl, u1, v1⟩ := kct hp3
  have F1_3 := Lib.hid hp3
  clear hg3 x3 y3 hp3
  clear q2_0 k2_0
  have q3_3 : w3.cell? ⟨w.heap.size + 1, 3, none⟩ = some (.slice none 0 0) := (ka0 Y3.out 3).trans rfl
  have k3_3 : w3.frozen? ⟨w.heap.size + 1, 3, none⟩ = false := free_at Y3.out 3
  have Y3a : Hid ((w3.setCell ⟨w.heap.size + 1, 3, none⟩ (.slice A1 n1 c1)).heap[w.heap.size + 1]? = some (.cells #[.int .i64 2, .string ⟨#[]⟩, .int .i64 0, .slice A1 n1 c1, .slice none 0 0, .slice none 0 0] 100 (0, 0))) := Lib.hid (by have z := ka2 (v := .slice A1 n1 c1) Y3.out (k := 3) (by simp); simpa using z)
  have X3a := Lib.hid (ka9 (k := 3) (v := .slice A1 n1 c1) X3.out hne)
  have HG3a := Lib.hid (HG3.out.setLocal (k := 3) (B := w.heap.size + 1) (by omega) hlt (.slice A1 n1 c1))
  have F1_3a := Lib.hid ((ka4 (P := fun t => t = 100) (k := 3) Y3.out rfl (.slice A1 n1 c1)).pt (by decide) F1_3.out)
  go_wp2_with fail
  refine (kae (s := kaK) rfl HG3a.out.rd H2.out).mono ?_
  rintro e w4 ⟨rfl, hg4⟩
  have HG4 := Lib.hid (HG3a.out.trans hg4)
  have x4 := hg4.block X3a.out (by omega)
  have y4 := hg4.block Y3a.out (by omega)
  have X4 := Lib.hid x4
  have Y4 := Lib.hid y4
  have lx4 := lt_of_block x4
  have ly4 := lt_of_block y4
  have F1_4 := Lib.hid ((RdBy.stay HG3a.out.rd hg4).pt (by decide) F1_3a.out)
  clear hg4 x4 y4
  clear q3_3 k3_3
  have q4_0 : w4.cell? ⟨w.heap.size + 1, 0, none⟩ = some (.int .i64 2) := (ka0 Y4.out 0).trans rfl
  have p0 : w4.cell? ⟨w.heap.size, 0, none⟩ = some (.int .i64 0) := (ka0 X4.out 0).trans rfl
  have g0 : w4.frozen? ⟨w.heap.size, 0, none⟩ = false := free_at X4.out 0
  have q4_1 : w4.cell? ⟨w.heap.size + 1, 1, none⟩ = some (.string ⟨#[]⟩) := (ka0 Y4.out 1).trans rfl
  have p1 : w4.cell? ⟨w.heap.size, 1, none⟩ = some (.string ⟨#[]⟩) := (ka0 X4.out 1).trans rfl
  have g1 : w4.frozen? ⟨w.heap.size, 1, none⟩ = false := free_at X4.out 1
  have q4_2 : w4.cell? ⟨w.heap.size + 1, 2, none⟩ = some (.int .i64 0) := (ka0 Y4.out 2).trans rfl
  have p2 : w4.cell? ⟨w.heap.size, 2, none⟩ = some (.int .i64 0) := (ka0 X4.out 2).trans rfl
  have g2 : w4.frozen? ⟨w.heap.size, 2, none⟩ = false := free_at X4.out 2
  have q4_3 : w4.cell? ⟨w.heap.size + 1, 3, none⟩ = some (.slice A1 n1 c1) := (ka0 Y4.out 3).trans rfl
  have p3 : w4.cell? ⟨w.heap.size, 3, none⟩ = some (.slice none 0 0) := (ka0 X4.out 3).trans rfl
  have g3 : w4.frozen? ⟨w.heap.size, 3, none⟩ = false := free_at X4.out 3
  have q4_4 : w4.cell? ⟨w.heap.size + 1, 4, none⟩ = some (.slice none 0 0) := (ka0 Y4.out 4).trans rfl
  have p4 : w4.cell? ⟨w.heap.size, 4, none⟩ = some (.slice none 0 0) := (ka0 X4.out 4).trans rfl
  have g4 : w4.frozen? ⟨w.heap.size, 4, none⟩ = false := free_at X4.out 4
  have q4_5 : w4.cell? ⟨w.heap.size + 1, 5, none⟩ = some (.slice none 0 0) := (ka0 Y4.out 5).trans rfl
  have p5 : w4.cell? ⟨w.heap.size, 5, none⟩ = some (.slice none 0 0) := (ka0 X4.out 5).trans rfl
  have g5 : w4.frozen? ⟨w.heap.size, 5, none⟩ = false := free_at X4.out 5
  go_wp2
  have Z := blk6 X4.out (.int .i64 2) (.string ⟨#[]⟩) (.int .i64 0) (.slice A1 n1 c1) (.slice none 0 0) (.slice none 0 0)
  have hsz : w4.heap.size <= ((((((w4.setCell ⟨w.heap.size, 0, none⟩ (.int .i64 2)).setCell ⟨w.heap.size, 1, none⟩ (.string ⟨#[]⟩)).setCell ⟨w.heap.size, 2, none⟩ (.int .i64 0)).setCell ⟨w.heap.size, 3, none⟩ (.slice A1 n1 c1)).setCell ⟨w.heap.size, 4, none⟩ (.slice none 0 0)).setCell ⟨w.heap.size, 5, none⟩ (.slice none 0 0)).heap.size := by simp [World.setCell]
  have hst : Stay (fun t => t = 100) w4 ((((((w4.setCell ⟨w.heap.size, 0, none⟩ (.int .i64 2)).setCell ⟨w.heap.size, 1, none⟩ (.string ⟨#[]⟩)).setCell ⟨w.heap.size, 2, none⟩ (.int .i64 0)).setCell ⟨w.heap.size, 3, none⟩ (.slice A1 n1 c1)).setCell ⟨w.heap.size, 4, none⟩ (.slice none 0 0)).setCell ⟨w.heap.size, 5, none⟩ (.slice none 0 0)) := kbe X4.out rfl hsz (fun g hg => by simp only [kbJ hg])
  have z0 := (ka0 Z 0).trans (show _ = some (.int .i64 2) from rfl)
  have z1 := (ka0 Z 1).trans (show _ = some (.string ⟨#[]⟩) from rfl)
  have z2 := (ka0 Z 2).trans (show _ = some (.int .i64 0) from rfl)
  have z3 := (ka0 Z 3).trans (show _ = some (.slice A1 n1 c1) from rfl)
  have z4 := (ka0 Z 4).trans (show _ = some (.slice none 0 0) from rfl)
  have z5 := (ka0 Z 5).trans (show _ = some (.slice none 0 0) from rfl)
  clear p0 g0 p1 g1 p2 g2 p3 g3 p4 g4 p5 g5 q4_0 q4_1 q4_2 q4_3 q4_4 q4_5
  exact bodyPost_ret (v := .tuple #[.agg #[.int .i64 2, .string ⟨#[]⟩, .int .i64 0, .slice A1 n1 c1, .slice none 0 0, .slice none 0 0], .bool true]) (by simp [results, Tryd.results67, go_sem, z0, z1, z2, z3, z4, z5]) rfl (ItmO.of HE.out (hst.pt (by decide) F1_4.out) (PtW.nil _ _ rfl) (RowR.nil _ _ _ _) ((((((HG4.out.setLocal (by omega) hlt _).setLocal (by omega) hlt _).setLocal (by omega) hlt _).setLocal (by omega) hlt _).setLocal (by omega) hlt _).setLocal (by omega) hlt _))
end Go.Proofs.YtlhcajhgbkgjbaaDoor.Rp

