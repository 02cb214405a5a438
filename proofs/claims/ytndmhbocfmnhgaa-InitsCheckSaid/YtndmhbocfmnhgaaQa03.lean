/- Contracts of the document's reader of programs: an expression. Conditions: a reader lies in memory. -/
import Derived.Test.YtndmhbocfmnhgaaQa02
import Derived.Test.YtndmhbocfmnhgaaPq22
namespace Go.Proofs.Ytndmhbocfmnhgaa.Rp
open Go.ChangeShapes Go.WideShapes Go.ChangeAt Go.RowKit
open Go.Proofs.Ytndmhbocfmnhgaa.Ex
open Go.Proofs.Ytndmhbocfmnhgaa.Tr (str ret_bool ret_int Bytes Nd)
open Go.Proofs.Ytndmhbocfmnhgaa.Pg
set_option linter.unusedVariables false
set_option linter.unusedSimpArgs false

theorem run_from (l : List Tok) (k : Nat) : ∃ p r, run (fuelOf l k) (.lev 1) ⟨l, k, 0, 0, 0⟩ = some (p, r) := by
  obtain ⟨⟨p, r⟩, h⟩ := run_total (fuelOf l k) (.lev 1) ⟨l, k, 0, 0, 0⟩ (fun hc => absurd rfl hc) (by simp [Task.pre]) (by unfold fuelOf Rd.rem Task.wt; simp; omega)
  exact ⟨p, r, h⟩
theorem parse_doc {L : List Tok} {lv : Value} {n : Nat} {w : World} {b : Nat} (hv : TokOff w b lv L) (hb : b ≤ w.heap.size) (hok : Rf.OkL L) (ht : ∀ t ∈ L, t.text.length ≤ 1000000) (hn : n ≤ L.length) : Calls Try.prog 37 #[lv, .int .i64 (n : Int)] w (ParseTo w (parseM L n)) := by
  obtain ⟨p, r, e⟩ := run_from L n
  have h := Rf.rparse_any L hok ht lv n hn w (tok_wide hv hb) p r e
  unfold parseM; rw [e]; exact h
theorem parse_in {L : List Tok} {n : Nat} (hlen : L.length ≤ 1000000) (hn : n ≤ L.length) (hc : (parseM L n).2.2.1 = 0) : (parseM L n).2.1 ≤ L.length := by
  obtain ⟨p, r, e⟩ := run_from L n
  have h1 := (run_step _ _ _ _ _ e (fun hc => absurd rfl hc) (by simp [Task.pre])).1.top
  simp only at h1
  unfold parseM at hc ⊢; rw [e] at hc ⊢
  simp only [parseOf] at hc ⊢
  split
  · simp
  · split
    · simp
    · split
      · simp
      · simp only; omega
set_option maxHeartbeats 1600000 in
theorem expr_any (b : Nat) (r : Rd) (w : World) (hr : RdIn w b r) : Calls Try.prog 73 #[.pointer (some ⟨b, 0, none⟩)] w (ExpG w b (exprQ r)) := by
  have HR := Lib.hid hr
  have hlt := hr.lt
  by_cases h0 : r.code = 0
  rotate_left
  · have HOK := Lib.hid (ok_lit (B := false) HR.out (by simpa using h0))
    have HT : Hid (exprQ r = ([], r)) := Lib.hid (by unfold exprQ; rw [if_pos h0])
    rw [HT.out]
    clear h0 hr
    go_enter Try.func73, Try.ntmps73
    go_wp2_with fail
    refine HOK.out.mono ?_
    rintro x w1 ⟨rfl, rfl⟩
    go_wp2
    go_ret
    exact ⟨_, rfl, PtW.nil _ _ rfl, RdBy.refl HR.out⟩
  have HOK := Lib.hid (ok_lit (B := true) HR.out (by rw [h0]; rfl))
  obtain ⟨L, lv, i, c, a, hat⟩ := hr
  have HAT := Lib.hid hat
  obtain ⟨q1, q2, q3, q4⟩ := hat.st.resolve_right (fun h => h.1 h0)
  have hlv := hat.tok
  obtain ⟨A0, cc, rfl, z1, z2, _⟩ := hlv
  have c0 : w.cell? ⟨b, 0, none⟩ = some (.slice A0 L.length cc) := rp_cell hat.blk 0
  have c1 : w.cell? ⟨b, 1, none⟩ = some (.int .i64 (i : Int)) := rp_cell hat.blk 1
  have hil := hat.ile
  have hL := hat.okl.len
  have HC : Hid (∀ w', Below w.heap.size w w' → Calls Try.prog 37 #[.slice A0 L.length cc, .int .i64 (i : Int)] w' (ParseTo w' (parseM L i))) := Lib.hid (fun w' hb => parse_doc (HAT.out.tok.keep hb.size (fun g _ hg => hb.block g hg)) (by have := hb.size; omega) HAT.out.okl HAT.out.txt HAT.out.ile)
  have HP0 := Lib.hid (parse_in (n := i) (by omega) hil)
  have hx0 : exprQ r = if (parseM L i).2.2.1 ≠ 0 then ([], Pg.Rd.stop (parseM L i).2.2.1 (parseM L i).2.2.2 r) else ((parseM L i).1, Pg.Rd.to (parseM L i).2.1 r) := by unfold exprQ; rw [if_neg (by simpa using h0), q3, ← q4]
  have H0 := Lib.hid h0
  obtain ⟨⟨E, N, C, A⟩, hx⟩ : ∃ x, parseM L i = x := ⟨_, rfl⟩
  rw [hx] at HC HP0 hx0
  simp only at HP0 hx0
  rw [hx0]
  clear hat hx hx0 h0 q1 q2 q3 q4
  have HW0 : Hid (Below w.heap.size w w.drew) := Lib.hid (Tr.below_drewN (n := 1) (Below.refl w.heap.size w))
  have HW1 : Hid (Below w.heap.size w (w.alloc (.cells #[.int .i64 0, .int .i64 0] 34)).drew) := Lib.hid (below_drew1 w _)
  by_cases hC : C = 0
  · rw [if_neg (by simpa using hC)]
    have hd : (C != 0) = false := by simpa using hC
    have HN := Lib.hid (HP0.out hC)
    clear hC
    go_enter Try.func73, Try.ntmps73
    go_wp2_with fail
    refine HOK.out.mono ?_
    rintro x wz ⟨rfl, rfl⟩
    go_wp2
    go_region_with ((first | (go_at_call 37; (with_reducible refine (HC.out (w.alloc (.cells #[.int .i64 0, .int .i64 0] 34)).drew HW1.out).mono ?_); rintro e w1 ⟨ev, rfl, hpt, hb1⟩; have HP := Lib.hid hpt; have X3 : Hid (w1.heap[w.heap.size]? = some (.cells #[.int .i64 0, .int .i64 0] 34 (0, 0))) := Lib.hid ((hb1.block w.heap.size (by show _ < (w.alloc _).heap.size; simp)).trans (heap_alloc_new w _)); have HB1 := Lib.hid (HW1.out.trans (hb1.mono (by show w.heap.size ≤ (w.alloc _).heap.size; simp))); have p0 : w1.cell? ⟨w.heap.size, 0, none⟩ = some (.int .i64 0) := (cell_at X3.out 0).trans rfl; have p1 : w1.cell? ⟨w.heap.size, 1, none⟩ = some (.int .i64 0) := (cell_at X3.out 1).trans rfl; have g0 : w1.frozen? ⟨w.heap.size, 0, none⟩ = false := free_at X3.out 0; have g1 : w1.frozen? ⟨w.heap.size, 1, none⟩ = false := free_at X3.out 1; clear hpt hb1) | (go_at_call 37; (with_reducible refine (HC.out w.drew HW0.out).mono ?_); rintro e w1 ⟨ev, rfl, hpt, hb1⟩; have HP := Lib.hid hpt; have HB1 := Lib.hid (HW0.out.trans hb1); have HBB : True := trivial; clear hpt hb1)))
    all_goals first
    | (have HAA := X3
       have hbn : b ≠ w.heap.size := by omega
       have hbn2 : w.heap.size ≠ b := by omega
       have hsz := HB1.out.size
       have HK := Lib.hid (HAT.out.below (Below.setCell (Below.setCell HB1.out (p := ⟨w.heap.size, 0, none⟩) (Nat.le_refl _) (.int .i64 C)) (p := ⟨w.heap.size, 1, none⟩) (Nat.le_refl _) (.int .i64 A)))
       have HK1 := HAT.out.below HB1.out
       have c1' : w1.cell? ⟨b, 1, none⟩ = some (.int .i64 (i : Int)) := rp_cell HK1.blk 1
       have f1' : w1.frozen? ⟨b, 1, none⟩ = false := rp_free HK1.blk 1
       clear HK1
       go_wp2
       go_ret
       have HGb := HK.out.setTo H0.out HN.out
       have Y1 := (HP.out.set X3.out (by decide) (k := 0) (.int .i64 C)).set (setObj_heap (v := .int .i64 C) X3.out (k := 0) (by simp)) (by decide) (k := 1) (.int .i64 A)
       exact ⟨_, rfl, (RdBy.stay ⟨_, _, _, _, _, HK.out⟩ HGb).pt (by decide) Y1, (RdBy.of_below HR.out (Below.setCell (Below.setCell HB1.out (p := ⟨w.heap.size, 0, none⟩) (Nat.le_refl _) (.int .i64 C)) (p := ⟨w.heap.size, 1, none⟩) (Nat.le_refl _) (.int .i64 A))).trans HGb⟩)
    | (have HAB := HBB
       have hs1 := HB1.out.size
       have hbn : b ≠ w1.heap.size := by omega
       have hbz : b < w1.heap.size := by omega
       have HK1 := HAT.out.below HB1.out
       have HK := Lib.hid HK1
       have c1' : w1.cell? ⟨b, 1, none⟩ = some (.int .i64 (i : Int)) := rp_cell HK1.blk 1
       have f1' : w1.frozen? ⟨b, 1, none⟩ = false := rp_free HK1.blk 1
       clear HK1
       go_wp2
       go_ret
       have HT2 := (HK.out.setTo H0.out HN.out).then_below (below_new _ (.cells #[.int .i64 C, .int .i64 A] 34))
       exact ⟨_, rfl, (RdBy.stay ⟨_, _, _, _, _, HK.out⟩ HT2).pt (by decide) HP.out, RdBy.below HB1.out hlt HT2⟩)
  · rw [if_pos (by simpa using hC)]
    have hd : (C != 0) = true := by simpa using hC
    have HCN := Lib.hid hC
    clear hC
    go_enter Try.func73, Try.ntmps73
    go_wp2_with fail
    refine HOK.out.mono ?_
    rintro x wz ⟨rfl, rfl⟩
    go_wp2
    go_region_with ((first | (go_at_call 37; (with_reducible refine (HC.out (w.alloc (.cells #[.int .i64 0, .int .i64 0] 34)).drew HW1.out).mono ?_); rintro e w1 ⟨ev, rfl, hpt, hb1⟩; have HP := Lib.hid hpt; have X3 : Hid (w1.heap[w.heap.size]? = some (.cells #[.int .i64 0, .int .i64 0] 34 (0, 0))) := Lib.hid ((hb1.block w.heap.size (by show _ < (w.alloc _).heap.size; simp)).trans (heap_alloc_new w _)); have HB1 := Lib.hid (HW1.out.trans (hb1.mono (by show w.heap.size ≤ (w.alloc _).heap.size; simp))); have p0 : w1.cell? ⟨w.heap.size, 0, none⟩ = some (.int .i64 0) := (cell_at X3.out 0).trans rfl; have p1 : w1.cell? ⟨w.heap.size, 1, none⟩ = some (.int .i64 0) := (cell_at X3.out 1).trans rfl; have g0 : w1.frozen? ⟨w.heap.size, 0, none⟩ = false := free_at X3.out 0; have g1 : w1.frozen? ⟨w.heap.size, 1, none⟩ = false := free_at X3.out 1; clear hpt hb1) | (go_at_call 37; (with_reducible refine (HC.out w.drew HW0.out).mono ?_); rintro e w1 ⟨ev, rfl, hpt, hb1⟩; have HP := Lib.hid hpt; have HB1 := Lib.hid (HW0.out.trans hb1); have HBB : True := trivial; clear hpt hb1)))
    all_goals first
    | (have HAA := X3
       have hbn : b ≠ w.heap.size := by omega
       have hbn2 : w.heap.size ≠ b := by omega
       have hsz := HB1.out.size
       have HK := Lib.hid (HAT.out.below (Below.setCell (Below.setCell HB1.out (p := ⟨w.heap.size, 0, none⟩) (Nat.le_refl _) (.int .i64 C)) (p := ⟨w.heap.size, 1, none⟩) (Nat.le_refl _) (.int .i64 A)))
       have HK1 := HAT.out.below HB1.out
       have c2' : w1.cell? ⟨b, 2, none⟩ = some (.int .i64 c) := rp_cell HK1.blk 2
       have f2' : w1.frozen? ⟨b, 2, none⟩ = false := rp_free HK1.blk 2
       have c3' : w1.cell? ⟨b, 3, none⟩ = some (.int .i64 a) := rp_cell HK1.blk 3
       have f3' : w1.frozen? ⟨b, 3, none⟩ = false := rp_free HK1.blk 3
       clear HK1
       go_wp2
       go_ret
       exact ⟨_, rfl, PtW.nil _ _ rfl, (RdBy.of_below HR.out (Below.setCell (Below.setCell HB1.out (p := ⟨w.heap.size, 0, none⟩) (Nat.le_refl _) (.int .i64 C)) (p := ⟨w.heap.size, 1, none⟩) (Nat.le_refl _) (.int .i64 A))).trans (HK.out.setF H0.out C A HCN.out)⟩)
    | (have HAB := HBB
       have hs1 := HB1.out.size
       have hbn : b ≠ w1.heap.size := by omega
       have hbz : b < w1.heap.size := by omega
       have HK1 := HAT.out.below HB1.out
       have HK := Lib.hid HK1
       have c2' : w1.cell? ⟨b, 2, none⟩ = some (.int .i64 c) := rp_cell HK1.blk 2
       have f2' : w1.frozen? ⟨b, 2, none⟩ = false := rp_free HK1.blk 2
       have c3' : w1.cell? ⟨b, 3, none⟩ = some (.int .i64 a) := rp_cell HK1.blk 3
       have f3' : w1.frozen? ⟨b, 3, none⟩ = false := rp_free HK1.blk 3
       clear HK1
       go_wp2
       go_ret
       exact ⟨_, rfl, PtW.nil _ _ rfl, RdBy.below HB1.out hlt ((HK.out.setF H0.out C A HCN.out).then_below (below_new _ (.cells #[.int .i64 C, .int .i64 A] 34)))⟩)
end Go.Proofs.Ytndmhbocfmnhgaa.Rp

