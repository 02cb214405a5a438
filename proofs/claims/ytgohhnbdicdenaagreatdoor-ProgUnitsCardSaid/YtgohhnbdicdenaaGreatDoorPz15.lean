/- Contracts of layer prog's reader: an expression, a stream's name and type. Conditions: a reader lies in memory. -/
import Derived.Test.YtgohhnbdicdenaaGreatDoorPz09
import Derived.Test.YtgohhnbdicdenaaGreatDoorPz14
namespace Go.Proofs.YtgohhnbdicdenaaGreatDoor.Pg
open Go.ChangeShapes Go.WideShapes Go.ChangeAt Go.RowKit
open Go.Proofs.YtgohhnbdicdenaaGreatDoor.Ex
open Go.Proofs.YtgohhnbdicdenaaGreatDoor.Tr (str ret_bool ret_int Bytes Nd)
set_option linter.unusedVariables false
set_option linter.unusedSimpArgs false

theorem parse_prog {l : List Tok} {lv : Value} {n : Nat} {w : World} (hv : TokOff w w.heap.size lv l) (hvar : VarAt w w.heap.size) (hok : OkR ⟨l, n, 0, 0, 0⟩) : Calls Tryz.prog 137 #[lv, .int .i64 (n : Int)] w (ParseTo w (parseM l n)) := by
  obtain ⟨p, r, e⟩ := run_from l n
  have h := parse_any l lv n w hv hvar hok (p, r) e
  unfold parseM; rw [e]; exact h
theorem parse_top {l : List Tok} {n : Nat} (hok : OkR ⟨l, n, 0, 0, 0⟩) (hlim : l = [] ∨ n ≤ l.length) : (parseM l n).2.1 ≤ 100000 ∧ (l = [] ∨ (parseM l n).2.1 ≤ l.length) := by
  obtain ⟨p, r, e⟩ := run_from l n
  have st := (run_step _ _ _ _ _ e hok.fine (by simp [Task.pre])).1
  have h1 := st.top
  have h2 := hok.len
  have h3 := hok.nxt
  simp only at h1 h2 h3
  unfold parseM; rw [e]
  simp only [parseOf]
  have h4 : l = [] ∨ r.next ≤ l.length := by
    rcases hlim with h | h
    · exact .inl h
    · exact .inr (by omega)
  split
  · exact ⟨by simp, .inr (Nat.zero_le _)⟩
  · split
    · exact ⟨by simp, .inr (Nat.zero_le _)⟩
    · split
      · exact ⟨by simp, .inr (Nat.zero_le _)⟩
      · exact ⟨by simp only; omega, h4⟩
set_option maxHeartbeats 1600000 in
theorem expression_any (b : Nat) (r : Rd) (w : World) (hr : GrAt w b r) : Calls Tryz.prog 126 #[.pointer (some ⟨b, 0, none⟩)] w (ExpG w b (exprP r)) := by
  have HR := Lib.hid hr
  have hlt := hr.lt
  have hnx := hr.ok.nx
  obtain ⟨lv, h1, h2⟩ := hr.blk
  have c0 : w.cell? ⟨b, 0, none⟩ = some lv := gr_cell h1 0
  have c1 : w.cell? ⟨b, 1, none⟩ = some (.int .i64 (r.next : Int)) := gr_cell h1 1
  have HT := Lib.hid (parse_top hr.ok.okr hr.ok.lim)
  have HC : Hid (∀ w', Below w.heap.size w w' → Calls Tryz.prog 137 #[lv, .int .i64 (r.next : Int)] w' (ParseTo w' (parseM r.l r.next))) := Lib.hid (fun w' hb => parse_prog (tok_wide (h2.keep hb.size (fun g _ hg => hb.block g hg)) (by have := hb.size; omega)) (var_wide (HR.out.var.keep hb.size (fun g _ hg => hb.block g hg)) (by have := hb.size; omega)) HR.out.ok.okr)
  obtain ⟨⟨E, N, C, A⟩, hx⟩ : ∃ x, parseM r.l r.next = x := ⟨_, rfl⟩
  have HX := Lib.hid (show exprP r = if C ≠ 0 then ([], Rd.stop C A r) else (E, Rd.to N r) by unfold exprP; rw [hx])
  rw [hx] at HC HT
  simp only at HT
  rw [HX.out]
  clear hr h1 h2 hx HX
  have HW0 : Hid (Below w.heap.size w w.drew) := Lib.hid (Tr.below_drewN (n := 1) (Below.refl w.heap.size w))
  by_cases h0 : C = 0
  · rw [if_neg (by simpa using h0)]
    have hd : (C == 0) = true := by simpa using h0
    clear h0
    go_enter Tryz.func126, Tryz.ntmps126
    go_wp2
    go_region_with ((first | (go_at_call 137; (with_reducible refine (HC.out (w.alloc (.cells #[.int .i64 0, .int .i64 0] 33)).drew (below_drew1 w _)).mono ?_); rintro e w1 ⟨ev, rfl, hpt, hb1⟩; have HP := Lib.hid hpt; have X3 : Hid (w1.heap[w.heap.size]? = some (.cells #[.int .i64 0, .int .i64 0] 33 (0, 0))) := Lib.hid ((hb1.block w.heap.size (by show _ < (w.alloc _).heap.size; simp)).trans (heap_alloc_new w _)); have HB1 := Lib.hid ((below_drew1 w (.cells #[.int .i64 0, .int .i64 0] 33)).trans (hb1.mono (by show w.heap.size ≤ (w.alloc _).heap.size; simp))); have p0 : w1.cell? ⟨w.heap.size, 0, none⟩ = some (.int .i64 0) := (cell_at X3.out 0).trans rfl; have p1 : w1.cell? ⟨w.heap.size, 1, none⟩ = some (.int .i64 0) := (cell_at X3.out 1).trans rfl; have g0 : w1.frozen? ⟨w.heap.size, 0, none⟩ = false := free_at X3.out 0; have g1 : w1.frozen? ⟨w.heap.size, 1, none⟩ = false := free_at X3.out 1; clear hpt hb1) | (go_at_call 137; (with_reducible refine (HC.out w.drew HW0.out).mono ?_); rintro e w1 ⟨ev, rfl, hpt, hb1⟩; have HP := Lib.hid hpt; have HB1 := Lib.hid (HW0.out.trans hb1); have HBB : True := trivial; clear hpt hb1)))
    all_goals first
    | (have HAA := X3
       have hbn : b ≠ w.heap.size := by omega
       have hbn2 : w.heap.size ≠ b := by omega
       have HGa : Hid (GrTo w ((w1.setCell ⟨w.heap.size, 0, none⟩ (.int .i64 C)).setCell ⟨w.heap.size, 1, none⟩ (.int .i64 A)) b r) := Lib.hid (((GrTo.of_below HR.out HB1.out).setLocal (Nat.le_refl _) hlt _).setLocal (Nat.le_refl _) hlt _)
       obtain ⟨c1', f1'⟩ : w1.cell? ⟨b, 1, none⟩ = some (.int .i64 (r.next : Int)) ∧ w1.frozen? ⟨b, 1, none⟩ = false := by
         obtain ⟨lv', k1, _⟩ := (HR.out.below HB1.out).blk
         exact ⟨gr_cell k1 1, gr_free k1 1⟩
       go_wp2
       go_ret
       have HGb := HGa.out.rd.toTo HT.out.2 HT.out.1
       have Y1 := (HP.out.set X3.out (by decide) (k := 0) (.int .i64 C)).set (setObj_heap (v := .int .i64 C) X3.out (k := 0) (by simp)) (by decide) (k := 1) (.int .i64 A)
       exact ⟨_, rfl, (GrTo.stay HGa.out.rd HGb).pt (by decide) Y1, HGa.out.trans HGb⟩
      )
    | (have HAB := HBB
       have hs1 := HB1.out.size
       have hbn : b ≠ w1.heap.size := by omega
       have hbz : b < w1.heap.size := by omega
       have HR1 := Lib.hid (HR.out.below HB1.out)
       obtain ⟨c1', f1'⟩ : w1.cell? ⟨b, 1, none⟩ = some (.int .i64 (r.next : Int)) ∧ w1.frozen? ⟨b, 1, none⟩ = false := by
         obtain ⟨lv', k1, _⟩ := (HR.out.below HB1.out).blk
         exact ⟨gr_cell k1 1, gr_free k1 1⟩
       go_wp2
       go_ret
       have HT2 : GrTo w1 ((w1.setCell ⟨b, 1, none⟩ (.int .i64 (N : Int))).alloc (.cells #[.int .i64 C, .int .i64 A] 33)) b (Rd.to N r) := (HR1.out.toTo HT.out.2 HT.out.1).then_below (below_new _ _)
       exact ⟨_, rfl, (GrTo.stay HR1.out HT2).pt (by decide) HP.out, GrTo.below HB1.out hlt HT2⟩
      )
  · rw [if_pos (by simpa using h0)]
    have hd : (C == 0) = false := by simpa using h0
    clear h0
    go_enter Tryz.func126, Tryz.ntmps126
    go_wp2
    go_region_with ((first | (go_at_call 137; (with_reducible refine (HC.out (w.alloc (.cells #[.int .i64 0, .int .i64 0] 33)).drew (below_drew1 w _)).mono ?_); rintro e w1 ⟨ev, rfl, hpt, hb1⟩; have HP := Lib.hid hpt; have X3 : Hid (w1.heap[w.heap.size]? = some (.cells #[.int .i64 0, .int .i64 0] 33 (0, 0))) := Lib.hid ((hb1.block w.heap.size (by show _ < (w.alloc _).heap.size; simp)).trans (heap_alloc_new w _)); have HB1 := Lib.hid ((below_drew1 w (.cells #[.int .i64 0, .int .i64 0] 33)).trans (hb1.mono (by show w.heap.size ≤ (w.alloc _).heap.size; simp))); have p0 : w1.cell? ⟨w.heap.size, 0, none⟩ = some (.int .i64 0) := (cell_at X3.out 0).trans rfl; have p1 : w1.cell? ⟨w.heap.size, 1, none⟩ = some (.int .i64 0) := (cell_at X3.out 1).trans rfl; have g0 : w1.frozen? ⟨w.heap.size, 0, none⟩ = false := free_at X3.out 0; have g1 : w1.frozen? ⟨w.heap.size, 1, none⟩ = false := free_at X3.out 1; clear hpt hb1) | (go_at_call 137; (with_reducible refine (HC.out w.drew HW0.out).mono ?_); rintro e w1 ⟨ev, rfl, hpt, hb1⟩; have HP := Lib.hid hpt; have HB1 := Lib.hid (HW0.out.trans hb1); have HBB : True := trivial; clear hpt hb1)))
    all_goals first
    | (have HAA := X3
       have hbn : b ≠ w.heap.size := by omega
       have hbn2 : w.heap.size ≠ b := by omega
       have HGa : Hid (GrTo w ((w1.setCell ⟨w.heap.size, 0, none⟩ (.int .i64 C)).setCell ⟨w.heap.size, 1, none⟩ (.int .i64 A)) b r) := Lib.hid (((GrTo.of_below HR.out HB1.out).setLocal (Nat.le_refl _) hlt _).setLocal (Nat.le_refl _) hlt _)
       go_wp2_with fail
       refine (end_any b r C A _ HGa.out.rd).mono ?_
       rintro e w2 ⟨rfl, hg2⟩
       have HG2 := Lib.hid hg2
       clear hg2
       go_wp2
       go_ret
       exact ⟨_, rfl, PtW.nil _ _ rfl, HGa.out.trans HG2.out⟩
      )
    | (have HAB := HBB
       have hs1 := HB1.out.size
       have hbn : b ≠ w1.heap.size := by omega
       have hbz : b < w1.heap.size := by omega
       have HR1 := Lib.hid (HR.out.below HB1.out)
       go_wp2_with fail
       refine (end_any b r C A _ (HR1.out.below (below_new _ _))).mono ?_
       rintro e w2 ⟨rfl, hg2⟩
       have HG2 := Lib.hid hg2
       clear hg2
       go_wp2
       go_ret
       exact ⟨_, rfl, PtW.nil _ _ rfl, GrTo.below HB1.out hlt (GrTo.below (below_new _ _) HR1.out.lt HG2.out)⟩
      )
end Go.Proofs.YtgohhnbdicdenaaGreatDoor.Pg

