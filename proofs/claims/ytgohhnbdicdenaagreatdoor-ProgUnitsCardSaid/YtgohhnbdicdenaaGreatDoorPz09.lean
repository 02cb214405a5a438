/- Contracts of the small functions of layer prog's reader. Conditions: a reader lies in memory. -/
import Derived.Test.YtgohhnbdicdenaaGreatDoorPz08
import Derived.BigQuiet
import Derived.Deep.LoopGhost
import Derived.OwnWalk
import Derived.Maps.AppendAt
import Derived.Test.YtgohhnbdicdenaaGreatDoorPz04
namespace Go.Proofs.YtgohhnbdicdenaaGreatDoor.Pg
open Go.ChangeShapes Go.WideShapes Go.ChangeAt Go.RowKit
open Go.Proofs.YtgohhnbdicdenaaGreatDoor.Ex
open Go.Proofs.YtgohhnbdicdenaaGreatDoor.Tr (str ret_bool ret_int Bytes Nd)
set_option linter.unusedVariables false
set_option linter.unusedSimpArgs false

theorem GrAt.drew {w : World} {b : Nat} {r : Rd} (h : GrAt w b r) : GrAt w.drew b r := h.keep (Nat.le_refl _) (fun _ _ _ => rfl) rfl
theorem tok_drew {w : World} {b : Nat} {v : Value} {l : List Tok} (h : TokOff w b v l) : TokOff w.drew b v l := h.keep (Nat.le_refl _) (fun _ _ _ => rfl)
theorem GrTo.undrew {w w' : World} {b : Nat} {r : Rd} (h : GrTo w.drew w' b r) : GrTo w w' b r := ⟨h.rd, grown_undrew h.grown⟩
set_option maxHeartbeats 800000 in
theorem text_any (b : Nat) (r : Rd) (w : World) (hr : GrAt w b r) : Calls Tryz.prog 93 #[.pointer (some ⟨b, 0, none⟩)] w (fun e w' => e = .returned (.string (str (txt r))) ∧ Below w.heap.size w w') := by
  obtain ⟨lv, hb, A, c, rfl, h1, h2, hA⟩ := hr.blk
  unfold maxLen at h2
  have hlt := hr.lt
  have hnx := hr.ok.nx
  have c0 : w.cell? ⟨b, 0, none⟩ = some (.slice A r.l.length c) := gr_cell hb 0
  have c1 : w.cell? ⟨b, 1, none⟩ = some (.int .i64 (r.next : Int)) := gr_cell hb 1
  have HA := Lib.hid hA
  clear hA hr hb
  have d0 : decide ((r.next : Int) < 0) = false := by simp
  by_cases hl : r.next < r.l.length
  · obtain ⟨t, ht⟩ : ∃ t, r.l[r.next]? = some t := ⟨_, List.getElem?_eq_getElem hl⟩
    obtain ⟨g, rfl, _, hg, e0, e1, e2⟩ := HA.out _ t ht
    have HT := Lib.hid (show txt r = t.text by unfold txt Rd.cur; rw [ht]; rfl)
    have d1 : decide (r.l.length ≤ r.next) = false := by simp; omega
    clear ht
    obtain ⟨K, T, P⟩ := t
    simp only at e0 e1 e2 HT
    rw [HT.out]
    go_enter Tryz.func93, Tryz.ntmps93
    go_wp2
    go_quiet (fail)
    go_wp2
    go_quiet (fail)
    go_wp2
    go_ret
    exact ⟨rfl, by repeat (first | exact Below.refl _ _ | refine Tr.below_drewN ?_ _)⟩
  · have HT := Lib.hid (show txt r = [] by unfold txt Rd.cur; rw [List.getElem?_eq_none (by omega)]; rfl)
    have d1 : decide (r.l.length ≤ r.next) = true := by simp; omega
    rw [HT.out]
    go_enter Tryz.func93, Tryz.ntmps93
    go_wp2
    go_quiet (fail)
    go_wp2
    go_ret
    exact ⟨rfl, by repeat (first | exact Below.refl _ _ | refine Tr.below_drewN ?_ _)⟩
set_option maxHeartbeats 800000 in
theorem atName_any (b : Nat) (r : Rd) (w : World) (hr : GrAt w b r) : Calls Tryz.prog 96 #[.pointer (some ⟨b, 0, none⟩)] w (fun e w' => e = .returned (.bool (atNameB r)) ∧ Below w.heap.size w w') := by
  obtain ⟨lv, hb, A, c, rfl, h1, h2, hA⟩ := hr.blk
  unfold maxLen at h2
  have hlt := hr.lt
  have hnx := hr.ok.nx
  have c0 : w.cell? ⟨b, 0, none⟩ = some (.slice A r.l.length c) := gr_cell hb 0
  have c1 : w.cell? ⟨b, 1, none⟩ = some (.int .i64 (r.next : Int)) := gr_cell hb 1
  have HA := Lib.hid hA
  clear hA hr hb
  have d0 : decide ((r.next : Int) < 0) = false := by simp
  by_cases hl : r.next < r.l.length
  · obtain ⟨t, ht⟩ : ∃ t, r.l[r.next]? = some t := ⟨_, List.getElem?_eq_getElem hl⟩
    obtain ⟨g, rfl, _, hg, e0, e1, e2⟩ := HA.out _ t ht
    have HT := Lib.hid (show atNameB r = (t.kind == 1) by unfold atNameB Rd.cur; rw [ht, decide_eq_true hl]; rfl)
    clear ht
    obtain ⟨K, T, P⟩ := t
    simp only at e0 e1 e2 HT
    have d1 : decide (r.next < r.l.length) = true := by simp [hl]
    rw [HT.out]
    rcases Bool.eq_false_or_eq_true (K == 1) with hk | hk
    all_goals
      rw [hk]
      go_enter Tryz.func96, Tryz.ntmps96
      go_wp2
      go_quiet (fail)
      go_wp2
      go_ret
      exact ⟨rfl, by repeat (first | exact Below.refl _ _ | refine Tr.below_drewN ?_ _)⟩
  · have HT := Lib.hid (show atNameB r = false by unfold atNameB; rw [decide_eq_false hl]; rfl)
    have d1 : decide (r.next < r.l.length) = false := by simp; omega
    rw [HT.out]
    go_enter Tryz.func96, Tryz.ntmps96
    go_wp2
    go_quiet (fail)
    go_wp2
    go_ret
    exact ⟨rfl, by repeat (first | exact Below.refl _ _ | refine Tr.below_drewN ?_ _)⟩

theorem GrAt.turn {w W : World} {b : Nat} {r r' : Rd} (h : GrAt w b r) (hg : w.grownBy W (some b)) (hok : OkG r') (hl : r'.l = []) (hb : W.heap[b]? = some (.cells (grCells (.slice none 0 0) r') 74 (0, 0))) : GrTo w W b r' := by
  have hk : ∀ g, g < b → g < w.heap.size → W.heap[g]? = w.heap[g]? := fun g h3 h4 => hg.block g h4 (fun e => Nat.ne_of_lt h3 (by injection e))
  exact ⟨⟨⟨_, hb, by rw [hl]; exact TokOff.nil _ _⟩, h.var.keep hg.size hk, hok⟩, hg⟩
theorem grown_set {w W : World} {b k : Nat} {v : Value} (h : w.grownBy W (some b)) : w.grownBy (W.setCell ⟨b, k, none⟩ v) (some b) :=
  ⟨h.os, h.tape, h.output, by simpa [World.setCell] using h.size, fun i hi hne => (Below.heap_setCell W ⟨b, k, none⟩ v i (fun e => hne (by simp at e; rw [e]))).trans (h.block i hi hne)⟩
theorem GrAt.stopTo {w : World} {b : Nat} {r : Rd} (h : GrAt w b r) (C A : Int) (h0 : r.code = 0) :
    GrTo w (((w.setCell ⟨b, 2, none⟩ (.int .i64 C)).setCell ⟨b, 3, none⟩ (.int .i64 A)).setCell ⟨b, 0, none⟩ (.slice none 0 0)) b (Rd.stop C A r) := by
  obtain ⟨lv, h1, h2⟩ := h.blk
  refine h.turn (grown_set (grown_set (grown_set (World.grownBy.refl w _)))) (h.ok.stop C A) (by unfold Rd.stop; split <;> rfl) ?_
  rw [setObj_heap (setObj_heap (setObj_heap h1 (by simp [grCells])) (by simp [grCells])) (by simp [grCells])]
  unfold Rd.stop
  rw [if_pos h0]
  simp [grCells]
theorem GrAt.endTo {w : World} {b : Nat} {r : Rd} (h : GrAt w b r) (C A : Int) (h0 : r.code ≠ 0) :
    GrTo w (w.setCell ⟨b, 0, none⟩ (.slice none 0 0)) b (Rd.stop C A r) := by
  obtain ⟨lv, h1, h2⟩ := h.blk
  refine h.turn (grown_set (World.grownBy.refl w _)) (h.ok.stop C A) (by unfold Rd.stop; split <;> rfl) ?_
  rw [setObj_heap h1 (by simp [grCells])]
  unfold Rd.stop
  rw [if_neg h0]
  simp [grCells]
set_option maxHeartbeats 800000 in
theorem end_any (b : Nat) (r : Rd) (C A : Int) (w : World) (hr : GrAt w b r) : Calls Tryz.prog 97 #[.pointer (some ⟨b, 0, none⟩), .agg #[.int .i64 C, .int .i64 A]] w (fun e w' => e = .returned (.tuple #[]) ∧ GrTo w w' b (Rd.stop C A r)) := by
  have HR := Lib.hid hr
  have hlt := hr.lt
  obtain ⟨lv, h1, h2⟩ := hr.blk
  have c0 : w.cell? ⟨b, 0, none⟩ = some lv := gr_cell h1 0
  have c2 : w.cell? ⟨b, 2, none⟩ = some (.int .i64 r.code) := gr_cell h1 2
  have c3 : w.cell? ⟨b, 3, none⟩ = some (.int .i64 r.at_) := gr_cell h1 3
  have f0 : w.frozen? ⟨b, 0, none⟩ = false := gr_free h1 0
  have f2 : w.frozen? ⟨b, 2, none⟩ = false := gr_free h1 2
  have f3 : w.frozen? ⟨b, 3, none⟩ = false := gr_free h1 3
  clear hr h1 h2
  have hbn : b ≠ w.heap.size := by omega
  by_cases h0 : r.code = 0
  · have hd : (r.code == 0) = true := by simpa using h0
    have H0 := Lib.hid h0
    clear h0
    go_enter Tryz.func97, Tryz.ntmps97
    go_wp2
    go_end0
    exact ⟨rfl, (HR.out.stopTo C A H0.out).then_below (below_new _ _)⟩
  · have hd : (r.code == 0) = false := by simpa using h0
    have H0 := Lib.hid h0
    clear h0
    go_enter Tryz.func97, Tryz.ntmps97
    go_wp2
    go_end0
    exact ⟨rfl, (HR.out.endTo C A H0.out).then_below (below_new _ _)⟩
theorem fail_stop (r : Rd) (e : Int) : Rd.stop e (atM r.l r.next) r = r.fail e := by unfold Rd.stop Rd.fail; rfl
set_option maxHeartbeats 800000 in
theorem fail_any (b : Nat) (r : Rd) (e : Int) (w : World) (hr : GrAt w b r) : Calls Tryz.prog 76 #[.pointer (some ⟨b, 0, none⟩), .int .i64 e] w (fun x w' => x = .returned (.tuple #[]) ∧ GrTo w w' b (r.fail e)) := by
  have HR := Lib.hid hr
  have hlt := hr.lt
  have hnx : r.next ≤ 1000000 := by have := hr.ok.nx; omega
  obtain ⟨lv, h1, h2⟩ := hr.blk
  have c0 : w.cell? ⟨b, 0, none⟩ = some lv := gr_cell h1 0
  have c1 : w.cell? ⟨b, 1, none⟩ = some (.int .i64 (r.next : Int)) := gr_cell h1 1
  have H2 := Lib.hid h2
  clear hr h1 h2
  rw [← fail_stop]
  obtain ⟨A, hA⟩ : ∃ A, atM r.l r.next = A := ⟨_, rfl⟩
  have HC : Hid (∀ w' : World, TokOff w' b lv r.l → Calls Tryz.prog 98 #[lv, .int .i64 (r.next : Int)] w' fun e w'' => e = .returned (.int .i64 A) ∧ w' = w'') := Lib.hid (fun w' h => by rw [← hA]; exact at_any lv r.l b r.next w' h hnx)
  rw [hA]
  clear hA
  go_enter Tryz.func76, Tryz.ntmps76
  go_wp2
  go_region_with ((first | (go_at_call 98; refine (HC.out _ (by first | exact H2.out | exact tok_drew H2.out)).mono ?_; rintro x w' ⟨rfl, rfl⟩) | (go_at_call 97; refine (end_any b r e A _ (by first | exact HR.out | exact HR.out.drew)).mono ?_; rintro x w' ⟨rfl, hG⟩; have HG := Lib.hid hG; clear hG)))
  all_goals go_wp2
  all_goals go_end0
  all_goals exact ⟨rfl, by first | exact HG.out | exact HG.out.undrew⟩
/-- What tells a Bool and turns a reader. -/
def BoolG (w : World) (b : Nat) (B : Bool) (r' : Rd) (e : Ending) (w' : World) : Prop := e = .returned (.bool B) ∧ GrTo w w' b r'
set_option maxHeartbeats 800000 in
theorem take_any (b : Nat) (r : Rd) (s : Bytes) (w : World) (hr : GrAt w b r) (hs : s ≠ []) : Calls Tryz.prog 75 #[.pointer (some ⟨b, 0, none⟩), .string (str s)] w (BoolG w b (takeP s r).1 (takeP s r).2) := by
  have HR := Lib.hid hr
  have hlt := hr.lt
  have HC := Lib.hid (text_any b r w hr)
  have HO : Hid (∀ w1, Below w.heap.size w w1 → w1.cell? ⟨b, 1, none⟩ = some (.int .i64 (r.next : Int)) ∧ w1.frozen? ⟨b, 1, none⟩ = false) := Lib.hid (fun w1 hb => by
    obtain ⟨lv, h1, _⟩ := (HR.out.below hb).blk
    exact ⟨gr_cell h1 1, gr_free h1 1⟩)
  have hnx := hr.ok.nx
  clear hr
  obtain ⟨t, ht⟩ : ∃ t, txt r = t := ⟨_, rfl⟩
  have HT := Lib.hid ht
  rw [ht] at HC
  clear ht
  by_cases hts : t = s
  · have HE : Hid ((takeP s r).1 = true ∧ (takeP s r).2 = r.adv) := Lib.hid (by unfold takeP; rw [if_pos (HT.out.trans hts)]; exact ⟨rfl, rfl⟩)
    have HN : Hid (r.next < r.l.length) := Lib.hid (txt_in (by rw [HT.out, hts]; exact hs))
    rw [HE.out.1, HE.out.2]
    subst hts
    have hd : (!(str t).toList == (str t).toList) = false := by simp
    go_enter Tryz.func75, Tryz.ntmps75
    go_wp2_with fail
    refine HC.out.mono ?_
    rintro e w1 ⟨rfl, hb⟩
    obtain ⟨c1, f1⟩ := HO.out w1 hb
    have HBL := Lib.hid hb
    clear hb
    go_wp2
    go_ret
    exact ⟨rfl, GrTo.below HBL.out hlt ((HR.out.below HBL.out).advTo HN.out)⟩
  · have HE : Hid ((takeP s r).1 = false ∧ (takeP s r).2 = r) := Lib.hid (by unfold takeP; rw [if_neg (by rw [HT.out]; exact hts)]; exact ⟨rfl, rfl⟩)
    rw [HE.out.1, HE.out.2]
    have hd : (!(str t).toList == (str s).toList) = true := by simp [Tr.str_toList, hts]
    clear hts
    go_enter Tryz.func75, Tryz.ntmps75
    go_wp2_with fail
    refine HC.out.mono ?_
    rintro e w1 ⟨rfl, hb⟩
    have HBL := Lib.hid hb
    clear hb
    go_wp2
    go_ret
    exact ⟨rfl, GrTo.of_below HR.out HBL.out⟩
theorem need_cases (s : Bytes) (r : Rd) : ((takeP s r).1 = true ∧ (needP s r).2 = (takeP s r).2) ∨ ((takeP s r).1 = false ∧ (needP s r).2 = (takeP s r).2.fail 5) := by
  unfold takeP needP
  by_cases h : txt r = s <;> simp [h]
theorem lit_eq (s t : Bytes) : ((str s).toList == t) = decide (s = t) := by
  rw [Tr.str_toList]
  by_cases h : s = t <;> simp [h]
set_option maxHeartbeats 800000 in
theorem need_any (b : Nat) (r : Rd) (s : Bytes) (w : World) (hr : GrAt w b r) (hs : s ≠ []) : Calls Tryz.prog 73 #[.pointer (some ⟨b, 0, none⟩), .string (str s)] w (fun e w' => e = .returned (.tuple #[]) ∧ GrTo w w' b (needP s r).2) := by
  have HC := Lib.hid (take_any b r s w hr hs)
  have HR := Lib.hid hr
  rcases need_cases s r with ⟨h1, h2⟩ | ⟨h1, h2⟩
  · rw [h1] at HC
    rw [h2]
    obtain ⟨r', hr'⟩ : ∃ r', (takeP s r).2 = r' := ⟨_, rfl⟩
    rw [hr'] at HC ⊢
    clear hr hr' h1 h2
    go_enter Tryz.func73, Tryz.ntmps73
    go_wp2_with fail
    refine HC.out.mono ?_
    rintro e w1 ⟨rfl, hb⟩
    have HB := Lib.hid hb
    clear hb
    go_wp2
    go_end0
    exact ⟨rfl, HB.out⟩
  · rw [h1] at HC
    rw [h2]
    obtain ⟨r', hr'⟩ : ∃ r', (takeP s r).2 = r' := ⟨_, rfl⟩
    rw [hr'] at HC ⊢
    clear hr hr' h1 h2
    go_enter Tryz.func73, Tryz.ntmps73
    go_wp2_with fail
    refine HC.out.mono ?_
    rintro e w1 ⟨rfl, hb⟩
    have HB := Lib.hid hb
    clear hb
    go_wp2_with fail
    refine (fail_any b r' 5 _ HB.out.rd).mono ?_
    rintro e w2 ⟨rfl, ht⟩
    have HT := Lib.hid (HB.out.trans ht)
    clear ht
    go_wp2
    go_end0
    exact ⟨rfl, HT.out⟩
set_option maxHeartbeats 800000 in
theorem name_any (b : Nat) (r : Rd) (w : World) (hr : GrAt w b r) : Calls Tryz.prog 74 #[.pointer (some ⟨b, 0, none⟩)] w (fun e w' => e = .returned (.string (str (nameP r).1)) ∧ GrTo w w' b (nameP r).2) := by
  have HR := Lib.hid hr
  have hlt := hr.lt
  have hnx := hr.ok.nx
  have HC := Lib.hid (atName_any b r w hr)
  rcases Bool.eq_false_or_eq_true (atNameB r) with hn | hn
  · have HE : Hid (nameP r = (txt r, r.adv)) := Lib.hid (by unfold nameP; rw [if_pos hn])
    have HN : Hid (r.next < r.l.length) := Lib.hid (by unfold atNameB at hn; simp at hn; exact hn.1)
    rw [HE.out]
    rw [hn] at HC
    clear hr hn
    have HO : Hid (∀ w1, Below w.heap.size w w1 → w1.cell? ⟨b, 1, none⟩ = some (.int .i64 (r.next : Int)) ∧ w1.frozen? ⟨b, 1, none⟩ = false) := Lib.hid (fun w1 hb => by
      obtain ⟨lv, h1, _⟩ := (HR.out.below hb).blk
      exact ⟨gr_cell h1 1, gr_free h1 1⟩)
    go_enter Tryz.func74, Tryz.ntmps74
    go_wp2_with fail
    refine HC.out.mono ?_
    rintro e w1 ⟨rfl, hb⟩
    have HBL := Lib.hid hb
    clear hb
    go_wp2_with fail
    refine (text_any b r _ (HR.out.below HBL.out)).mono ?_
    rintro e w2 ⟨rfl, hb⟩
    have HBM := Lib.hid (HBL.out.trans (hb.mono HBL.out.size))
    obtain ⟨c1, f1⟩ := HO.out w2 HBM.out
    clear hb
    go_wp2
    go_ret
    exact ⟨rfl, GrTo.below HBM.out hlt ((HR.out.below HBM.out).advTo HN.out)⟩
  · have HE : Hid (nameP r = ([], r.fail 5)) := Lib.hid (by unfold nameP; rw [if_neg (by rw [hn]; decide)])
    rw [HE.out]
    rw [hn] at HC
    clear hr hn
    go_enter Tryz.func74, Tryz.ntmps74
    go_wp2_with fail
    refine HC.out.mono ?_
    rintro e w1 ⟨rfl, hb⟩
    have HBL := Lib.hid hb
    clear hb
    go_wp2_with fail
    refine (fail_any b r 5 _ (HR.out.below HBL.out)).mono ?_
    rintro e w2 ⟨rfl, ht⟩
    have HT := Lib.hid (GrTo.below HBL.out hlt ht)
    clear ht
    go_wp2
    go_ret
    exact ⟨rfl, HT.out⟩
set_option maxHeartbeats 800000 in
theorem atUnit_any (b : Nat) (r : Rd) (w : World) (hr : GrAt w b r) : Calls Tryz.prog 71 #[.pointer (some ⟨b, 0, none⟩)] w (fun e w' => e = .returned (.bool (atUnitB r)) ∧ Below w.heap.size w w') := by
  have HR := Lib.hid hr
  have HC := Lib.hid (text_any b r w hr)
  clear hr
  have HA := Lib.hid (show atUnitB r = (txt r == wNode || txt r == wContract) from rfl)
  rw [HA.out]
  obtain ⟨t, ht⟩ : ∃ t, txt r = t := ⟨_, rfl⟩
  have HT := Lib.hid ht
  rw [ht] at HC ⊢
  clear ht HA
  rcases Bool.eq_false_or_eq_true (t == wNode) with hn | hn
  · have h1 : ((str t).toList == [110, 111, 100, 101]) = true := by rw [Tr.str_toList]; exact hn
    rw [hn]
    go_enter Tryz.func71, Tryz.ntmps71
    go_wp2_with fail
    refine HC.out.mono ?_
    rintro e w1 ⟨rfl, hb⟩
    have HBL := Lib.hid hb
    clear hb
    go_wp2
    go_ret
    exact ⟨rfl, HBL.out⟩
  · have h1 : ((str t).toList == [110, 111, 100, 101]) = false := by rw [Tr.str_toList]; exact hn
    obtain ⟨B, hB⟩ : ∃ B, (t == wContract) = B := ⟨_, rfl⟩
    have h2 : ((str t).toList == [99, 111, 110, 116, 114, 97, 99, 116]) = B := by rw [Tr.str_toList]; exact hB
    rw [hn, hB]
    clear hB
    go_enter Tryz.func71, Tryz.ntmps71
    go_wp2_with fail
    refine HC.out.mono ?_
    rintro e w1 ⟨rfl, hb⟩
    have HBL := Lib.hid hb
    clear hb
    go_wp2_with fail
    refine (text_any b r _ (HR.out.below HBL.out)).mono ?_
    rintro e w2 ⟨rfl, hb⟩
    have HBM := Lib.hid (HBL.out.trans (hb.mono HBL.out.size))
    rw [HT.out]
    clear hb
    go_wp2
    go_ret
    exact ⟨rfl, HBM.out⟩
set_option maxHeartbeats 800000 in
theorem kindOf_any (s : Bytes) (w : World) : Calls Tryz.prog 135 #[.string (str s)] w (fun e w' => e = .returned (.int .i64 (kindM s)) ∧ w = w') := by
  obtain ⟨K, hK⟩ : ∃ K, kindM s = K := ⟨_, rfl⟩
  have HK := Lib.hid hK
  rw [hK]
  clear hK
  have e1 : ((str s).toList == [97, 115, 115, 117, 109, 101]) = decide (s = wAssume) := lit_eq s wAssume
  have e2 : ((str s).toList == [103, 117, 97, 114, 97, 110, 116, 101, 101]) = decide (s = wGuarantee) := lit_eq s wGuarantee
  have e3 : ((str s).toList == [103, 104, 111, 115, 116]) = decide (s = wGhost) := lit_eq s wGhost
  have e4 : ((str s).toList == [109, 111, 100, 101]) = decide (s = wMode) := lit_eq s wMode
  have e5 : ((str s).toList == [105, 109, 112, 111, 114, 116]) = decide (s = wImport) := lit_eq s wImport
  have HM := HK.out
  unfold kindM at HM
  by_cases h1 : s = wAssume
  · rw [if_pos h1] at HM
    rw [decide_eq_true h1] at e1
    subst HM
    clear e2 e3 e4 e5 h1
    go_enter Tryz.func135, Tryz.ntmps135
    go_wp2
    go_ret
    exact ⟨rfl, rfl⟩
  rw [if_neg h1] at HM
  rw [decide_eq_false h1] at e1
  by_cases h2 : s = wGuarantee
  · rw [if_pos h2] at HM
    rw [decide_eq_true h2] at e2
    subst HM
    clear e3 e4 e5 h1 h2
    go_enter Tryz.func135, Tryz.ntmps135
    go_wp2
    go_ret
    exact ⟨rfl, rfl⟩
  rw [if_neg h2] at HM
  rw [decide_eq_false h2] at e2
  by_cases h3 : s = wGhost
  · rw [if_pos h3] at HM
    rw [decide_eq_true h3] at e3
    subst HM
    clear e4 e5 h1 h2 h3
    go_enter Tryz.func135, Tryz.ntmps135
    go_wp2
    go_ret
    exact ⟨rfl, rfl⟩
  rw [if_neg h3] at HM
  rw [decide_eq_false h3] at e3
  by_cases h4 : s = wMode
  · rw [if_pos h4] at HM
    rw [decide_eq_true h4] at e4
    subst HM
    clear e5 h1 h2 h3 h4
    go_enter Tryz.func135, Tryz.ntmps135
    go_wp2
    go_ret
    exact ⟨rfl, rfl⟩
  rw [if_neg h4] at HM
  rw [decide_eq_false h4] at e4
  by_cases h5 : s = wImport
  · rw [if_pos h5] at HM
    rw [decide_eq_true h5] at e5
    subst HM
    clear h1 h2 h3 h4 h5
    go_enter Tryz.func135, Tryz.ntmps135
    go_wp2
    go_ret
    exact ⟨rfl, rfl⟩
  rw [if_neg h5] at HM
  rw [decide_eq_false h5] at e5
  subst HM
  clear h1 h2 h3 h4 h5
  go_enter Tryz.func135, Tryz.ntmps135
  go_wp2
  go_ret
  exact ⟨rfl, rfl⟩
set_option maxHeartbeats 800000 in
theorem atItem_any (b : Nat) (r : Rd) (w : World) (hr : GrAt w b r) : Calls Tryz.prog 122 #[.pointer (some ⟨b, 0, none⟩)] w (fun e w' => e = .returned (.bool (atItemB r)) ∧ Below w.heap.size w w') := by
  have HC := Lib.hid (text_any b r w hr)
  have HA := Lib.hid (show atItemB r = (kindM (txt r) != 0) from rfl)
  clear hr
  rw [HA.out]
  obtain ⟨K, hK⟩ : ∃ K, kindM (txt r) = K := ⟨_, rfl⟩
  have HK := Lib.hid hK
  rw [hK]
  clear hK HA
  obtain ⟨B, hB⟩ : ∃ B, (K != 0) = B := ⟨_, rfl⟩
  have HB := Lib.hid hB
  rw [hB]
  have hd : (!K == 0) = B := hB
  clear hB
  go_enter Tryz.func122, Tryz.ntmps122
  go_wp2_with fail
  refine HC.out.mono ?_
  rintro e w1 ⟨rfl, hb⟩
  have HBL := Lib.hid hb
  clear hb
  go_wp2_with fail
  refine (kindOf_any (txt r) _).mono ?_
  rintro e w2 ⟨rfl, rfl⟩
  rw [HK.out]
  go_wp2
  go_ret
  exact ⟨congrArg (fun x => Ending.returned (Value.bool x)) HB.out, HBL.out⟩
end Go.Proofs.YtgohhnbdicdenaaGreatDoor.Pg

/- Contracts of layer prog's reader: what is told, rows's name and type. Conditions: a reader lies in memory. -/
namespace Go.Proofs.YtgohhnbdicdenaaGreatDoor.Pg
open Go.ChangeShapes Go.WideShapes Go.ChangeAt Go.RowKit
open Go.Proofs.YtgohhnbdicdenaaGreatDoor.Ex
open Go.Proofs.YtgohhnbdicdenaaGreatDoor.Tr (str ret_bool ret_int Bytes Nd)
set_option linter.unusedVariables false
set_option linter.unusedSimpArgs false

theorem tok_wide {w : World} {b b' : Nat} {v : Value} {l : List Tok} (h : TokOff w b v l) (hb : b ≤ b') : TokOff w b' v l := by
  obtain ⟨A, c, h0, h1, h2, h3⟩ := h
  refine ⟨A, c, h0, h1, h2, fun i t hi => ?_⟩
  obtain ⟨g, e1, e2, e3⟩ := h3 i t hi
  exact ⟨g, e1, by omega, e3⟩
theorem var_wide {w : World} {b b' : Nat} (h : VarAt w b) (hb : b ≤ b') : VarAt w b' := ⟨Nat.lt_of_lt_of_le h.1 hb, h.2⟩
/-- What tells an expression and turns a reader. -/
def ExpG (w : World) (b : Nat) (x : List Nd × Rd) (e : Ending) (w' : World) : Prop := ∃ ev, e = .returned ev ∧ PtW w' (ev, ⟨x.1, 0, 0⟩) ∧ GrTo w w' b x.2
theorem take_lit {b : Nat} {r : Rd} {s : Bytes} {S : ByteArray} {w : World} (hS : S = str s) (hr : GrAt w b r) (hs : s ≠ []) {B : Bool} {r' : Rd} (h : takeP s r = (B, r')) : Calls Tryz.prog 75 #[.pointer (some ⟨b, 0, none⟩), .string S] w (BoolG w b B r') := by
  subst hS
  have := take_any b r s w hr hs
  rw [h] at this; exact this
theorem need_lit {b : Nat} {r : Rd} {s : Bytes} {S : ByteArray} {w : World} (hS : S = str s) (hr : GrAt w b r) (hs : s ≠ []) {r' : Rd} (h : (needP s r).2 = r') : Calls Tryz.prog 73 #[.pointer (some ⟨b, 0, none⟩), .string S] w (fun e w' => e = .returned (.tuple #[]) ∧ GrTo w w' b r') := by
  subst hS; subst h
  exact need_any b r s w hr hs
theorem name_lit {b : Nat} {r : Rd} {w : World} (hr : GrAt w b r) {n : Bytes} {r' : Rd} (h : nameP r = (n, r')) : Calls Tryz.prog 74 #[.pointer (some ⟨b, 0, none⟩)] w (fun e w' => e = .returned (.string (str n)) ∧ GrTo w w' b r') := by
  have := name_any b r w hr
  rw [h] at this; exact this
theorem GrTo.block {w w' : World} {b : Nat} {r : Rd} (h : GrTo w w' b r) {B : Nat} {o : Obj} (hB : w.heap[B]? = some o) (hne : B ≠ b) : w'.heap[B]? = some o :=
  (h.grown.block B (lt_of_block hB) (fun e => hne (by injection e))).trans hB
theorem blk2 {W : World} {B : Nat} {T : TypeId} {u0 u1 : Value} (h : W.heap[B]? = some (.cells #[u0, u1] T (0, 0))) (v0 v1 : Value) : ((W.setCell ⟨B, 0, none⟩ v0).setCell ⟨B, 1, none⟩ v1).heap[B]? = some (.cells #[v0, v1] T (0, 0)) := by
  have h2 := setObj_heap (v := v1) (setObj_heap (v := v0) h (k := 0) (by simp)) (k := 1) (by simp)
  simpa using h2
theorem set_other {W : World} {B k : Nat} {v : Value} {B' : Nat} {o : Obj} (h : W.heap[B']? = some o) (hne : B' ≠ B) : (W.setCell ⟨B, k, none⟩ v).heap[B']? = some o :=
  (Below.heap_setCell W ⟨B, k, none⟩ v B' (by simpa using hne)).trans h
/-- What tells a stream's name and type and turns a reader. -/
def PrmG (w : World) (b : Nat) (x : Prm × Rd) (e : Ending) (w' : World) : Prop := e = .returned (.agg #[.string (str x.1.name), .int .i64 x.1.ty]) ∧ GrTo w w' b x.2
/-- What tells an equation, an item, a unit. -/
def EqnG (w : World) (b : Nat) (x : Eqn × Rd) (e : Ending) (w' : World) : Prop := ∃ ev, e = .returned (.agg #[.string (str x.1.name), ev]) ∧ PtW w' (ev, ⟨x.1.e, 0, 0⟩) ∧ GrTo w w' b x.2
def ItmG (w : World) (b : Nat) (x : Itm × Rd) (e : Ending) (w' : World) : Prop := ∃ ev fv av, e = .returned (.agg #[.int .i64 x.1.kind, .string (str x.1.name), .int .i64 x.1.ty, ev, fv, av]) ∧ PtW w' (ev, ⟨x.1.e, 0, 0⟩) ∧ PtW w' (fv, ⟨x.1.f, 0, 0⟩) ∧ RowR 23 1 ExpV w' x.1.args av ∧ GrTo w w' b x.2
def UntG (w : World) (b : Nat) (x : Unt × Rd) (e : Ending) (w' : World) : Prop := ∃ iv vv qv lv, e = .returned (.agg #[.bool x.1.contract, .string (str x.1.name), iv, .string (str x.1.out.name), .int .i64 x.1.out.ty, vv, qv, lv]) ∧ RowR 46 2 PrmV w' x.1.ins iv ∧ RowR 46 2 PrmV w' x.1.vars vv ∧ RowR 78 2 EqnV w' x.1.eqs qv ∧ RowR 72 6 ItmV w' x.1.items lv ∧ GrTo w w' b x.2
/-- What tells a row and turns a reader. -/
def RowG {α : Type} (T : TypeId) (K : Nat) (R : World → α → List Value → Prop) (w : World) (b : Nat) (x : List α × Rd) (e : Ending) (w' : World) : Prop := ∃ v, e = .returned v ∧ RowR T K R w' x.1 v ∧ GrTo w w' b x.2
theorem RowG.of {α : Type} {T : TypeId} {K : Nat} {R : World → α → List Value → Prop} {w w' : World} {b : Nat} {l : List α} {r : Rd} {X : List α × Rd} {v : Value} (hX : (l, r) = X) (h : RowR T K R w' l v) (g : GrTo w w' b r) : RowG T K R w b X (.returned v) w' := by
  subst hX; exact ⟨v, rfl, h, g⟩
theorem own_form {w : World} {base : Nat} {e : TypeId} {sz : Nat} {v : Value} {n : Nat} {xs : List Value} (h : w.ownsRow base e sz v n xs) : ∃ A c, v = .slice A n c ∧ n ≤ c ∧ c ≤ 9223372036854775807 := by
  obtain ⟨hl, ⟨rfl, rfl⟩ | ⟨g, cap, cur, rfl, hb, hh, hnc, hcm, _⟩⟩ := h
  · exact ⟨none, 0, rfl, Nat.le_refl _, by omega⟩
  · unfold maxLen at hcm; exact ⟨some ⟨g, 0, none⟩, cap, rfl, hnc, hcm⟩
theorem pt_form {w : World} {v : Value} {p : Pt} (h : PtW w (v, p)) : ∃ A n c, v = .slice A n c ∧ n ≤ c ∧ c ≤ 9223372036854775807 := by
  obtain ⟨⟨A, c, hv, h1, h2, _⟩, _⟩ := h
  unfold maxLen at h2
  exact ⟨A, _, c, hv, h1, h2⟩
theorem row_form {α : Type} {T : TypeId} {K : Nat} {R : World → α → List Value → Prop} {w : World} {l : List α} {v : Value} (h : RowR T K R w l v) : ∃ A n c, v = .slice A n c ∧ n ≤ c ∧ c ≤ 9223372036854775807 := by
  obtain ⟨A, c, rfl, h1, h2, _⟩ := h
  unfold maxLen at h2
  exact ⟨A, _, c, rfl, h1, h2⟩
theorem GrTo.row {w w2 W w3 : World} {b : Nat} {q : Rd} {row : Option Nat} (h : GrTo w w2 b q) (hlt : b < w.heap.size) (hW : Below w2.heap.size w2 W) (hg : W.grownBy w3 row) (hrow : ∀ g, row = some g → w.heap.size ≤ g) : GrTo w w3 b q := by
  have hs := h.grown.size
  have hs2 := hW.size
  have hk : ∀ g, g < w.heap.size → w3.heap[g]? = w2.heap[g]? := fun g hg' => (hg.block g (by omega) (fun e => by have := hrow g e.symm; omega)).trans (hW.block g (by omega))
  exact ⟨h.rd.keep (Nat.le_trans hs2 hg.size) (fun g h1 _ => hk g (by omega)) (hk b hlt), ⟨(hg.os.trans hW.os).trans h.grown.os, (hg.tape.trans hW.tape).trans h.grown.tape, (hg.output.trans hW.output).trans h.grown.output, Nat.le_trans hs (Nat.le_trans hs2 hg.size), fun i hi hne => (hk i hi).trans (h.grown.block i hi hne)⟩⟩
theorem OList.one {α : Type} {T : TypeId} {K : Nat} {R : World → α → List Value → Prop} {w : World} {base : Nat} {a : α} {x : List Value} {cs : Array Value} (hb : base ≤ w.heap.size) (hc : cs.toList = x ∧ x.length = K) (hx : R w a x) (hR : Stay (fun t => t = T) w (w.alloc (.cells cs T)) → ∀ a x, R w a x → R (w.alloc (.cells cs T)) a x) :
    OList T K R (w.alloc (.cells cs T)) base (.slice (some ⟨w.heap.size, 0, none⟩) 1 1) [a] [x] := by
  obtain ⟨hc, hl⟩ := hc
  refine ⟨⟨by simp [hl], .inr ⟨w.heap.size, 1, cs, rfl, hb, heap_alloc_new w _, Nat.le_refl _, by unfold maxLen; omega, ?_, ?_⟩⟩, rfl, fun y hy => ?_, fun i y b h1 h2 => ?_⟩
  · rw [← Array.length_toList, hc, hl]; omega
  · rw [hc]; simp only [List.length_cons, List.length_nil, Nat.zero_add, Nat.one_mul, List.flatten_cons, List.flatten_nil, List.append_nil]; rw [← hl]; exact List.take_length
  · simp at hy; rw [hy]; exact hl
  · have hi : i = 0 := by have := (List.getElem?_eq_some_iff.1 h1).1; simp at this; omega
    subst hi
    simp at h1 h2
    subst h1; subst h2
    exact hR (Stay.below (below_new w _)) _ _ hx
theorem rowF_stop {α : Type} {b : Rd → Bool} {one : PM α} {k : Nat} {acc : List α} {r : Rd} (hb : b r = false) : rowF b one (k + 1) acc r = (acc, r) := by
  show (if b r then _ else _) = _
  rw [hb]; rfl
theorem rowF_many {α : Type} {b : Rd → Bool} {one : PM α} {k : Nat} {acc : List α} {r : Rd} (hb : b r = true) (h : acc.length = 200) : rowF b one (k + 1) acc r = ([], r.fail 7) := by
  show (if b r then (if acc.length = 200 then _ else _) else _) = _
  rw [hb, if_pos rfl, if_pos h]
theorem rowF_step {α : Type} {b : Rd → Bool} {one : PM α} {k : Nat} {acc : List α} {r r2 : Rd} {a : α} (hb : b r = true) (h : ¬ acc.length = 200) (ho : one r = (a, r2)) : rowF b one (k + 1) acc r = rowF b one k (acc ++ [a]) r2 := by
  show (if b r then (if acc.length = 200 then _ else pBind one (fun x => rowF b one k (acc ++ [x])) r) else _) = _
  rw [hb, if_pos rfl, if_neg h]; unfold pBind; rw [ho]
theorem encF_eq {α : Type} {sep : Bytes} {one : PM α} {k : Nat} {acc : List α} {r : Rd} : encF sep one (k + 1) acc r = (fun (b : Bool) => if b then (if acc.length = 200 then pBind (failP 7) (fun _ => pPure []) else pBind one (fun x => encF sep one k (acc ++ [x]))) else pBind (needP [41]) (fun _ => pPure acc)) (takeP sep r).1 (takeP sep r).2 := rfl
theorem encF_stop {α : Type} {sep : Bytes} {one : PM α} {k : Nat} {acc : List α} {r r6 r7 : Rd} (h : takeP sep r = (false, r6)) (h7 : (needP [41] r6).2 = r7) : encF sep one (k + 1) acc r = (acc, r7) := by
  rw [encF_eq, h]; show (acc, (needP [41] r6).2) = _; rw [h7]
theorem encF_many {α : Type} {sep : Bytes} {one : PM α} {k : Nat} {acc : List α} {r r6 : Rd} (h : takeP sep r = (true, r6)) (h2 : acc.length = 200) : encF sep one (k + 1) acc r = ([], r6.fail 7) := by
  rw [encF_eq, h]; simp only; rw [if_pos trivial, if_pos h2]; rfl
theorem encF_step {α : Type} {sep : Bytes} {one : PM α} {k : Nat} {acc : List α} {r r6 r8 : Rd} {a : α} (h : takeP sep r = (true, r6)) (h2 : ¬ acc.length = 200) (ho : one r6 = (a, r8)) : encF sep one (k + 1) acc r = encF sep one k (acc ++ [a]) r8 := by
  rw [encF_eq, h]; simp only; rw [if_pos trivial, if_neg h2]; unfold pBind; rw [ho]
theorem encP_eq {α : Type} {sep : Bytes} {one : PM α} {r r1 r2 : Rd} {B : Bool} (h1 : (needP [40] r).2 = r1) (h2 : takeP [41] r1 = (B, r2)) : encP sep one r = (if B then ([], r2) else pBind one (fun x => encF sep one rowMax [x]) r2) := by
  show (fun (b : Bool) => if b then pPure [] else pBind one fun x => encF sep one rowMax [x]) (takeP [41] (needP [40] r).2).1 (takeP [41] (needP [40] r).2).2 = _
  rw [h1, h2]; cases B <;> rfl
end Go.Proofs.YtgohhnbdicdenaaGreatDoor.Pg

/- Contracts of layer prog's reader: structs that are filled. Conditions: a reader lies in memory. -/
namespace Go.Proofs.YtgohhnbdicdenaaGreatDoor.Pg
open Go.ChangeShapes Go.WideShapes Go.ChangeAt Go.RowKit
open Go.Proofs.YtgohhnbdicdenaaGreatDoor.Ex
open Go.Proofs.YtgohhnbdicdenaaGreatDoor.Tr (str ret_bool ret_int Bytes Nd)
set_option linter.unusedVariables false
set_option linter.unusedSimpArgs false

theorem set_ne {W : World} {B k : Nat} {v : Value} {g : Nat} (hne : g ≠ B) : (W.setCell ⟨B, k, none⟩ v).heap[g]? = W.heap[g]? := Below.heap_setCell W ⟨B, k, none⟩ v g (by simpa using hne)
theorem Stay.set {P : TypeId → Prop} {w : World} {B k : Nat} {cs : Array Value} {T : TypeId} {f : Nat × Nat} (hB : w.heap[B]? = some (Obj.cells cs T f)) (hP : P T) (v : Value) : Stay P w (w.setCell ⟨B, k, none⟩ v) :=
  ⟨by simp [World.setCell], fun g cs' T' f' hg hp => set_ne (by
    rintro rfl
    rw [hB] at hg
    simp only [Option.some.injEq, Obj.cells.injEq] at hg
    exact hp (hg.2.1 ▸ hP))⟩
theorem Stay.sets {P : TypeId → Prop} {w W : World} {B : Nat} {cs : Array Value} {T : TypeId} {f : Nat × Nat} (hB : w.heap[B]? = some (Obj.cells cs T f)) (hP : P T) (hs : w.heap.size ≤ W.heap.size) (h : ∀ g, g ≠ B → W.heap[g]? = w.heap[g]?) : Stay P w W :=
  ⟨hs, fun g cs' T' f' hg hp => h g (by
    rintro rfl
    rw [hB] at hg
    simp only [Option.some.injEq, Obj.cells.injEq] at hg
    exact hp (hg.2.1 ▸ hP))⟩
theorem blk3 {W : World} {B : Nat} {T : TypeId} {u0 u1 u2 : Value} (h : W.heap[B]? = some (.cells #[u0, u1, u2] T (0, 0))) (v0 v1 v2 : Value) : (((W.setCell ⟨B, 0, none⟩ v0).setCell ⟨B, 1, none⟩ v1).setCell ⟨B, 2, none⟩ v2).heap[B]? = some (.cells #[v0, v1, v2] T (0, 0)) := by
  have h0 := setObj_heap (v := v0) h (k := 0) (by simp)
  have h1 := setObj_heap (v := v1) h0 (k := 1) (by simp)
  have h2 := setObj_heap (v := v2) h1 (k := 2) (by simp)
  simpa using h2
theorem blk6 {W : World} {B : Nat} {T : TypeId} {u0 u1 u2 u3 u4 u5 : Value} (h : W.heap[B]? = some (.cells #[u0, u1, u2, u3, u4, u5] T (0, 0))) (v0 v1 v2 v3 v4 v5 : Value) : ((((((W.setCell ⟨B, 0, none⟩ v0).setCell ⟨B, 1, none⟩ v1).setCell ⟨B, 2, none⟩ v2).setCell ⟨B, 3, none⟩ v3).setCell ⟨B, 4, none⟩ v4).setCell ⟨B, 5, none⟩ v5).heap[B]? = some (.cells #[v0, v1, v2, v3, v4, v5] T (0, 0)) := by
  have h0 := setObj_heap (v := v0) h (k := 0) (by simp)
  have h1 := setObj_heap (v := v1) h0 (k := 1) (by simp)
  have h2 := setObj_heap (v := v2) h1 (k := 2) (by simp)
  have h3 := setObj_heap (v := v3) h2 (k := 3) (by simp)
  have h4 := setObj_heap (v := v4) h3 (k := 4) (by simp)
  have h5 := setObj_heap (v := v5) h4 (k := 5) (by simp)
  simpa using h5
theorem blk8 {W : World} {B : Nat} {T : TypeId} {u0 u1 u2 u3 u4 u5 u6 u7 : Value} (h : W.heap[B]? = some (.cells #[u0, u1, u2, u3, u4, u5, u6, u7] T (0, 0))) (v0 v1 v2 v3 v4 v5 v6 v7 : Value) : ((((((((W.setCell ⟨B, 0, none⟩ v0).setCell ⟨B, 1, none⟩ v1).setCell ⟨B, 2, none⟩ v2).setCell ⟨B, 3, none⟩ v3).setCell ⟨B, 4, none⟩ v4).setCell ⟨B, 5, none⟩ v5).setCell ⟨B, 6, none⟩ v6).setCell ⟨B, 7, none⟩ v7).heap[B]? = some (.cells #[v0, v1, v2, v3, v4, v5, v6, v7] T (0, 0)) := by
  have h0 := setObj_heap (v := v0) h (k := 0) (by simp)
  have h1 := setObj_heap (v := v1) h0 (k := 1) (by simp)
  have h2 := setObj_heap (v := v2) h1 (k := 2) (by simp)
  have h3 := setObj_heap (v := v3) h2 (k := 3) (by simp)
  have h4 := setObj_heap (v := v4) h3 (k := 4) (by simp)
  have h5 := setObj_heap (v := v5) h4 (k := 5) (by simp)
  have h6 := setObj_heap (v := v6) h5 (k := 6) (by simp)
  have h7 := setObj_heap (v := v7) h6 (k := 7) (by simp)
  simpa using h7
theorem pb {α β : Type} {f : PM α} {g : α → PM β} {r r' : Rd} {a : α} (h : f r = (a, r')) : pBind f g r = g a r' := by unfold pBind; rw [h]
theorem pu {β : Type} {f : PM Unit} {g : Unit → PM β} {r r' : Rd} (h : (f r).2 = r') : pBind f g r = g () r' := by unfold pBind; rw [h]
theorem UntG.of {w w' : World} {b : Nat} {c : Bool} {n on : Bytes} {ot : Int} {i vs : List Prm} {q : List Eqn} {l : List Itm} {iv vv qv lv : Value} {r : Rd} {X : Unt × Rd} (hX : (⟨c, n, i, ⟨on, ot⟩, vs, q, l⟩, r) = X) (h1 : RowR 46 2 PrmV w' i iv) (h2 : RowR 46 2 PrmV w' vs vv) (h3 : RowR 78 2 EqnV w' q qv) (h4 : RowR 72 6 ItmV w' l lv) (g : GrTo w w' b r) :
    UntG w b X (.returned (.agg #[.bool c, .string (str n), iv, .string (str on), .int .i64 ot, vv, qv, lv])) w' := by
  subst hX; exact ⟨iv, vv, qv, lv, rfl, h1, h2, h3, h4, g⟩
theorem ItmG.of {w w' : World} {b : Nat} {k t : Int} {n : Bytes} {e f : List Nd} {a : List (List Nd)} {ev fv av : Value} {r : Rd} {X : Itm × Rd} (hX : (⟨k, n, t, e, f, a⟩, r) = X) (h1 : PtW w' (ev, ⟨e, 0, 0⟩)) (h2 : PtW w' (fv, ⟨f, 0, 0⟩)) (h3 : RowR 23 1 ExpV w' a av) (g : GrTo w w' b r) :
    ItmG w b X (.returned (.agg #[.int .i64 k, .string (str n), .int .i64 t, ev, fv, av])) w' := by
  subst hX; exact ⟨ev, fv, av, rfl, h1, h2, h3, g⟩
end Go.Proofs.YtgohhnbdicdenaaGreatDoor.Pg

/- Contracts of layer prog's reader: a program. Conditions: a reader lies in memory. -/
namespace Go.Proofs.YtgohhnbdicdenaaGreatDoor.Pg
open Go.ChangeShapes Go.WideShapes Go.ChangeAt Go.RowKit
open Go.Proofs.YtgohhnbdicdenaaGreatDoor.Ex
open Go.Proofs.YtgohhnbdicdenaaGreatDoor.Tr (str ret_bool ret_int Bytes Nd)
set_option linter.unusedVariables false
set_option linter.unusedSimpArgs false

/-- What tells a program and turns a reader. -/
def PrgG (w : World) (b : Nat) (x : Prg × Rd) (e : Ending) (w' : World) : Prop := ∃ uv, e = .returned (.agg #[uv, .string (str x.1.main), .string (str x.1.back)]) ∧ RowR 50 8 UntV w' x.1.units uv ∧ GrTo w w' b x.2
theorem PrgG.of {w w' : World} {b : Nat} {us : List Unt} {m k : Bytes} {uv : Value} {r : Rd} {X : Prg × Rd} (hX : (⟨us, m, k⟩, r) = X) (h1 : RowR 50 8 UntV w' us uv) (g : GrTo w w' b r) : PrgG w b X (.returned (.agg #[uv, .string (str m), .string (str k)])) w' := by
  subst hX; exact ⟨uv, rfl, h1, g⟩
end Go.Proofs.YtgohhnbdicdenaaGreatDoor.Pg

/- Contracts of layer prog's reader: streams and equations. Conditions: a reader lies in memory. -/
namespace Go.Proofs.YtgohhnbdicdenaaGreatDoor.Pg
open Go.ChangeShapes Go.WideShapes Go.ChangeAt Go.RowKit
open Go.Proofs.YtgohhnbdicdenaaGreatDoor.Ex
open Go.Proofs.YtgohhnbdicdenaaGreatDoor.Tr (str ret_bool ret_int Bytes Nd)
set_option linter.unusedVariables false
set_option linter.unusedSimpArgs false

theorem PrmG.of {w w' : World} {b : Nat} {n : Bytes} {t : Int} {r : Rd} {X : Prm × Rd} (hX : (⟨n, t⟩, r) = X) (g : GrTo w w' b r) : PrmG w b X (.returned (.agg #[.string (str n), .int .i64 t])) w' := by
  subst hX; exact ⟨rfl, g⟩
set_option maxRecDepth 100000 in
set_option maxHeartbeats 4000000 in
theorem param_any (b : Nat) (r : Rd) (w : World) (hr : GrAt w b r) : Calls Tryz.prog 109 #[.pointer (some ⟨b, 0, none⟩)] w (PrmG w b (paramP r)) := by
  have HR := Lib.hid hr
  have hlt := hr.lt
  obtain ⟨⟨n, r1⟩, h1⟩ : ∃ x, nameP r = x := ⟨_, rfl⟩
  obtain ⟨r2, h2⟩ : ∃ x, (needP sColon r1).2 = x := ⟨_, rfl⟩
  obtain ⟨⟨B, r3⟩, h3⟩ : ∃ x, takeP wBool r2 = x := ⟨_, rfl⟩
  obtain ⟨⟨C, r4⟩, h4⟩ : ∃ x, takeP wInt r3 = x := ⟨_, rfl⟩
  obtain ⟨X, hX⟩ : ∃ X, paramP r = X := ⟨_, rfl⟩
  have HE : Hid ((if B then ((⟨n, 1⟩ : Prm), r3) else if C then (⟨n, 2⟩, r4) else (⟨n, 0⟩, r4.fail 5)) = X) := Lib.hid (by
    rw [← hX]; unfold paramP; unfold pBind; rw [h1]; simp only; rw [h2, h3]; cases B
    · simp only [Bool.false_eq_true, if_false]; rw [h4]; cases C <;> rfl
    · rfl)
  have H1 := Lib.hid h1
  have H2 := Lib.hid h2
  have H3 := Lib.hid h3
  have H4 := Lib.hid h4
  rw [hX]
  clear h1 h2 h3 h4 hX hr
  have hX0 := Lib.hid (heap_alloc_new w (.cells #[.string ⟨#[]⟩, .int .i64 0] 46))
  go_enter Tryz.func109, Tryz.ntmps109
  go_wp2_with fail
  refine (name_lit (HR.out.below (below_new w _)) H1.out).mono ?_
  rintro e w1 ⟨rfl, hg1⟩
  have HG1 := Lib.hid (GrTo.below (below_new w _) hlt hg1)
  have x1 := hg1.block hX0.out (by omega)
  have hs1 := hg1.grown.size
  simp at hs1
  have X1 := Lib.hid x1
  clear hg1 x1
  go_wp2_with fail
  refine (need_lit (s := sColon) rfl (HG1.out.rd.below (below_new w1 _)) (by decide) H2.out).mono ?_
  rintro e w2 ⟨rfl, hg2⟩
  have HG2 := Lib.hid ((HG1.out.then_below (below_new w1 _)).trans hg2)
  have x2 := hg2.block (((below_new w1 _).block _ (lt_of_block X1.out)).trans X1.out) (by omega)
  have y2 := hg2.block (heap_alloc_new w1 _) (by omega)
  have X2 := Lib.hid x2
  have Y2 := Lib.hid y2
  clear hg2 x2 y2
  go_wp2_with fail
  refine (take_lit (s := wBool) rfl HG2.out.rd (by decide) H3.out).mono ?_
  rintro e w3 ⟨rfl, hg3⟩
  have HG3 := Lib.hid (HG2.out.trans hg3)
  have x3 := hg3.block X2.out (by omega)
  have y3 := hg3.block Y2.out (by omega)
  have X3 := Lib.hid x3
  have Y3 := Lib.hid y3
  have lx3 := lt_of_block x3
  have ly3 := lt_of_block y3
  have p0 : w3.cell? ⟨w.heap.size, 0, none⟩ = some (.string ⟨#[]⟩) := (cell_at x3 0).trans rfl
  have p1 : w3.cell? ⟨w.heap.size, 1, none⟩ = some (.int .i64 0) := (cell_at x3 1).trans rfl
  have q0 : w3.cell? ⟨w1.heap.size, 0, none⟩ = some (.string (str n)) := (cell_at y3 0).trans rfl
  have q1 : w3.cell? ⟨w1.heap.size, 1, none⟩ = some (.int .i64 0) := (cell_at y3 1).trans rfl
  have g0 : w3.frozen? ⟨w.heap.size, 0, none⟩ = false := free_at x3 0
  have g1 : w3.frozen? ⟨w.heap.size, 1, none⟩ = false := free_at x3 1
  have k1 : w3.frozen? ⟨w1.heap.size, 1, none⟩ = false := free_at y3 1
  have hne : w.heap.size ≠ w1.heap.size := by omega
  clear hg3 x3 y3
  cases B with
  | true =>
    have HE1 : Hid (((⟨n, 1⟩ : Prm), r3) = X) := Lib.hid HE.out
    go_wp2
    have Z := blk2 (set_other (k := 1) (v := .int .i64 1) X3.out hne) (.string (str n)) (.int .i64 1)
    have z0 := (cell_at Z 0).trans (show _ = some (.string (str n)) from rfl)
    have z1 := (cell_at Z 1).trans (show _ = some (.int .i64 1) from rfl)
    clear p0 p1 q0 q1 g0 g1 k1
    exact bodyPost_ret (v := .agg #[.string (str n), .int .i64 1]) (by simp [results, Tryz.results109, go_sem, z0, z1]) rfl (PrmG.of HE1.out (((HG3.out.setLocal (by omega) hlt _).setLocal (by omega) hlt _).setLocal (by omega) hlt _))
  | false =>
    go_wp2_with fail
    refine (take_lit (s := wInt) rfl HG3.out.rd (by decide) H4.out).mono ?_
    rintro e w4 ⟨rfl, hg4⟩
    have HG4 := Lib.hid (HG3.out.trans hg4)
    have x4 := hg4.block X3.out (by omega)
    have y4 := hg4.block Y3.out (by omega)
    have X4 := Lib.hid x4
    have Y4 := Lib.hid y4
    have lx4 := lt_of_block x4
    have ly4 := lt_of_block y4
    clear p0 p1 q0 q1 g0 g1 k1
    cases C with
    | true =>
      have HE1 : Hid (((⟨n, 2⟩ : Prm), r4) = X) := Lib.hid HE.out
      have p0 : w4.cell? ⟨w.heap.size, 0, none⟩ = some (.string ⟨#[]⟩) := (cell_at x4 0).trans rfl
      have p1 : w4.cell? ⟨w.heap.size, 1, none⟩ = some (.int .i64 0) := (cell_at x4 1).trans rfl
      have q0 : w4.cell? ⟨w1.heap.size, 0, none⟩ = some (.string (str n)) := (cell_at y4 0).trans rfl
      have q1 : w4.cell? ⟨w1.heap.size, 1, none⟩ = some (.int .i64 0) := (cell_at y4 1).trans rfl
      have g0 : w4.frozen? ⟨w.heap.size, 0, none⟩ = false := free_at x4 0
      have g1 : w4.frozen? ⟨w.heap.size, 1, none⟩ = false := free_at x4 1
      have k1 : w4.frozen? ⟨w1.heap.size, 1, none⟩ = false := free_at y4 1
      clear hg4 x4 y4
      go_wp2
      have Z := blk2 (set_other (k := 1) (v := .int .i64 2) X4.out hne) (.string (str n)) (.int .i64 2)
      have z0 := (cell_at Z 0).trans (show _ = some (.string (str n)) from rfl)
      have z1 := (cell_at Z 1).trans (show _ = some (.int .i64 2) from rfl)
      clear p0 p1 q0 q1 g0 g1 k1
      exact bodyPost_ret (v := .agg #[.string (str n), .int .i64 2]) (by simp [results, Tryz.results109, go_sem, z0, z1]) rfl (PrmG.of HE1.out (((HG4.out.setLocal (by omega) hlt _).setLocal (by omega) hlt _).setLocal (by omega) hlt _))
    | false =>
      have HE1 : Hid (((⟨n, 0⟩ : Prm), r4.fail 5) = X) := Lib.hid HE.out
      clear hg4 x4 y4
      go_wp2_with fail
      refine (fail_any b r4 5 _ HG4.out.rd).mono ?_
      rintro e w5 ⟨rfl, hg5⟩
      have HG5 := Lib.hid (HG4.out.trans hg5)
      have x5 := hg5.block X4.out (by omega)
      have y5 := hg5.block Y4.out (by omega)
      have X5 := Lib.hid x5
      have p0 : w5.cell? ⟨w.heap.size, 0, none⟩ = some (.string ⟨#[]⟩) := (cell_at x5 0).trans rfl
      have p1 : w5.cell? ⟨w.heap.size, 1, none⟩ = some (.int .i64 0) := (cell_at x5 1).trans rfl
      have q0 : w5.cell? ⟨w1.heap.size, 0, none⟩ = some (.string (str n)) := (cell_at y5 0).trans rfl
      have q1 : w5.cell? ⟨w1.heap.size, 1, none⟩ = some (.int .i64 0) := (cell_at y5 1).trans rfl
      have g0 : w5.frozen? ⟨w.heap.size, 0, none⟩ = false := free_at x5 0
      have g1 : w5.frozen? ⟨w.heap.size, 1, none⟩ = false := free_at x5 1
      clear hg5 x5 y5
      go_wp2
      have Z := blk2 X5.out (.string (str n)) (.int .i64 0)
      have z0 := (cell_at Z 0).trans (show _ = some (.string (str n)) from rfl)
      have z1 := (cell_at Z 1).trans (show _ = some (.int .i64 0) from rfl)
      clear p0 p1 q0 q1 g0 g1
      exact bodyPost_ret (v := .agg #[.string (str n), .int .i64 0]) (by simp [results, Tryz.results109, go_sem, z0, z1]) rfl (PrmG.of HE1.out ((HG5.out.setLocal (by omega) hlt _).setLocal (by omega) hlt _))
set_option maxRecDepth 100000 in
set_option maxHeartbeats 4000000 in
theorem stream_any (b : Nat) (r : Rd) (w : World) (hr : GrAt w b r) : Calls Tryz.prog 125 #[.pointer (some ⟨b, 0, none⟩)] w (PrmG w b (streamP r)) := by
  have HR := Lib.hid hr
  have hlt := hr.lt
  obtain ⟨⟨⟨n, t⟩, r1⟩, h1⟩ : ∃ x, paramP r = x := ⟨_, rfl⟩
  obtain ⟨r2, h2⟩ : ∃ x, (needP sSemi r1).2 = x := ⟨_, rfl⟩
  obtain ⟨X, hX⟩ : ∃ X, streamP r = X := ⟨_, rfl⟩
  have HE : Hid (((⟨n, t⟩ : Prm), r2) = X) := Lib.hid (by rw [← hX]; unfold streamP; unfold pBind; rw [h1]; simp only; rw [h2]; rfl)
  have HC : Hid (∀ w', GrAt w' b r → Calls Tryz.prog 109 #[.pointer (some ⟨b, 0, none⟩)] w' (PrmG w' b (⟨n, t⟩, r1))) := Lib.hid (fun w' h => by rw [← h1]; exact param_any b r w' h)
  have H2 := Lib.hid h2
  rw [hX]
  clear h1 h2 hX hr
  have hX0 := Lib.hid (heap_alloc_new w (.cells #[.string ⟨#[]⟩, .int .i64 0] 46))
  go_enter Tryz.func125, Tryz.ntmps125
  go_wp2_with fail
  refine (HC.out _ (HR.out.below (below_new w _))).mono ?_
  rintro e w1 ⟨rfl, hg1⟩
  have HG1 := Lib.hid (GrTo.below (below_new w _) hlt hg1)
  have x1 := hg1.block hX0.out (by omega)
  have hs1 := hg1.grown.size
  simp at hs1
  have X1 := Lib.hid x1
  clear hg1 x1
  go_wp2_with fail
  refine (need_lit (s := sSemi) rfl (HG1.out.rd.below (below_new w1 _)) (by decide) H2.out).mono ?_
  rintro e w2 ⟨rfl, hg2⟩
  have HG2 := Lib.hid ((HG1.out.then_below (below_new w1 _)).trans hg2)
  have x2 := hg2.block (((below_new w1 _).block _ (lt_of_block X1.out)).trans X1.out) (by omega)
  have y2 := hg2.block (heap_alloc_new w1 _) (by omega)
  have X2 := Lib.hid x2
  have p0 : w2.cell? ⟨w.heap.size, 0, none⟩ = some (.string ⟨#[]⟩) := (cell_at x2 0).trans rfl
  have p1 : w2.cell? ⟨w.heap.size, 1, none⟩ = some (.int .i64 0) := (cell_at x2 1).trans rfl
  have q0 : w2.cell? ⟨w1.heap.size, 0, none⟩ = some (.string (str n)) := (cell_at y2 0).trans rfl
  have q1 : w2.cell? ⟨w1.heap.size, 1, none⟩ = some (.int .i64 t) := (cell_at y2 1).trans rfl
  have g0 : w2.frozen? ⟨w.heap.size, 0, none⟩ = false := free_at x2 0
  have g1 : w2.frozen? ⟨w.heap.size, 1, none⟩ = false := free_at x2 1
  clear hg2 x2 y2
  go_wp2
  have Z := blk2 X2.out (.string (str n)) (.int .i64 t)
  have z0 := (cell_at Z 0).trans (show _ = some (.string (str n)) from rfl)
  have z1 := (cell_at Z 1).trans (show _ = some (.int .i64 t) from rfl)
  clear p0 p1 q0 q1 g0 g1
  exact bodyPost_ret (v := .agg #[.string (str n), .int .i64 t]) (by simp [results, Tryz.results125, go_sem, z0, z1]) rfl (PrmG.of HE.out ((HG2.out.setLocal (by omega) hlt _).setLocal (by omega) hlt _))
end Go.Proofs.YtgohhnbdicdenaaGreatDoor.Pg

/- The method fromRight of a reader: its lists and its second loop. Conditions: level's contract at less fuel; a reader lies in memory. -/
namespace Go.Proofs.YtgohhnbdicdenaaGreatDoor.Ex
open Go.ChangeShapes Go.WideShapes Go.ChangeAt Go.RowKit
open Go.Proofs.YtgohhnbdicdenaaGreatDoor.Tr (str ret_bool ret_int Bytes Nd joinM roomM own_block)
set_option linter.unusedVariables false
set_option linter.unusedSimpArgs false

theorem info84 : (Tryz.prog.info? 171).map (fun i => (i.zero, i.size, i.bytes)) = some (some (.agg #[.int .i64 0, .bool false]), 2, 16) := by kernel_rfl
theorem info64 : (Tryz.prog.info? 167).map (fun i => (i.zero, i.size, i.bytes)) = some (some (.agg #[.slice none 0 0, .int .i64 0, .int .i64 0]), 3, 40) := by kernel_rfl
def sgCells (s : Int × Bool) : List Value := [.int .i64 s.1, .bool s.2]
def sgsOf (l : List (Int × Bool)) : List Value := l.flatMap sgCells
theorem sgs_snoc (l : List (Int × Bool)) (x : Int × Bool) : sgsOf (l ++ [x]) = sgsOf l ++ sgCells x := by simp [sgsOf]
theorem sgs_at (l : List (Int × Bool)) (i : Nat) (x : Int × Bool) (h : l[i]? = some x) (k : Nat) (hk : k < 2) : (sgsOf l)[i * 2 + k]? = (sgCells x)[k]? := by
  induction l generalizing i with
  | nil => simp at h
  | cons a r ih =>
    cases i with
    | zero =>
      simp at h; subst h
      show (sgCells a ++ sgsOf r)[0 * 2 + k]? = _
      rw [List.getElem?_append_left (by simp [sgCells]; omega)]; congr 1; omega
    | succ i =>
      simp at h
      show (sgCells a ++ sgsOf r)[(i + 1) * 2 + k]? = _
      rw [List.getElem?_append_right (by simp [sgCells]; omega), ← ih i h]
      congr 1; simp [sgCells]; omega
theorem own_type {w : World} {b n T s : Nat} {v : Value} {xs : List Value} (h : w.ownsRow b T s v n xs) : ∀ k, v.ownBlock = some k → ∃ cs f, w.heap[k]? = some (Obj.cells cs T f) := by
  intro k hk
  obtain ⟨_, h0 | ⟨g, cap, cur, rfl, hb, hh, _⟩⟩ := h
  · rw [h0.1] at hk; cases hk
  · simp only [Value.ownBlock, Option.some.injEq] at hk
    subst hk; exact ⟨_, _, hh⟩
theorem own_ne_type {w : World} {b n T T2 s B : Nat} {v : Value} {xs : List Value} {cs : Array Value} {f : Nat × Nat} (h : w.ownsRow b T s v n xs) (hB : w.heap[B]? = some (.cells cs T2 f)) (hT : T ≠ T2) : v.ownBlock ≠ some B := fun e => by
  obtain ⟨cs', f', hc⟩ := own_type h B e
  rw [hc] at hB
  simp only [Option.some.injEq, Obj.cells.injEq] at hB
  exact hT hB.2.1
theorem PtW.rowed {w w' : World} {x : Value × Pt} {row : Option Nat} {T : Nat} (h : PtW w x) (hg : w.grownBy w' row) (ht : ∀ k, row = some k → ∃ cs f, w.heap[k]? = some (Obj.cells cs T f)) (hT : T ≠ 58) : PtW w' x :=
  h.keep hg.size (fun g ⟨cs, f, hc⟩ => hg.block g (lt_of_block hc) (fun e => by
    obtain ⟨cs', f', hc'⟩ := ht g e.symm
    rw [hc] at hc'
    simp only [Option.some.injEq, Obj.cells.injEq] at hc'
    exact hT hc'.2.1.symm))
theorem RdTo.rowed {w wr w' : World} {b : Nat} {mv : Nat → Value} {r : Rd} {row : Option Nat} (h : RdTo w wr b mv r) (hg : wr.grownBy w' row) (hrow : ∀ k, row = some k → w.heap.size ≤ k) (hlt : b < w.heap.size) : RdTo w w' b mv r := by
  have ho : ∀ g, g < w.heap.size → w'.heap[g]? = wr.heap[g]? := fun g hgl => hg.block g (Nat.lt_of_lt_of_le hgl h.grown.size) (fun e => by have := hrow g e.symm; omega)
  exact ⟨h.rd.keep hg.size (fun g h1 _ => ho g (by omega)) (ho b hlt), ⟨hg.os.trans h.grown.os, hg.tape.trans h.grown.tape, hg.output.trans h.grown.output, Nat.le_trans h.grown.size hg.size, fun i hi hne => (ho i hi).trans (h.grown.block i hi hne)⟩⟩
theorem foldR_next {ps : List Pt} {ops : List (Int × Bool)} {k : Nat} {p : Pt} {s : Int × Bool} (hp : ps[k]? = some p) (hs : ops[k]? = some s) : foldR (ps.drop k) (ops.drop k) = sjoin s p (foldR (ps.drop (k + 1)) (ops.drop (k + 1))) := by
  have h1 := (List.getElem?_eq_some_iff.1 hp).1
  have h2 := (List.getElem?_eq_some_iff.1 hs).1
  rw [List.drop_eq_getElem_cons h1, List.drop_eq_getElem_cons h2]
  have e1 : ps[k] = p := by rw [List.getElem?_eq_getElem h1] at hp; exact Option.some.inj hp
  have e2 : ops[k] = s := by rw [List.getElem?_eq_getElem h2] at hs; exact Option.some.inj hs
  rw [e1, e2]; rfl
theorem foldR_last {ps : List Pt} {ops : List (Int × Bool)} (h : ps.length = ops.length + 1) {p : Pt} (hp : ps[ops.length]? = some p) : foldR (ps.drop ops.length) (ops.drop ops.length) = p := by
  have h1 := (List.getElem?_eq_some_iff.1 hp).1
  have e1 : ps[ops.length] = p := by rw [List.getElem?_eq_getElem h1] at hp; exact Option.some.inj hp
  rw [List.drop_eq_getElem_cons h1, List.drop_length, e1]
  rw [List.drop_eq_nil_of_le (by omega)]; rfl
theorem foldR_bound {ps : List Pt} {ops : List (Int × Bool)} (hs : ∀ s ∈ ops, s.1 ≤ 25) (k : Nat) : (foldR (ps.drop k) (ops.drop k)).nodes ≤ (ps.map Pt.nodes).sum + ops.length := by
  have h := foldR_nodes (ps.drop k) (ops.drop k) (fun s h => hs s (List.mem_of_mem_drop h))
  have h1 : ((ps.drop k).map Pt.nodes).sum ≤ (ps.map Pt.nodes).sum := by
    conv => rhs; rw [← List.take_append_drop k ps]
    rw [List.map_append, List.sum_append]; omega
  have h2 : (ops.drop k).length ≤ ops.length := by rw [List.length_drop]; omega
  omega

/-- What fromRight has read: the lists, as they lie in memory. -/
structure RBase (w : World) (b : Nat) (mv : Nat → Value) (wr : World) (lv bv : Value) (L : List (Value × Pt)) (ops : List (Int × Bool)) (rd : Rd) : Prop where
  own : wr.ownsRow (w.heap.size + 1) 167 3 lv L.length (ptsOf L)
  sgn : wr.ownsRow (w.heap.size + 1) 171 2 bv ops.length (sgsOf ops)
  pts : ∀ x ∈ L, PtW wr x
  oks : ∀ x ∈ L, x.2.ok
  ops_ : ∀ s ∈ ops, s.1 ≤ 25
  len : L.length = ops.length + 1
  h4 : wr.heap[w.heap.size]? = some (.cells #[.slice none 0 0, .int .i64 0, .int .i64 0] 167 (0, 0))
  rd_ : RdTo w wr b mv rd
  nd : ((L.map Prod.snd).map Pt.nodes).sum + ops.length ≤ 100001
theorem RBase.keep {w wr w' : World} {b : Nat} {mv : Nat → Value} {lv bv : Value} {L : List (Value × Pt)} {ops : List (Int × Bool)} {rd rd' : Rd} (h : RBase w b mv wr lv bv L ops rd) (hs : wr.heap.size ≤ w'.heap.size) (hk : ∀ g, g < wr.heap.size → w.heap.size ≤ g → w'.heap[g]? = wr.heap[g]?) (hr : RdTo w w' b mv rd') (hpt : ∀ x ∈ L, PtW w' x) : RBase w b mv w' lv bv L ops rd' :=
  ⟨own_block h.own (fun g hg => by have := h.own.lt g hg; exact hk g this.2 (by omega)), own_block h.sgn (fun g hg => by have := h.sgn.lt g hg; exact hk g this.2 (by omega)), hpt, h.oks, h.ops_, h.len, (hk _ (lt_of_block h.h4) (Nat.le_refl _)).trans h.h4, hr, h.nd⟩
/-- The head of the second loop. -/
structure FAt (w : World) (b : Nat) (mv : Nat → Value) (B9 : Nat) (lv bv : Value) (L : List (Value × Pt)) (ops : List (Int × Bool)) (rd : Rd) (k : Nat) (ev : Value) (wr : World) : Prop where
  base : RBase w b mv wr lv bv L ops rd
  le : k ≤ ops.length
  b9 : w.heap.size < B9
  n9 : lv.ownBlock ≠ some B9
  h9 : wr.heap[B9]? = some (.cells #[ev, .int .i64 ((foldR ((L.map Prod.snd).drop k) (ops.drop k)).nodes : Int), .int .i64 ((foldR ((L.map Prod.snd).drop k) (ops.drop k)).deep : Int)] 167 (0, 0))
  pt : PtW wr (ev, foldR ((L.map Prod.snd).drop k) (ops.drop k))
theorem fold_ok {L : List (Value × Pt)} {ops : List (Int × Bool)} (h : ∀ x ∈ L, x.2.ok) (k : Nat) : (foldR ((L.map Prod.snd).drop k) (ops.drop k)).ok :=
  foldR_ok _ _ (fun p hp => by
    have := List.mem_of_mem_drop hp
    obtain ⟨x, hx, rfl⟩ := List.mem_map.1 this
    exact h x hx)
/-- Behind the joining of a round of the second loop. -/
theorem FAt.next {w wr w4 : World} {b : Nat} {mv : Nat → Value} {B9 : Nat} {lv bv : Value} {L : List (Value × Pt)} {ops : List (Int × Bool)} {rd : Rd} {k : Nat} {ev gv : Value} {x : Value × Pt} {s : Int × Bool} (h : FAt w b mv B9 lv bv L ops rd (k + 1) ev wr) (hlt : b < w.heap.size)
    (hx : L[k]? = some x) (hs : ops[k]? = some s) (hb : Below wr.heap.size wr w4) (hpt : PtW w4 (gv, sjoin s x.2 (foldR ((L.map Prod.snd).drop (k + 1)) (ops.drop (k + 1))))) :
    FAt w b mv B9 lv bv L ops rd k gv (((w4.setCell ⟨B9, 0, none⟩ gv).setCell ⟨B9, 1, none⟩ (.int .i64 ((sjoin s x.2 (foldR ((L.map Prod.snd).drop (k + 1)) (ops.drop (k + 1)))).nodes : Int))).setCell ⟨B9, 2, none⟩ (.int .i64 ((sjoin s x.2 (foldR ((L.map Prod.snd).drop (k + 1)) (ops.drop (k + 1)))).deep : Int))) := by
  have hx' : (L.map Prod.snd)[k]? = some x.2 := by rw [List.getElem?_map, hx]; rfl
  rw [← foldR_next hx' hs] at hpt ⊢
  have z9 := lt_of_block h.h9
  have y9 := (hb.block B9 z9).trans h.h9
  have k1 := setObj_heap (v := gv) y9 (k := 0) (by simp)
  have k2 := setObj_heap (v := .int .i64 ((foldR ((L.map Prod.snd).drop k) (ops.drop k)).nodes : Int)) k1 (k := 1) (by simp)
  have k3 := setObj_heap (v := .int .i64 ((foldR ((L.map Prod.snd).drop k) (ops.drop k)).deep : Int)) k2 (k := 2) (by simp)
  have ho : ∀ g, g ≠ B9 → g < wr.heap.size → (((w4.setCell ⟨B9, 0, none⟩ gv).setCell ⟨B9, 1, none⟩ (.int .i64 ((foldR ((L.map Prod.snd).drop k) (ops.drop k)).nodes : Int))).setCell ⟨B9, 2, none⟩ (.int .i64 ((foldR ((L.map Prod.snd).drop k) (ops.drop k)).deep : Int))).heap[g]? = wr.heap[g]? := fun g hg hgl => by
    rw [Below.heap_setCell _ _ _ _ (by simpa using hg), Below.heap_setCell _ _ _ _ (by simpa using hg), Below.heap_setCell _ _ _ _ (by simpa using hg), hb.block g hgl]
  have set3 : ∀ y : Value × Pt, PtW w4 y → PtW (((w4.setCell ⟨B9, 0, none⟩ gv).setCell ⟨B9, 1, none⟩ (.int .i64 ((foldR ((L.map Prod.snd).drop k) (ops.drop k)).nodes : Int))).setCell ⟨B9, 2, none⟩ (.int .i64 ((foldR ((L.map Prod.snd).drop k) (ops.drop k)).deep : Int))) y := fun y hy =>
    ((hy.set y9 (by decide) _).set k1 (by decide) _).set k2 (by decide) _
  have hb9 := h.b9
  have hbs := hb.size
  have ho9 : bv.ownBlock ≠ some B9 := own_ne_type h.base.sgn h.h9 (by decide)
  exact ⟨⟨own_block h.base.own (fun g hg => ho g (fun e => h.n9 (by rw [← e]; exact hg)) (h.base.own.lt g hg).2), own_block h.base.sgn (fun g hg => ho g (fun e => ho9 (by rw [← e]; exact hg)) (h.base.sgn.lt g hg).2),
    fun y hy => set3 y ((h.base.pts y hy).below hb), h.base.oks, h.base.ops_, h.base.len, (ho w.heap.size (by omega) (lt_of_block h.base.h4)).trans h.base.h4, (((h.base.rd_.then_below hb).setLocal (by omega) hlt _).setLocal (by omega) hlt _).setLocal (by omega) hlt _, h.base.nd⟩,
    by have := h.le; omega, hb9, h.n9, by rw [k3]; simp, set3 _ hpt⟩

theorem PtW.drew {w : World} {x : Value × Pt} (h : PtW w x) : PtW w.drew x := h.keep (Nat.le_refl _) (fun _ _ => rfl)
theorem below_undrew {w w' : World} (h : Below w.drew.heap.size w.drew w') : Below w.heap.size w w' := ⟨h.os, h.tape, h.output, h.size, h.block⟩
theorem own_slice {w : World} {b n T s : Nat} {v : Value} {xs : List Value} (h : w.ownsRow b T s v n xs) : ∃ A c, v = .slice A n c ∧ n ≤ c ∧ c ≤ 9223372036854775807 ∧ (0 < n → ∃ g, A = some ⟨g, 0, none⟩ ∧ g < w.heap.size) := by
  obtain ⟨_, h0 | ⟨g, cap, cur, rfl, hb, hh, hnc, hcm, _⟩⟩ := h
  · obtain ⟨rfl, rfl⟩ := h0
    exact ⟨none, 0, rfl, Nat.le_refl _, by omega, fun h => by omega⟩
  · exact ⟨_, cap, rfl, hnc, by unfold maxLen at hcm; omega, fun _ => ⟨g, rfl, lt_of_block hh⟩⟩
theorem RBase.part {w wr : World} {b : Nat} {mv : Nat → Value} {lv bv : Value} {L : List (Value × Pt)} {ops : List (Int × Bool)} {rd : Rd} (h : RBase w b mv wr lv bv L ops rd) {g c : Nat} (hv : lv = .slice (some ⟨g, 0, none⟩) L.length c) {i : Nat} {x : Value × Pt} (hx : L[i]? = some x) :
    wr.cell? ⟨g, i * 3, none⟩ = some x.1 ∧ wr.cell? ⟨g, i * 3 + 1, none⟩ = some (.int .i64 (x.2.nodes : Int)) ∧ wr.cell? ⟨g, i * 3 + 2, none⟩ = some (.int .i64 (x.2.deep : Int)) := by
  have ho := h.own
  rw [hv] at ho
  have hil := (List.getElem?_eq_some_iff.1 hx).1
  have q : ∀ k, k < 3 → wr.cell? ⟨g, i * 3 + k, none⟩ = (ptCells x)[k]? := fun k hk => by rw [ho.cellAt _ (by omega), pts_at L i x hx k hk]
  exact ⟨q 0 (by omega), q 1 (by omega), q 2 (by omega)⟩
theorem RBase.sign_ {w wr : World} {b : Nat} {mv : Nat → Value} {lv bv : Value} {L : List (Value × Pt)} {ops : List (Int × Bool)} {rd : Rd} (h : RBase w b mv wr lv bv L ops rd) {g c : Nat} (hv : bv = .slice (some ⟨g, 0, none⟩) ops.length c) {i : Nat} {x : Int × Bool} (hx : ops[i]? = some x) :
    wr.cell? ⟨g, i * 2, none⟩ = some (.int .i64 x.1) ∧ wr.cell? ⟨g, i * 2 + 1, none⟩ = some (.bool x.2) := by
  have ho := h.sgn
  rw [hv] at ho
  have hil := (List.getElem?_eq_some_iff.1 hx).1
  have q : ∀ k, k < 2 → wr.cell? ⟨g, i * 2 + k, none⟩ = (sgCells x)[k]? := fun k hk => by rw [ho.cellAt _ (by omega), sgs_at ops i x hx k hk]
  exact ⟨q 0 (by omega), q 1 (by omega)⟩
theorem part_bound {L : List (Value × Pt)} {x : Value × Pt} (h : x ∈ L) : x.2.nodes ≤ ((L.map Prod.snd).map Pt.nodes).sum := by
  induction L with
  | nil => simp at h
  | cons a r ih =>
    simp only [List.map_cons, List.sum_cons]
    rcases List.mem_cons.1 h with rfl | h
    · omega
    · have := ih h; omega
theorem news_new (W : World) (cs : Array Value) (T : TypeId) (xs : List Value) (h : cs.toList = xs) {G : Nat} (hG : W.heap.size = G) : ∀ j u, xs[j]? = some u → (W.alloc (.cells cs T)).cell? ((⟨G, 0, none⟩ : Addr).add j) = some u := by
  subst h; subst hG
  exact World.news_of_block (t := T) (fr := (0, 0)) (heap_alloc_new _ _)
/-- A round of the first loop has laid a sign and a part. -/
theorem RBase.step {w wr w3 w4 w5 : World} {b : Nat} {mv : Nat → Value} {lv bv lv2 bv2 fv : Value} {L : List (Value × Pt)} {ops : List (Int × Bool)} {rd r3 : Rd} {q3 : Pt} {s : Int × Bool} {o3 o5 : Obj} (h : RBase w b mv wr lv bv L ops rd)
    (hg3 : (wr.alloc o3).grownBy w3 bv.ownBlock) (hown3 : w3.ownsRow (w.heap.size + 1) 171 2 bv2 (ops.length + 1) (sgsOf ops ++ sgCells s)) (hr4 : RdTo w3 w4 b mv r3) (hpt : PtW w4 (fv, q3))
    (hg5 : (w4.alloc o5).grownBy w5 lv.ownBlock) (hown5 : w5.ownsRow (w.heap.size + 1) 167 3 lv2 (L.length + 1) (ptsOf L ++ ptCells (fv, q3))) (hlt : b < w.heap.size) (hok : q3.ok) (hs : s.1 ≤ 25)
    (hn : (((L ++ [(fv, q3)]).map Prod.snd).map Pt.nodes).sum + (ops ++ [s]).length ≤ 100001) :
    RBase w b mv w5 lv2 bv2 (L ++ [(fv, q3)]) (ops ++ [s]) r3 := by
  have s3 := hg3.size
  have s4 := hr4.grown.size
  have s5 := hg5.size
  simp at s3 s5
  have z4 := lt_of_block h.h4
  have ob : ∀ g, bv.ownBlock = some g → w.heap.size + 1 ≤ g ∧ g < wr.heap.size := fun g hg => h.sgn.lt g hg
  have ol : ∀ g, lv.ownBlock = some g → w.heap.size + 1 ≤ g ∧ g < wr.heap.size := fun g hg => h.own.lt g hg
  have k3 : ∀ g, g < wr.heap.size → bv.ownBlock ≠ some g → w3.heap[g]? = wr.heap[g]? := fun g h1 h2 => (hg3.block g (by simp; omega) (fun e => h2 e.symm)).trans (Below.heap_alloc _ _ _ h1)
  have k4 : ∀ g, g < w3.heap.size → g ≠ b → w4.heap[g]? = w3.heap[g]? := fun g h1 h2 => hr4.grown.block g h1 (fun e => h2 (by injection e))
  have k5 : ∀ g, g < w4.heap.size → lv.ownBlock ≠ some g → w5.heap[g]? = w4.heap[g]? := fun g h1 h2 => (hg5.block g (by simp; omega) (fun e => h2 e.symm)).trans (Below.heap_alloc _ _ _ h1)
  have tb : ∀ k, bv.ownBlock = some k → ∃ cs f, (wr.alloc o3).heap[k]? = some (Obj.cells cs 171 f) := fun k hk => by
    obtain ⟨cs, f, hc⟩ := own_type h.sgn k hk
    exact ⟨cs, f, (Below.heap_alloc _ _ _ (ob k hk).2).trans hc⟩
  have hne : ∀ g, lv.ownBlock = some g → bv.ownBlock ≠ some g := fun g hg e => by
    obtain ⟨cs, f, hc⟩ := own_type h.own g hg
    exact own_ne_type h.sgn hc (by decide) e
  have l3 : w3.ownsRow (w.heap.size + 1) 167 3 lv L.length (ptsOf L) := own_block h.own (fun g hg => k3 g (ol g hg).2 (hne g hg))
  have l4 : w4.ownsRow (w.heap.size + 1) 167 3 lv L.length (ptsOf L) := own_block l3 (fun g hg => k4 g (l3.lt g hg).2 (by have := (ol g hg).1; omega))
  have tl : ∀ k, lv.ownBlock = some k → ∃ cs f, (w4.alloc o5).heap[k]? = some (Obj.cells cs 167 f) := fun k hk => by
    obtain ⟨cs, f, hc⟩ := own_type l4 k hk
    exact ⟨cs, f, (Below.heap_alloc _ _ _ (l4.lt k hk).2).trans hc⟩
  have b4 : w4.ownsRow (w.heap.size + 1) 171 2 bv2 (ops.length + 1) (sgsOf ops ++ sgCells s) := own_block hown3 (fun g hg => k4 g (hown3.lt g hg).2 (by have := (hown3.lt g hg).1; omega))
  have b5 : w5.ownsRow (w.heap.size + 1) 171 2 bv2 (ops.length + 1) (sgsOf ops ++ sgCells s) := own_block b4 (fun g hg => k5 g (b4.lt g hg).2 (fun e => by
    obtain ⟨cs, f, hc⟩ := own_type l4 g e
    exact own_ne_type b4 hc (by decide) hg))
  have r3' := (h.rd_.then_below (below_new wr o3)).rowed hg3 (fun k hk => by have := (ob k hk).1; omega) hlt
  have r5 := ((r3'.trans hr4).then_below (below_new w4 o5)).rowed hg5 (fun k hk => by have := (ol k hk).1; omega) hlt
  refine ⟨by rw [List.length_append, pts_snoc]; exact hown5, by rw [List.length_append, sgs_snoc]; exact b5, ?_, ?_, ?_, by simp [h.len], ?_, r5, hn⟩
  · intro x hx
    simp only [List.mem_append, List.mem_singleton] at hx
    rcases hx with hx | rfl
    · exact ((((h.pts x hx).below (below_new wr o3)).rowed hg3 tb (by decide)).grown r3'.rd hr4.grown |>.below (below_new w4 o5)).rowed hg5 tl (by decide)
    · exact (hpt.below (below_new w4 o5)).rowed hg5 tl (by decide)
  · intro x hx
    simp only [List.mem_append, List.mem_singleton] at hx
    rcases hx with hx | rfl
    · exact h.oks x hx
    · exact hok
  · intro x hx
    simp only [List.mem_append, List.mem_singleton] at hx
    rcases hx with hx | rfl
    · exact h.ops_ x hx
    · exact hs
  · rw [k5 _ (by omega) (fun e => by have := (ol _ e).1; omega), k4 _ (by omega) (by omega), k3 _ z4 (fun e => by have := (ob _ e).1; omega)]; exact h.h4
end Go.Proofs.YtgohhnbdicdenaaGreatDoor.Ex

/- Contracts of layer prog's reader: streams in round signs. Conditions: a reader lies in memory. -/
namespace Go.Proofs.YtgohhnbdicdenaaGreatDoor.Pg
open Go.ChangeShapes Go.WideShapes Go.ChangeAt Go.RowKit
open Go.Proofs.YtgohhnbdicdenaaGreatDoor.Ex
open Go.Proofs.YtgohhnbdicdenaaGreatDoor.Tr (str ret_bool ret_int Bytes Nd)
set_option linter.unusedVariables false
set_option linter.unusedSimpArgs false

theorem info46_108 : (Tryz.prog.info? 46).map (fun i => (i.zero, i.size, i.bytes)) = some (some (.agg #[.string ⟨#[]⟩, .int .i64 0]), 2, 24) := by kernel_rfl
set_option maxRecDepth 100000 in
set_option maxHeartbeats 4000000 in
theorem encS_any (b : Nat) (r : Rd) (w : World) (hr : GrAt w b r) :
    Calls Tryz.prog 108 #[.pointer (some ⟨b, 0, none⟩), .string (str sSemi), .func (.func 109) #[.pointer (some ⟨b, 0, none⟩)] #[]] w (RowG 46 2 PrmV w b (encP sSemi paramP r)) := by
  have HR := Lib.hid hr
  have hlt := hr.lt
  obtain ⟨i0, hi, hz0, hz1, hz2⟩ := info_parts info46_108
  obtain ⟨r1, h1⟩ : ∃ x, (needP [40] r).2 = x := ⟨_, rfl⟩
  obtain ⟨⟨B, r2⟩, h2⟩ : ∃ x, takeP [41] r1 = x := ⟨_, rfl⟩
  have HE0 : Hid (encP sSemi paramP r = (if B then ([], r2) else pBind paramP (fun x => encF sSemi paramP rowMax [x]) r2)) := Lib.hid (encP_eq h1 h2)
  have H1 := Lib.hid h1
  have H2 := Lib.hid h2
  rw [HE0.out]
  clear h1 h2 hr HE0
  have HSEP : Hid (∃ S, str sSemi = S) := Lib.hid ⟨_, rfl⟩
  cases B with
  | true =>
    rw [if_pos rfl]
    go_enter Tryz.func108, Tryz.ntmps108
    go_wp2_with fail
    refine (need_lit (s := [40]) rfl HR.out (by decide) H1.out).mono ?_
    rintro e w1 ⟨rfl, hg1⟩
    have HG1 := Lib.hid hg1
    clear hg1
    go_wp2_with fail
    refine (take_lit (s := [41]) rfl HG1.out.rd (by decide) H2.out).mono ?_
    rintro e w2 ⟨rfl, hg2⟩
    have HG2 := Lib.hid (HG1.out.trans hg2)
    clear hg2
    go_wp2
    go_ret
    exact RowG.of rfl (RowR.nil _ _ _ _) HG2.out
  | false =>
    rw [if_neg (by decide)]
    obtain ⟨⟨a, r3⟩, h3⟩ : ∃ x, paramP r2 = x := ⟨_, rfl⟩
    have HO : Hid (∀ w', GrAt w' b r2 → Calls Tryz.prog 109 #[.pointer (some ⟨b, 0, none⟩)] w' (PrmG w' b (a, r3))) := Lib.hid (fun w' h => by rw [← h3]; exact param_any b r2 w' h)
    obtain ⟨X, hX⟩ : ∃ X, pBind paramP (fun x => encF sSemi paramP rowMax [x]) r2 = X := ⟨_, rfl⟩
    have HX : Hid (encF sSemi paramP rowMax [a] r3 = X) := Lib.hid (by rw [← hX]; unfold pBind; rw [h3])
    rw [hX]
    clear hX h3
    go_enter Tryz.func108, Tryz.ntmps108
    go_wp2_with fail
    refine (need_lit (s := [40]) rfl HR.out (by decide) H1.out).mono ?_
    rintro e w1 ⟨rfl, hg1⟩
    have HG1 := Lib.hid hg1
    clear hg1
    go_wp2_with fail
    refine (take_lit (s := [41]) rfl HG1.out.rd (by decide) H2.out).mono ?_
    rintro e w5 ⟨rfl, hg2⟩
    have HG5 := Lib.hid (HG1.out.trans hg2)
    clear hg2
    go_wp2_with fail
    refine (HO.out w5 HG5.out.rd).mono ?_
    rintro e w2 ⟨rfl, hg2⟩
    have HG2 := Lib.hid (HG5.out.trans hg2)
    have hs2 := HG2.out.grown.size
    clear hg2
    have HXV : Hid (PrmV w2 a [.string (str a.name), .int .i64 a.ty]) := Lib.hid rfl
    go_wp2
    have HOL0 : Hid (OList 46 2 PrmV (w2.alloc (.cells #[.string (str a.name), .int .i64 a.ty] 46)) w.heap.size (.slice (some ⟨w2.heap.size, 0, none⟩) 1 1) [a] [[.string (str a.name), .int .i64 a.ty]]) := Lib.hid (OList.one hs2 ⟨rfl, rfl⟩ HXV.out (fun st => PrmV.stay st))
    have HGR0 := Lib.hid (HG2.out.then_below (below_new w2 (.cells #[.string (str a.name), .int .i64 a.ty] 46)))
    clear HXV
    go_loopg [7] rowMax (fun g s7 wr => ∃ (rr : Rd) (ov : Value) (acc : List (Prm)) (xs : List (List Value)), ov = s7 ∧ acc.length ≤ 200 ∧ 202 ≤ acc.length + g ∧ OList 46 2 PrmV wr w.heap.size ov acc xs ∧ GrTo w wr b rr ∧ encF sSemi paramP g acc rr = X)
    case atStart => exact ⟨r3, _, [a], [[.string (str a.name), .int .i64 a.ty]], rfl, by simp, by simp [rowMax], HOL0.out, HGR0.out, HX.out⟩
    case round =>
      clear HOL0 HGR0 HX
      obtain ⟨rr, ov, acc, xs, hov, ha, hag, hol, hgr, hrow⟩ := hrel
      subst hov
      have HOL := Lib.hid hol
      have HGR := Lib.hid hgr
      have HROW := Lib.hid hrow
      obtain ⟨A0, c0, hv0, hn1, hn2⟩ := own_form hol.own
      subst hv0
      clear hol hgr hrow
      cases gk with
      | zero => omega
      | succ gk =>
      obtain ⟨⟨B, r6⟩, hB⟩ : ∃ x, takeP sSemi rr = x := ⟨_, rfl⟩
      have HB := Lib.hid hB
      clear hB
      cases B with
      | false =>
        obtain ⟨r7, h7⟩ : ∃ x, (needP [41] r6).2 = x := ⟨_, rfl⟩
        have H7 := Lib.hid h7
        have HE : Hid ((acc, r7) = X) := Lib.hid ((encF_stop HB.out h7).symm.trans HROW.out)
        clear h7
        go_wp2_with fail
        refine (take_lit (s := sSemi) rfl HGR.out.rd (by decide) HB.out).mono ?_
        rintro e w6 ⟨rfl, hg6⟩
        have HG6 := Lib.hid hg6
        clear hg6
        go_wp2_with fail
        refine (need_lit (s := [41]) rfl HG6.out.rd (by decide) H7.out).mono ?_
        rintro e w7 ⟨rfl, hg7⟩
        have HG7 := Lib.hid hg7
        have HOL7 := Lib.hid ((HOL.out.stay (GrTo.stay HGR.out.rd HG6.out) (by decide) (fun a x hx => PrmV.stay (GrTo.stay HGR.out.rd HG6.out) a x hx)).stay (GrTo.stay HG6.out.rd HG7.out) (by decide) (fun a x hx => PrmV.stay (GrTo.stay HG6.out.rd HG7.out) a x hx))
        clear hg7
        go_wp2
        go_ret
        exact RowG.of HE.out HOL7.out.row ((HGR.out.trans HG6.out).trans HG7.out)
      | true =>
      by_cases h200 : acc.length = 200
      · have HE : Hid (([], r6.fail 7) = X) := Lib.hid ((encF_many HB.out h200).symm.trans HROW.out)
        have hd : ((acc.length : Int) == 200) = true := by rw [beq_iff_eq]; omega
        clear h200
        go_wp2_with fail
        refine (take_lit (s := sSemi) rfl HGR.out.rd (by decide) HB.out).mono ?_
        rintro e w6 ⟨rfl, hg6⟩
        have HG6 := Lib.hid hg6
        clear hg6
        go_wp2_with fail
        refine (fail_any b r6 7 _ HG6.out.rd).mono ?_
        rintro e w7 ⟨rfl, hg7⟩
        have HG7 := Lib.hid hg7
        clear hg7
        go_wp2
        go_ret
        exact RowG.of HE.out (RowR.nil _ _ _ _) ((HGR.out.trans HG6.out).trans HG7.out)
      have hd : ((acc.length : Int) == 200) = false := by rw [beq_eq_false_iff_ne]; omega
      obtain ⟨⟨a, r8⟩, hone⟩ : ∃ x, paramP r6 = x := ⟨_, rfl⟩
      have HE : Hid (encF sSemi paramP gk (acc ++ [a]) r8 = X) := Lib.hid ((encF_step HB.out h200 hone).symm.trans HROW.out)
      have HO2 : Hid (∀ w', GrAt w' b r6 → Calls Tryz.prog 109 #[.pointer (some ⟨b, 0, none⟩)] w' (PrmG w' b (a, r8))) := Lib.hid (fun w' h => by rw [← hone]; exact param_any b r6 w' h)
      have ha2 : acc.length < 200 := by omega
      clear h200 hone
      go_wp2_with fail
      refine (take_lit (s := sSemi) rfl HGR.out.rd (by decide) HB.out).mono ?_
      rintro e w6 ⟨rfl, hg6⟩
      have HG6 := Lib.hid hg6
      clear hg6
      go_wp2_with fail
      refine (HO2.out w6 HG6.out.rd).mono ?_
      rintro e w2 ⟨rfl, hg2⟩
      have HG2 := Lib.hid hg2
      have hs3 := hg2.grown.size
      have hs6 := HG6.out.grown.size
      have hs0 := HGR.out.grown.size
      have HOL2 := Lib.hid ((HOL.out.stay (GrTo.stay HGR.out.rd HG6.out) (by decide) (fun a x hx => PrmV.stay (GrTo.stay HGR.out.rd HG6.out) a x hx)).stay (GrTo.stay HG6.out.rd HG2.out) (by decide) (fun a x hx => PrmV.stay (GrTo.stay HG6.out.rd HG2.out) a x hx))
      clear hg2
      have HXV : Hid (PrmV w2 a [.string (str a.name), .int .i64 a.ty]) := Lib.hid rfl
      go_wp2_with (at_builtin; refine wpList_append_own _ rfl (.tmp 23) (.tmp 26) 44 rfl w.heap.size 46 i0 _ 2 24 Tryz.underlying44 hi hz0 hz1 hz2 rfl (by decide) _ acc.length xs.flatten rfl (HOL2.out.own.alloc _) ⟨w2.heap.size, 0, none⟩ 1 1 [.string (str a.name), .int .i64 a.ty] rfl rfl ?a1 ?b1 ?c1 ?d1 ?e1 ?_)
      case a1 => first | exact (fun j u h => h) | exact news_new _ #[.string (str a.name), .int .i64 a.ty] _ [.string (str a.name), .int .i64 a.ty] rfl rfl
      case b1 => simp [Value.oneCell']
      case c1 => unfold maxLen; omega
      case d1 => omega
      case e1 => simp; omega
      intro v3 w3 hown3 hg3 _
      have HOL3 := Lib.hid (HOL2.out.snoc HXV.out rfl (below_new w2 _) hown3 hg3 (fun st => PrmV.stay st))
      have HGR3 := Lib.hid (GrTo.row ((HGR.out.trans HG6.out).trans HG2.out) hlt (below_new w2 _) hg3 (fun g hg => (HOL2.out.own.lt g hg).1))
      obtain ⟨A3, c3, hv3, y3, y4⟩ := own_form hown3
      subst hv3
      clear hown3 hg3
      go_wp2
      go_roundg gk
      case measure => omega
      case rel => exact ⟨r8, _, acc ++ [a], xs ++ [[.string (str a.name), .int .i64 a.ty]], rfl, by simp; omega, by simp; omega, HOL3.out, HGR3.out, HE.out⟩
end Go.Proofs.YtgohhnbdicdenaaGreatDoor.Pg

/- Tokens that are alike are read alike; a fault is at a token, or at the end. Conditions: none. -/
namespace Go.Proofs.YtgohhnbdicdenaaGreatDoor.Pg
open Go.Proofs.YtgohhnbdicdenaaGreatDoor.Tr Go.Proofs.YtgohhnbdicdenaaGreatDoor.Ex
set_option linter.unusedVariables false
set_option linter.unusedSimpArgs false

/-- Two readers of tokens that are alike, at one place. -/
structure Fu (r q : Rd) : Prop where
  like : Like r.l q.l
  nx : q.next = r.next
  bg : q.begun = r.begun
  cd : q.code = r.code
  neg : r.at_ = -1 ↔ q.at_ = -1
theorem like_nil : Like [] [] := ⟨rfl, fun i t h => by simp at h⟩
theorem atM_neg (l : List Tok) (i : Nat) : atM l i = -1 ↔ ¬ i < l.length := by
  unfold atM
  by_cases h : i < l.length
  · rw [List.getElem?_eq_getElem h]; simp only [h, not_true, iff_false]; omega
  · rw [List.getElem?_eq_none (by omega)]; simp [h]
theorem Fu.cur {r q : Rd} (h : Fu r q) : q.cur.kind = r.cur.kind ∧ q.cur.text = r.cur.text := by
  unfold Rd.cur
  rw [h.nx]
  by_cases hl : r.next < r.l.length
  · obtain ⟨u, hu, hk, ht⟩ := h.like.2 _ _ (List.getElem?_eq_getElem hl)
    rw [hu, List.getElem?_eq_getElem hl]; exact ⟨hk, ht⟩
  · have e1 : r.l[r.next]? = none := List.getElem?_eq_none (by omega)
    have e2 : q.l[r.next]? = none := List.getElem?_eq_none (by rw [h.like.1]; omega)
    rw [e1, e2]; exact ⟨rfl, rfl⟩
theorem Fu.lt {r q : Rd} (h : Fu r q) : (q.next < q.l.length) = (r.next < r.l.length) := by rw [h.nx, h.like.1]
theorem Fu.txt {r q : Rd} (h : Fu r q) : txt q = txt r := h.cur.2
theorem Fu.ws {r q : Rd} (h : Fu r q) : q.ws = r.ws := by unfold Rd.ws; simp only [h.lt, h.cur.1]
theorem Fu.isB {r q : Rd} (h : Fu r q) (s : Bytes) : q.isB s = r.isB s := by unfold Rd.isB; rw [h.ws, h.cur.2]
theorem Fu.sign {r q : Rd} (h : Fu r q) (n : Nat) : q.sign n = r.sign n := by unfold Rd.sign; rw [h.ws, h.cur.2]
theorem Fu.num {r q : Rd} (h : Fu r q) (m : Nat) : numB m q.cur = numB m r.cur := by unfold numB; rw [h.cur.1, h.cur.2]
theorem Fu.atName {r q : Rd} (h : Fu r q) : atNameB q = atNameB r := by unfold atNameB; simp only [h.lt, h.cur.1]
theorem Fu.adv {r q : Rd} (h : Fu r q) : Fu r.adv q.adv := ⟨h.like, by simp [Rd.adv, h.nx], h.bg, h.cd, h.neg⟩
theorem Fu.open_ {r q : Rd} (h : Fu r q) : Fu r.open_ q.open_ := ⟨h.like, h.nx, by simp [Rd.open_, h.bg], h.cd, h.neg⟩
theorem Fu.shut {r q : Rd} (h : Fu r q) : Fu r.shut q.shut := ⟨h.like, h.nx, by simp [Rd.shut, h.bg], h.cd, h.neg⟩
theorem Fu.to {r q : Rd} (h : Fu r q) (n : Nat) : Fu (Rd.to n r) (Rd.to n q) := ⟨h.like, rfl, h.bg, h.cd, h.neg⟩
theorem Fu.fail {r q : Rd} (h : Fu r q) (e : Int) : Fu (r.fail e) (q.fail e) := by
  unfold Rd.fail
  rw [h.cd]
  split
  · exact ⟨like_nil, h.nx, h.bg, rfl, by simp only; rw [atM_neg, atM_neg, h.nx, h.like.1]⟩
  · exact ⟨like_nil, h.nx, h.bg, rfl, h.neg⟩
theorem Fu.stop {r q : Rd} (h : Fu r q) (C A B : Int) (hn : A = -1 ↔ B = -1) : Fu (Rd.stop C A r) (Rd.stop C B q) := by
  unfold Rd.stop
  rw [h.cd]
  split
  · exact ⟨like_nil, h.nx, h.bg, rfl, hn⟩
  · exact ⟨like_nil, h.nx, h.bg, rfl, h.neg⟩
theorem Fu.need {r q : Rd} (h : Fu r q) (s : Bytes) : Fu (r.need s) (q.need s) := by
  unfold Rd.need; rw [h.isB]; split
  · exact h.adv
  · exact h.fail 5
theorem Fu.numR {r q : Rd} (h : Fu r q) (m : Nat) : Fu (r.numR m) (q.numR m) := by
  unfold Rd.numR; rw [h.num]; split
  · exact h.adv
  · exact h.fail 5
theorem Fu.numV {r q : Rd} (h : Fu r q) (m : Nat) : q.num m = r.num m := by unfold Rd.num; rw [h.num, h.cur.2]
/-- Two runs that tell alike. -/
inductive OF : Out → Out → Prop
  | none : OF none none
  | some (p : Pt) (r q : Rd) (h : Fu r q) : OF (some (p, r)) (some (p, q))
theorem OF.bind {x y : Out} (h : OF x y) {F G : Pt × Rd → Out} (k : ∀ p r q, Fu r q → OF (F (p, r)) (G (p, q))) : OF (x.bind F) (y.bind G) := by
  cases h with
  | none => exact .none
  | some p r q h => exact k p r q h
theorem OF.map {x y : Out} (h : OF x y) {F G : Pt × Rd → Pt × Rd} (k : ∀ p r q, Fu r q → (F (p, r)).1 = (G (p, q)).1 ∧ Fu (F (p, r)).2 (G (p, q)).2) : OF (x.map F) (y.map G) := by
  cases h with
  | none => exact .none
  | some p r q h =>
    obtain ⟨h1, h2⟩ := k p r q h
    show OF (Option.some (F (p, r))) (Option.some (G (p, q)))
    generalize F (p, r) = a at h1 h2
    generalize G (p, q) = b at h1 h2
    obtain ⟨a1, a2⟩ := a
    obtain ⟨b1, b2⟩ := b
    simp only at h1 h2
    subst h1
    exact .some _ _ _ h2
theorem run_full : ∀ (f : Nat) (t : Task) (r q : Rd), Fu r q → OF (run f t r) (run f t q) := by
  intro f
  induction f with
  | zero => intro t r q h; exact .none
  | succ f ih =>
    intro t r q h
    cases t with
    | lev n =>
      simp only [run]
      split
      · exact ih _ _ _ h
      · refine (ih _ _ _ h).bind fun p r1 q1 h1 => ?_
        simp only
        split <;> exact ih _ _ _ h1
    | rl n ps ops =>
      simp only [run, h.sign n]
      split
      · exact .some _ _ _ h
      · exact (ih _ _ _ h.adv).bind fun p r1 q1 h1 => ih _ _ _ h1
    | ll n p0 =>
      simp only [run, h.sign n]
      split
      · exact .some _ _ _ h
      · refine (ih _ _ _ h.adv).bind fun p r1 q1 h1 => ?_
        simp only
        split
        · exact .some _ _ _ h1
        · exact ih _ _ _ h1
    | opnd =>
      simp only [run, h.bg, h.open_.sign 9, h.open_.adv.numV]
      split
      · exact .some _ _ _ (h.fail 6)
      · split
        · exact (ih _ _ _ h.open_).map fun p r1 q1 h1 => ⟨rfl, h1.shut⟩
        · refine (ih _ _ _ ?_).map fun p r1 q1 h1 => ⟨rfl, h1.shut⟩
          split
          · exact h.open_.adv.numR 1000
          · exact h.open_.adv
    | single =>
      simp only [run, h.isB, h.cur.1, h.cur.2, h.numV]
      split
      · exact (ih _ _ _ h.adv).map fun p r1 q1 h1 => ⟨rfl, h1.need _⟩
      · split
        · refine (ih _ _ _ h.adv).bind fun a r1 q1 h1 => ?_
          refine (ih _ _ _ (h1.need _)).bind fun b r2 q2 h2 => ?_
          exact (ih _ _ _ (h2.need _)).map fun c r3 q3 h3 => ⟨rfl, h3⟩
        · split
          · exact .some _ _ _ h.adv
          · split
            · exact .some _ _ _ h.adv
            · split
              · exact .some _ _ _ (h.numR _)
              · split
                · exact ih _ _ _ h
                · exact .some _ _ _ (h.fail 5)
    | named s =>
      simp only [run, h.adv.isB, h.adv.adv.isB]
      split
      · split
        · exact .some _ _ _ h.adv.adv.adv
        · exact (ih _ _ _ h.adv.adv).bind fun p r1 q1 h1 => ih _ _ _ h1
      · exact .some _ _ _ h.adv
    | args s ps =>
      simp only [run, h.isB]
      split
      · exact (ih _ _ _ h.adv).bind fun p r1 q1 h1 => ih _ _ _ h1
      · exact .some _ _ _ (h.need _)
/-- Parse tells alike. -/
theorem parse_full {l m : List Tok} (h : Like l m) (k : Nat) : (parseM l k).1 = (parseM m k).1 ∧ (parseM l k).2.1 = (parseM m k).2.1 ∧ (parseM l k).2.2.1 = (parseM m k).2.2.1 ∧ ((parseM l k).2.2.2 = -1 ↔ (parseM m k).2.2.2 = -1) := by
  have hF : fuelOf m k = fuelOf l k := by unfold fuelOf; rw [h.1]
  unfold parseM
  rw [hF]
  have hO := run_full (fuelOf l k) (.lev 1) ⟨l, k, 0, 0, 0⟩ ⟨m, k, 0, 0, 0⟩ ⟨h, rfl, rfl, rfl, by simp⟩
  generalize run (fuelOf l k) (.lev 1) ⟨l, k, 0, 0, 0⟩ = X at hO ⊢
  generalize run (fuelOf l k) (.lev 1) ⟨m, k, 0, 0, 0⟩ = Y at hO ⊢
  cases hO with
  | none => exact ⟨rfl, rfl, rfl, Iff.rfl⟩
  | some p r q hq =>
    simp only [parseOf, hq.cd]
    have ha : atM l k = -1 ↔ atM m k = -1 := by rw [atM_neg, atM_neg, h.1]
    split
    · exact ⟨rfl, rfl, rfl, hq.neg⟩
    · split
      · exact ⟨rfl, rfl, rfl, ha⟩
      · split
        · exact ⟨rfl, rfl, rfl, ha⟩
        · exact ⟨rfl, hq.nx.symm, rfl, Iff.rfl⟩
theorem run_from (l : List Tok) (k : Nat) : ∃ p r, run (fuelOf l k) (.lev 1) ⟨l, k, 0, 0, 0⟩ = some (p, r) := by
  obtain ⟨⟨p, r⟩, h⟩ := run_total (fuelOf l k) (.lev 1) ⟨l, k, 0, 0, 0⟩ (fun hc => absurd rfl hc) (by simp [Task.pre]) (by unfold fuelOf Rd.rem Task.wt; simp; omega)
  exact ⟨p, r, h⟩
theorem parse_at_tokN (l : List Tok) (k : Nat) (h : (parseM l k).2.2.1 ≠ 0) : ∃ i, (parseM l k).2.2.2 = atM l i := by
  obtain ⟨p, r, e⟩ := run_from l k
  have hI : Inv l r := run_inv _ _ _ _ _ e (.inl ⟨rfl, rfl⟩)
  unfold parseM at h ⊢
  rw [e] at h ⊢
  simp only [parseOf] at h ⊢
  by_cases h1 : r.code ≠ 0
  · rw [if_pos h1]
    rcases hI with ⟨h2, _⟩ | ⟨_, h2⟩
    · exact absurd h2 h1
    · exact h2
  · rw [if_neg h1] at h ⊢
    by_cases h2 : 5000 < p.nodes
    · rw [if_pos h2]; exact ⟨k, rfl⟩
    · rw [if_neg h2] at h ⊢
      by_cases h3 : 40 < p.deep
      · rw [if_pos h3]; exact ⟨k, rfl⟩
      · rw [if_neg h3] at h; exact absurd rfl h

/-- What reads reads alike what is alike, and fails at a token or at the end. -/
structure OkP {α : Type} (f : PM α) : Prop where
  full : ∀ r q, Fu r q → (f r).1 = (f q).1 ∧ Fu (f r).2 (f q).2
  inv : ∀ L r, Inv L r → Inv L (f r).2
theorem OkP.bind {α β : Type} {f : PM α} {g : α → PM β} (h : OkP f) (k : ∀ a, OkP (g a)) : OkP (pBind f g) :=
  ⟨fun r q hq => by
    obtain ⟨h1, h2⟩ := h.full r q hq
    unfold pBind
    rw [← h1]
    exact (k _).full _ _ h2, fun L r hI => (k _).inv L _ (h.inv L r hI)⟩
theorem OkP.pure {α : Type} (a : α) : OkP (pPure a) := ⟨fun r q h => ⟨rfl, h⟩, fun L r h => h⟩
theorem OkP.ite {α : Type} {b : Bool} {f g : PM α} (hf : OkP f) (hg : OkP g) : OkP (if b then f else g) := by cases b <;> simpa
theorem OkP.iteP {α : Type} {p : Prop} [Decidable p] {f g : PM α} (hf : OkP f) (hg : OkP g) : OkP (if p then f else g) := by split <;> assumption
theorem Inv.stop {L : List Tok} {r : Rd} (h : Inv L r) {C A : Int} (hC : C ≠ 0) (hA : ∃ i, A = atM L i) : Inv L (Rd.stop C A r) := by
  unfold Rd.stop
  rcases h with ⟨h1, h2⟩ | ⟨h1, h2⟩
  · rw [if_pos h1]; exact .inr ⟨hC, hA⟩
  · rw [if_neg h1]; exact .inr ⟨h1, h2⟩
theorem ok_need (s : Bytes) : OkP (needP s) := ⟨fun r q h => by
    unfold needP
    rw [h.txt]
    refine ⟨rfl, ?_⟩
    simp only
    split
    · exact h.adv
    · exact h.fail 5, fun L r h => by
    unfold needP
    simp only
    split
    · exact h.adv
    · exact h.fail (by decide)⟩
theorem ok_take (s : Bytes) : OkP (takeP s) := ⟨fun r q h => by
    unfold takeP
    rw [h.txt]
    split
    · exact ⟨rfl, h.adv⟩
    · exact ⟨rfl, h⟩, fun L r h => by
    unfold takeP
    split
    · exact h.adv
    · exact h⟩
theorem ok_name : OkP nameP := ⟨fun r q h => by
    unfold nameP
    rw [h.atName, h.txt]
    split
    · exact ⟨rfl, h.adv⟩
    · exact ⟨rfl, h.fail 5⟩, fun L r h => by
    unfold nameP
    split
    · exact h.adv
    · exact h.fail (by decide)⟩
theorem ok_fail {e : Int} (he : e ≠ 0) : OkP (failP e) := ⟨fun r q h => ⟨rfl, h.fail e⟩, fun L r h => h.fail he⟩
theorem ok_adv : OkP advP := ⟨fun r q h => ⟨rfl, h.adv⟩, fun L r h => h.adv⟩
theorem ok_expr : OkP exprP := ⟨fun r q h => by
    obtain ⟨h1, h2, h3, h4⟩ := parse_full h.like r.next
    unfold exprP
    rw [h.nx, ← h3]
    split
    · exact ⟨rfl, h.stop _ _ _ h4⟩
    · exact ⟨h1, by rw [← h2]; exact h.to _⟩, fun L r h => by
    unfold exprP
    split
    · rename_i hc
      rcases h with ⟨h1, h2⟩ | ⟨h1, h2⟩
      · refine Inv.stop (.inl ⟨h1, h2⟩) hc ?_
        obtain ⟨i, hi⟩ := parse_at_tokN r.l r.next hc
        exact ⟨i, by rw [hi, h2]⟩
      · unfold Rd.stop
        rw [if_neg h1]; exact .inr ⟨h1, h2⟩
    · exact h⟩
theorem ok_rowF {α : Type} {b : Rd → Bool} {one : PM α} (hb : ∀ r q, Fu r q → b q = b r) (h1 : OkP one) : ∀ (k : Nat) (acc : List α), OkP (rowF b one k acc)
  | 0, acc => OkP.pure acc
  | k + 1, acc => ⟨fun r q h => by
      unfold rowF
      rw [hb r q h]
      split
      · split
        · exact ⟨rfl, h.fail 7⟩
        · exact (h1.bind fun x => ok_rowF hb h1 k (acc ++ [x])).full r q h
      · exact ⟨rfl, h⟩, fun L r h => by
      unfold rowF
      split
      · split
        · exact h.fail (by decide)
        · exact (h1.bind fun x => ok_rowF hb h1 k (acc ++ [x])).inv L r h
      · exact h⟩
theorem ok_row {α : Type} {b : Rd → Bool} {one : PM α} (hb : ∀ r q, Fu r q → b q = b r) (h1 : OkP one) : OkP (rowP b one) := ok_rowF hb h1 _ _
theorem ok_encF {α : Type} (sep : Bytes) {one : PM α} (h1 : OkP one) : ∀ (k : Nat) (acc : List α), OkP (encF sep one k acc)
  | 0, acc => OkP.pure acc
  | k + 1, acc => by
    unfold encF
    exact (ok_take sep).bind fun b => OkP.ite (OkP.iteP ((ok_fail (by decide)).bind fun _ => OkP.pure _) (h1.bind fun x => ok_encF sep h1 k (acc ++ [x]))) ((ok_need _).bind fun _ => OkP.pure _)
theorem ok_enc {α : Type} (sep : Bytes) {one : PM α} (h1 : OkP one) : OkP (encP sep one) :=
  (ok_need _).bind fun _ => (ok_take _).bind fun b => OkP.ite (OkP.pure _) (h1.bind fun x => ok_encF sep h1 _ _)
theorem ok_param : OkP paramP := ok_name.bind fun n => (ok_need _).bind fun _ => (ok_take _).bind fun b => OkP.ite (OkP.pure _) ((ok_take _).bind fun i => OkP.ite (OkP.pure _) ((ok_fail (by decide)).bind fun _ => OkP.pure _))
theorem ok_stream : OkP streamP := ok_param.bind fun p => (ok_need _).bind fun _ => OkP.pure _
theorem fu_name (r q : Rd) (h : Fu r q) : atNameB q = atNameB r := h.atName
theorem ok_streams : OkP streamsP := ⟨fun r q h => by
    unfold streamsP
    rw [h.atName]
    split
    · exact (ok_row fu_name ok_stream).full _ _ h
    · exact (ok_row fu_name ok_stream).full _ _ (h.fail 5), fun L r h => by
    unfold streamsP
    split
    · exact (ok_row fu_name ok_stream).inv _ _ h
    · exact (ok_row fu_name ok_stream).inv _ _ (h.fail (by decide))⟩
theorem ok_eqn : OkP eqnP := ok_name.bind fun n => (ok_need _).bind fun _ => ok_expr.bind fun e => (ok_need _).bind fun _ => OkP.pure _
theorem fu_item (r q : Rd) (h : Fu r q) : atItemB q = atItemB r := by unfold atItemB; rw [h.txt]
theorem ok_itemOf (k : Int) : OkP (itemOf k) := by
  unfold itemOf
  exact OkP.iteP (ok_param.bind fun p => (ok_need _).bind fun _ => ok_expr.bind fun e => OkP.pure _)
    (OkP.iteP (ok_name.bind fun n => (ok_need _).bind fun _ => ok_expr.bind fun e => (ok_need _).bind fun _ => ok_expr.bind fun f => OkP.pure _)
      (OkP.iteP (ok_name.bind fun n => (ok_enc _ ok_expr).bind fun l => OkP.pure _) (ok_expr.bind fun e => OkP.pure _)))
theorem ok_item : OkP itemP := ⟨fun r q h => by
    unfold itemP
    rw [h.txt]
    exact (ok_adv.bind fun _ => (ok_itemOf _).bind fun i => (ok_need _).bind fun _ => OkP.pure _).full r q h, fun L r h =>
    (ok_adv.bind fun _ => (ok_itemOf _).bind fun i => (ok_need _).bind fun _ => OkP.pure _).inv L r h⟩
theorem ok_items : OkP itemsP := (ok_row fu_item ok_item).bind fun l => (ok_need _).bind fun _ => OkP.pure _
theorem ok_contract : OkP contractP := ok_name.bind fun n => (ok_enc _ ok_param).bind fun i => ok_items.bind fun l => OkP.pure _
theorem ok_node : OkP nodeP := ok_name.bind fun n => (ok_enc _ ok_param).bind fun i => (ok_need _).bind fun _ => (ok_need _).bind fun _ => ok_param.bind fun o => (ok_need _).bind fun _ =>
  (ok_take _).bind fun c => (OkP.ite ok_items (OkP.pure _)).bind fun l => (ok_take _).bind fun v => (OkP.ite ok_streams (OkP.pure _)).bind fun vs => (ok_need _).bind fun _ => (ok_row fu_name ok_eqn).bind fun es => (ok_need _).bind fun _ => OkP.pure _
theorem ok_unit : OkP unitP := (ok_take _).bind fun c => OkP.ite ok_contract ((ok_need _).bind fun _ => ok_node)
theorem fu_unit (r q : Rd) (h : Fu r q) : atUnitB q = atUnitB r := by unfold atUnitB; rw [h.txt]
theorem ok_end : OkP endP := ⟨fun r q h => by
    unfold endP
    rw [h.nx, h.like.1]
    split
    · exact ⟨rfl, h.fail 5⟩
    · exact ⟨rfl, h⟩, fun L r h => by
    unfold endP
    split
    · exact h.fail (by decide)
    · exact h⟩
theorem ok_back (b : Bool) : OkP (backP b) := by
  unfold backP
  exact OkP.ite (ok_name.bind fun n => (ok_need _).bind fun _ => OkP.pure _) (OkP.pure _)
theorem ok_progG {f : PM (List Unt)} (h : OkP f) : OkP (progG f) := h.bind fun us => (ok_need _).bind fun _ => ok_name.bind fun m => (ok_need _).bind fun _ => (ok_take _).bind fun b =>
  (ok_back b).bind fun k => ok_end.bind fun _ => OkP.pure _
theorem ok_prog : OkP progP := ok_progG (ok_row fu_unit ok_unit)
/-- ProgBlank: of tokens that are alike the program is one, and so is what is wrong. -/
theorem prog_like {s t : Bytes} {l m : List Tok} (hs : Lx.lexM s = .ok l) (ht : Lx.lexM t = .ok m) (h : Like l m) : (progM s).1 = (progM t).1 ∧ (progM s).2.1 = (progM t).2.1 ∧ ((progM s).2.2 = -1 ↔ (progM t).2.2 = -1) := by
  obtain ⟨h1, h2⟩ := ok_prog.full ⟨l, 0, 0, 0, 0⟩ ⟨m, 0, 0, 0, 0⟩ ⟨h, rfl, rfl, rfl, Iff.rfl⟩
  unfold progM
  rw [hs, ht]
  simp only [h2.cd]
  split
  · exact ⟨rfl, rfl, h2.neg⟩
  · exact ⟨h1, rfl, Iff.rfl⟩
/-- ProgFault: a fault is lex's, or at a token, or at the end. -/
theorem prog_fault {s : Bytes} (h : (progM s).2.1 ≠ 0) : (progM s).1 = .none ∧ ((∃ c a, Lx.lexM s = .bad c a ∧ progM s = (.none, c, a)) ∨ ∃ l i, Lx.lexM s = .ok l ∧ (progM s).2.2 = atM l i) := by
  unfold progM at h ⊢
  cases hl : Lx.lexM s with
  | bad c a => exact ⟨rfl, .inl ⟨c, a, rfl, rfl⟩⟩
  | ok l =>
    rw [hl] at h
    simp only at h ⊢
    by_cases hc : (progP ⟨l, 0, 0, 0, 0⟩).2.code ≠ 0
    · rw [if_pos hc]
      refine ⟨rfl, .inr ?_⟩
      rcases ok_prog.inv l ⟨l, 0, 0, 0, 0⟩ (.inl ⟨rfl, rfl⟩) with ⟨h2, _⟩ | ⟨_, i, hi⟩
      · exact absurd h2 hc
      · exact ⟨l, i, rfl, hi⟩
    · rw [if_neg hc] at h; exact absurd rfl h
end Go.Proofs.YtgohhnbdicdenaaGreatDoor.Pg

