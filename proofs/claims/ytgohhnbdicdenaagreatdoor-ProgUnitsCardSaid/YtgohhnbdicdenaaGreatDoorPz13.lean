/- The method named of a reader. Conditions: the contract of level at less fuel; a reader lies in memory. -/
import Derived.Test.YtgohhnbdicdenaaGreatDoorPz12
import Derived.Test.YtgohhnbdicdenaaGreatDoorPz10
import Derived.Test.YtgohhnbdicdenaaGreatDoorPz11
import Derived.Test.YtgohhnbdicdenaaGreatDoorPz08
import Derived.Maps.Own
namespace Go.Proofs.YtgohhnbdicdenaaGreatDoor.Ex
open Go.ChangeShapes Go.WideShapes Go.ChangeAt Go.RowKit
open Go.Proofs.YtgohhnbdicdenaaGreatDoor.Tr (str ret_bool ret_int Bytes Nd joinM roomM own_block)
set_option linter.unusedVariables false
set_option linter.unusedSimpArgs false

set_option maxRecDepth 100000 in
set_option maxHeartbeats 4000000 in
theorem named_c2 (f : Nat) (HL : ∀ g, g ≤ f → LevOk g) (s : Bytes) (r : Rd) (p : Pt) (r' : Rd) (h : run (f + 1) (.named s) r = some (p, r')) (hok : OkR r) (hnl : r.next < r.l.length) (w : World) (b : Nat) (mv : Nat → Value) (hr : RdAt w b mv r)
    (h0 : r.adv.isB lp = true) (h1 : r.adv.adv.isB rp = true) : Calls Tryz.prog 166 #[.pointer (some ⟨b, 0, none⟩), .string (str s)] w (PartTo w b mv p r') := by
  have HLH := Lib.hid HL
  have HOK := Lib.hid hok
  have HR := Lib.hid hr
  have hlt := hr.lt
  have hnx := hok.nx
  have H := Lib.hid h
  have hadv := adv_step r hnl
  have HOK1 := Lib.hid (hok.step hadv)
  obtain ⟨lv0, hb0, _⟩ := hr.blk
  have c1 : w.cell? ⟨b, 1, none⟩ = some (.int .i64 (r.next : Int)) := rd_cell hb0 1
  have f1 : w.frozen? ⟨b, 1, none⟩ = false := rd_free hb0 1
  obtain ⟨wa, hwa⟩ : ∃ wa, (w.setCell ⟨b, 1, none⟩ (.int .i64 ((r.next : Int) + 1))).alloc (.cells #[.slice none 0 0, .int .i64 0, .int .i64 0] 167) = wa := ⟨_, rfl⟩
  have HRA : Hid (RdTo w wa b mv r.adv) := Lib.hid (by rw [← hwa]; exact hr.advTo.then_below (below_new _ _))
  have Y2 : Hid (wa.heap[w.heap.size]? = some (.cells #[.slice none 0 0, .int .i64 0, .int .i64 0] 167 (0, 0))) := Lib.hid (by rw [← hwa]; exact new_blk (by simp))
  have HWA := Lib.hid hwa
  clear HL hok hr h hadv hb0 hwa
  go_enter Tryz.func166, Tryz.ntmps166
  go_wp2_with fail
  rw [HWA.out]
  have HRwa := HRA
  have Y2wa := Y2
  have HE : Hid (p = joined 27 0 s [] ∧ r' = r.adv.adv.adv) := Lib.hid (by
    have := H.out
    simp only [run, h0, h1, if_true, Option.some.injEq, Prod.mk.injEq] at this
    exact ⟨this.1.symm, this.2.symm⟩)
  have HOK2 := Lib.hid (HOK1.out.step (adv_step r.adv (isB_lt h0)))
  refine (take_at (s := lp) (B := true) rfl h0 (HRwa.out.rd) HOK1.out.nx).mono ?_
  rintro e wt0 ⟨rfl, hrd⟩
  have HRwt0 : Hid (RdTo w wt0 b mv r.adv.adv) := Lib.hid (HRwa.out.trans hrd)
  have Y2wt0 := Lib.hid (stay hrd.grown Y2wa.out (by omega))
  clear hrd
  go_wp2_with fail
  refine (take_at (s := rp) (B := true) rfl h1 (HRwt0.out.rd) HOK2.out.nx).mono ?_
  rintro e wt1 ⟨rfl, hrd⟩
  have HRwt1 : Hid (RdTo w wt1 b mv r.adv.adv.adv) := Lib.hid (HRwt0.out.trans hrd)
  have Y2wt1 := Lib.hid (stay hrd.grown Y2wt0.out (by omega))
  clear hrd
  go_wp2_with fail
  refine (joined0_at (s := s) rfl).mono ?_
  rintro e w5 ⟨gv, rfl, hpt5, hb5⟩
  have P5 := Lib.hid hpt5
  have HRw5 := Lib.hid (HRwt1.out.then_below hb5)
  have Y2w5 := Lib.hid (stayB hb5 Y2wt1.out)
  obtain ⟨⟨Ag, cg, hgv, v1, v2, -⟩, -⟩ := hpt5
  simp only at hgv v1
  subst hgv
  unfold maxLen at v2
  clear hb5
  have g0 : w5.cell? ⟨w.heap.size, 0, none⟩ = some (.slice none 0 0) := (cell_at Y2w5.out 0).trans rfl
  have g1 : w5.cell? ⟨w.heap.size, 1, none⟩ = some (.int .i64 0) := (cell_at Y2w5.out 1).trans rfl
  have g2 : w5.cell? ⟨w.heap.size, 2, none⟩ = some (.int .i64 0) := (cell_at Y2w5.out 2).trans rfl
  have e0 : w5.frozen? ⟨w.heap.size, 0, none⟩ = false := free_at Y2w5.out 0
  have e1 : w5.frozen? ⟨w.heap.size, 1, none⟩ = false := free_at Y2w5.out 1
  have e2 : w5.frozen? ⟨w.heap.size, 2, none⟩ = false := free_at Y2w5.out 2
  go_wp2
  refine bodyPost_ret (v := .agg #[.slice Ag (joined 27 0 s []).e.length cg, .int .i64 ((joined 27 0 s []).nodes : Int), .int .i64 ((joined 27 0 s []).deep : Int)]) ?_ rfl (PartTo.laid HE.out.1 HE.out.2 HRw5.out hlt (Nat.le_refl _) Y2w5.out P5.out)
  obtain ⟨k0, k1, k2⟩ := trip_cells (.slice Ag (joined 27 0 s []).e.length cg) (.int .i64 ((joined 27 0 s []).nodes : Int)) (.int .i64 ((joined 27 0 s []).deep : Int)) Y2w5.out
  clear g0 g1 g2 e0 e1 e2
  simp [results, Tryz.results166, go_sem, k0, k1, k2]
end Go.Proofs.YtgohhnbdicdenaaGreatDoor.Ex

/- The method named of a reader. Conditions: the contract of level at less fuel; a reader lies in memory. -/
namespace Go.Proofs.YtgohhnbdicdenaaGreatDoor.Ex
open Go.ChangeShapes Go.WideShapes Go.ChangeAt Go.RowKit
open Go.Proofs.YtgohhnbdicdenaaGreatDoor.Tr (str ret_bool ret_int Bytes Nd joinM roomM own_block)
set_option linter.unusedVariables false
set_option linter.unusedSimpArgs false

set_option maxRecDepth 100000 in
set_option maxHeartbeats 4000000 in
theorem named_c3 (f : Nat) (HL : ∀ g, g ≤ f → LevOk g) (s : Bytes) (r : Rd) (p : Pt) (r' : Rd) (h : run (f + 1) (.named s) r = some (p, r')) (hok : OkR r) (hnl : r.next < r.l.length) (w : World) (b : Nat) (mv : Nat → Value) (hr : RdAt w b mv r)
    (h0 : r.adv.isB lp = true) (h1 : r.adv.adv.isB rp = false) : Calls Tryz.prog 166 #[.pointer (some ⟨b, 0, none⟩), .string (str s)] w (PartTo w b mv p r') := by
  have HLH := Lib.hid HL
  have HOK := Lib.hid hok
  have HR := Lib.hid hr
  have hlt := hr.lt
  have hnx := hok.nx
  have H := Lib.hid h
  have hadv := adv_step r hnl
  have HOK1 := Lib.hid (hok.step hadv)
  obtain ⟨lv0, hb0, _⟩ := hr.blk
  have c1 : w.cell? ⟨b, 1, none⟩ = some (.int .i64 (r.next : Int)) := rd_cell hb0 1
  have f1 : w.frozen? ⟨b, 1, none⟩ = false := rd_free hb0 1
  obtain ⟨wa, hwa⟩ : ∃ wa, (w.setCell ⟨b, 1, none⟩ (.int .i64 ((r.next : Int) + 1))).alloc (.cells #[.slice none 0 0, .int .i64 0, .int .i64 0] 167) = wa := ⟨_, rfl⟩
  have HRA : Hid (RdTo w wa b mv r.adv) := Lib.hid (by rw [← hwa]; exact hr.advTo.then_below (below_new _ _))
  have Y2 : Hid (wa.heap[w.heap.size]? = some (.cells #[.slice none 0 0, .int .i64 0, .int .i64 0] 167 (0, 0))) := Lib.hid (by rw [← hwa]; exact new_blk (by simp))
  have HWA := Lib.hid hwa
  clear HL hok hr h hadv hb0 hwa
  go_enter Tryz.func166, Tryz.ntmps166
  go_wp2_with fail
  rw [HWA.out]
  have HRwa := HRA
  have Y2wa := Y2
  obtain ⟨⟨q, r1⟩, k1, k2⟩ : ∃ x : Pt × Rd, run f (.lev 1) r.adv.adv = some x ∧ run f (.args s [x.1]) x.2 = some (p, r') := by
    have := H.out
    simp only [run, h0, h1, if_true, if_false, Bool.false_eq_true] at this
    obtain ⟨x, ha, hb⟩ := bind_some this
    exact ⟨x, ha, hb⟩
  have hadv2 := adv_step r.adv (isB_lt h0)
  have HOK2 := Lib.hid (HOK1.out.step hadv2)
  obtain ⟨st1, ok1, mu1⟩ := run_step _ _ _ _ _ k1 HOK2.out.fine (by simp [Task.pre])
  have HOK3 := Lib.hid (HOK2.out.step st1)
  have hq1 : 2 + q.nodes ≤ r1.mu := by
    have e1 := adv_mu r.adv; have e2 := adv_mu r
    simp only [Task.base] at mu1
    omega
  have HK1 := Lib.hid k1
  have HK2 := Lib.hid k2
  have HO1 := Lib.hid ok1
  obtain ⟨i1, hi', hz0', hz1', hz2'⟩ := info_parts info64
  clear k1 k2 hadv2 st1 ok1 mu1
  refine (take_at (s := lp) (B := true) rfl h0 (HRwa.out.rd) HOK1.out.nx).mono ?_
  rintro e wt0 ⟨rfl, hrd⟩
  have HRwt0 : Hid (RdTo w wt0 b mv r.adv.adv) := Lib.hid (HRwa.out.trans hrd)
  have Y2wt0 := Lib.hid (stay hrd.grown Y2wa.out (by omega))
  clear hrd
  go_wp2_with fail
  refine (take_at (s := rp) (B := false) rfl h1 (HRwt0.out.rd) HOK2.out.nx).mono ?_
  rintro e wt1 ⟨rfl, hrd⟩
  have HRwt1 : Hid (RdTo w wt1 b mv r.adv.adv) := Lib.hid (HRwt0.out.trans hrd)
  have Y2wt1 := Lib.hid (stay hrd.grown Y2wt0.out (by omega))
  clear hrd
  go_wp2_with fail
  refine (lev_at (i := 1) (n := 1) (HLH.out f (Nat.le_refl _)) HK1.out rfl (by omega) (by omega) HOK2.out (HRwt1.out.rd)).mono ?_
  rintro e w3 ⟨evw3, rfl, hpt, hrd⟩
  have Pw3 := Lib.hid hpt
  have HRw3 : Hid (RdTo w w3 b mv r1) := Lib.hid (HRwt1.out.trans hrd)
  have Y2w3 := Lib.hid (stay hrd.grown Y2wt1.out (by omega))
  obtain ⟨⟨Aw3, cw3, hev, u1w3, u2w3, -⟩, -⟩ := hpt
  simp only at hev u1w3
  subst hev
  unfold maxLen at u2w3
  have hltw3 : w.heap.size < w3.heap.size := lt_of_block Y2w3.out
  have HB : Hid (NBase w b mv (w3.alloc (.cells #[.slice Aw3 q.e.length cw3, .int .i64 (q.nodes : Int), .int .i64 (q.deep : Int)] 167)) (.slice (some ⟨w3.heap.size, 0, none⟩) 1 1) [(.slice Aw3 q.e.length cw3, q)] r1) := Lib.hid
    ⟨⟨by simp [ptsOf, ptCells], .inr ⟨w3.heap.size, 1, _, rfl, by omega, heap_alloc_new w3 _, Nat.le_refl _, by unfold maxLen; omega, by simp, by simp [ptsOf, ptCells]⟩⟩,
      by intro x hx; simp at hx; subst hx; exact Pw3.out.below (below_new w3 _),
      by intro x hx; simp at hx; subst hx; exact HO1.out, stayA Y2w3.out, HRw3.out.then_below (below_new w3 _)⟩
  clear hrd
  cases f with
  | zero => have := HK2.out; simp [run] at this
  | succ f =>
  go_wp2
  go_loopg [5] f (fun g s5 wr => ∃ (rr : Rd) (lv : Value) (L : List (Value × Pt)), g ≤ f ∧ lv = s5 ∧ NAt w b mv s p r' g wr rr lv L)
  case atStart =>
    exact ⟨r1, _, [(.slice Aw3 q.e.length cw3, q)], Nat.le_refl _, rfl, ⟨HK2.out, HB.out, by simp; omega, by simp, HOK3.out⟩⟩
  case round =>
    obtain ⟨rr, lv, L, hgf, rfl, hat⟩ := hrel
    have HAT := Lib.hid hat
    have hmu := hat.mu
    have hmur := hat.okr.mu
    have HLEN := Lib.hid hat.len
    have hlen2 : L.length ≤ 100001 := by omega
    have hws := hat.base.rd_.grown.size
    have z4 := lt_of_block hat.base.h4
    clear hat
    rcases Bool.eq_false_or_eq_true (rr.isB [44]) with hc | hc
    · obtain ⟨⟨q3, r3⟩, k1, k2⟩ := args_some HAT.out.run_ hc
      have hadv3 := adv_step rr (isB_lt hc)
      obtain ⟨st3, ok3, mu3⟩ := run_step _ _ _ _ _ k1 (hadv3.fine HAT.out.okr.fine) (by simp [Task.pre])
      have HOKA := Lib.hid (HAT.out.okr.step hadv3)
      have HOKB := Lib.hid ((HAT.out.okr.step hadv3).step st3)
      have HO3 := Lib.hid ok3
      have hq3 : q3.nodes + rr.adv.mu ≤ r3.mu := by simpa [Task.base] using mu3
      have hm3 := HOKB.out.mu
      have hadm := adv_mu rr
      have HKA := Lib.hid k1
      have HKB := Lib.hid k2
      clear hadv3 k1 k2 st3 ok3 mu3
      go_wp2_with fail
      refine (take_at (s := [44]) (B := true) rfl hc (HAT.out.base.rd_.rd) HAT.out.okr.nx).mono ?_
      rintro e w6 ⟨rfl, hrd6⟩
      have HB6 := Lib.hid (HAT.out.base.on hlt hrd6)
      have hs6 := hrd6.grown.size
      clear hrd6
      go_wp2_with fail
      refine (lev_at (i := 1) (n := 1) (HLH.out gk (by omega)) HKA.out rfl (by omega) (by omega) HOKA.out (HB6.out.rd_.rd)).mono ?_
      rintro e w7 ⟨fv, rfl, hpt7, hrd7⟩
      have HPT7 := Lib.hid hpt7
      have HB7 := Lib.hid (HB6.out.on hlt hrd7)
      have hs7 := hrd7.grown.size
      obtain ⟨⟨Af, cf, hfv, u1, u2, -⟩, -⟩ := hpt7
      simp only at hfv u1
      subst hfv
      unfold maxLen at u2
      clear hrd7
      go_wp2_with (at_builtin; refine wpList_append_own _ rfl (.tmp 27) (.tmp 30) 180 rfl (w.heap.size + 1) 167 i1 _ 3 40 Tryz.underlying180 hi' hz0' hz1' hz2' rfl (by decide) lv L.length (ptsOf L) rfl (HB7.out.own.alloc _) ⟨w7.heap.size, 0, none⟩ 1 1 (ptCells (.slice Af q3.e.length cf, q3)) rfl rfl ?newb ?oneb ?lenb ?bytb ?basb ?_)
      case newb => first | exact (fun j u h => h) | exact news_new _ #[.slice Af q3.e.length cf, .int .i64 (q3.nodes : Int), .int .i64 (q3.deep : Int)] _ (ptCells (.slice Af q3.e.length cf, q3)) rfl rfl
      case oneb => simp [ptCells, Value.oneCell']
      case lenb => unfold maxLen; omega
      case bytb => omega
      case basb => simp; omega
      intro lv2 w8 hown8 hg8 _
      have HB8 := Lib.hid (HB7.out.step HPT7.out hg8 hown8 hlt HO3.out)
      clear hown8 hg8
      cases gk with
      | zero => have := HKB.out; simp [run] at this
      | succ gk =>
      go_wp2
      go_roundg gk
      case measure => omega
      case rel => exact ⟨r3, lv2, L ++ [(.slice Af q3.e.length cf, q3)], by omega, rfl, ⟨by simpa using HKB.out, HB8.out, by simp; simp at hmu; omega, by simp, HOKB.out⟩⟩
    · have HE := Lib.hid (args_none HAT.out.run_ hc)
      obtain ⟨Al, cl, rfl, l1, l2, -⟩ := own_slice HAT.out.base.own
      have hnd := HAT.out.mu
      go_wp2_with fail
      refine (take_at (s := [44]) (B := false) rfl hc (HAT.out.base.rd_.rd) HAT.out.okr.nx).mono ?_
      rintro e w6 ⟨rfl, hrd6⟩
      have HB6 := Lib.hid (HAT.out.base.on hlt hrd6)
      clear hrd6
      go_wp2_with fail
      refine (need_at (s := rp) rfl (HB6.out.rd_.rd) HAT.out.okr.nx).mono ?_
      rintro e w7 ⟨rfl, hrd7⟩
      have HB7 := Lib.hid (HB6.out.on hlt hrd7)
      clear hrd7
      go_wp2_with fail
      refine (joinedL_at (s := s) (L := L) rfl HB7.out.own HB7.out.pts HB7.out.oks (by omega)).mono ?_
      rintro e w5 ⟨gv, rfl, hpt5, hb5⟩
      have P5 := Lib.hid hpt5
      have HB5 := Lib.hid (HB7.out.over hb5)
      have HRw5 := Lib.hid HB5.out.rd_
      have Y2w5 := Lib.hid HB5.out.h4
      obtain ⟨⟨Ag, cg, hgv, v1, v2, -⟩, -⟩ := hpt5
      simp only at hgv v1
      subst hgv
      unfold maxLen at v2
      clear hb5
      have g0 : w5.cell? ⟨w.heap.size, 0, none⟩ = some (.slice none 0 0) := (cell_at Y2w5.out 0).trans rfl
      have g1 : w5.cell? ⟨w.heap.size, 1, none⟩ = some (.int .i64 0) := (cell_at Y2w5.out 1).trans rfl
      have g2 : w5.cell? ⟨w.heap.size, 2, none⟩ = some (.int .i64 0) := (cell_at Y2w5.out 2).trans rfl
      have e0 : w5.frozen? ⟨w.heap.size, 0, none⟩ = false := free_at Y2w5.out 0
      have e1 : w5.frozen? ⟨w.heap.size, 1, none⟩ = false := free_at Y2w5.out 1
      have e2 : w5.frozen? ⟨w.heap.size, 2, none⟩ = false := free_at Y2w5.out 2
      go_wp2
      refine bodyPost_ret (v := .agg #[.slice Ag (joined 27 0 s (L.map Prod.snd)).e.length cg, .int .i64 ((joined 27 0 s (L.map Prod.snd)).nodes : Int), .int .i64 ((joined 27 0 s (L.map Prod.snd)).deep : Int)]) ?_ rfl (PartTo.laid HE.out.1 HE.out.2 HRw5.out hlt (Nat.le_refl _) Y2w5.out P5.out)
      obtain ⟨k0, k1, k2⟩ := trip_cells (.slice Ag (joined 27 0 s (L.map Prod.snd)).e.length cg) (.int .i64 ((joined 27 0 s (L.map Prod.snd)).nodes : Int)) (.int .i64 ((joined 27 0 s (L.map Prod.snd)).deep : Int)) Y2w5.out
      clear g0 g1 g2 e0 e1 e2
      simp [results, Tryz.results166, go_sem, k0, k1, k2]
end Go.Proofs.YtgohhnbdicdenaaGreatDoor.Ex

/- The method named of a reader. Conditions: the contract of level at less fuel; a reader lies in memory. -/
namespace Go.Proofs.YtgohhnbdicdenaaGreatDoor.Ex
open Go.ChangeShapes Go.WideShapes Go.ChangeAt Go.RowKit
open Go.Proofs.YtgohhnbdicdenaaGreatDoor.Tr (str ret_bool ret_int Bytes Nd joinM roomM own_block)
set_option linter.unusedVariables false
set_option linter.unusedSimpArgs false

theorem named_any (f : Nat) (HL : ∀ g, g ≤ f → LevOk g) : NamedOk (f + 1) := by
  intro s r p r' h hok hnl w b mv hr
  rcases Bool.eq_false_or_eq_true (r.adv.isB lp) with h0 | h0
  · rcases Bool.eq_false_or_eq_true (r.adv.adv.isB rp) with h1 | h1
    · exact named_c2 f HL s r p r' h hok hnl w b mv hr h0 h1
    · exact named_c3 f HL s r p r' h hok hnl w b mv hr h0 h1
  · exact named_c1 f HL s r p r' h hok hnl w b mv hr h0
end Go.Proofs.YtgohhnbdicdenaaGreatDoor.Ex

/- The method level of a reader, and all of them together. Conditions: a reader lies in memory. -/
namespace Go.Proofs.YtgohhnbdicdenaaGreatDoor.Ex
open Go.ChangeShapes Go.WideShapes Go.ChangeAt Go.RowKit
open Go.Proofs.YtgohhnbdicdenaaGreatDoor.Tr (str ret_bool ret_int Bytes Nd joinM roomM own_block)
set_option linter.unusedVariables false
set_option linter.unusedSimpArgs false

set_option maxRecDepth 100000 in
set_option maxHeartbeats 4000000 in
theorem level_c1 (f : Nat) (n : Nat) (r : Rd) (p : Pt) (r' : Rd) (hok : OkR r) (w : World) (b : Nat) (mv : Nat → Value) (hr : RdAt w b mv r)
    (HO : OpndOk f) (hn : n = 9) (h : run f .opnd r = some (p, r')) : Calls Tryz.prog 146 #[.pointer (some ⟨b, 0, none⟩), .int .i64 (n : Int)] w (PartTo w b mv p r') := by
  have HOK := Lib.hid hok
  have HR := Lib.hid (hr.below (below_new w (.cells #[.slice none 0 0, .int .i64 0, .int .i64 0] 167)))
  have hlt := hr.lt
  have hd : ((n : Int) == 9) = true := by rw [hn]; rfl
  have HOH := Lib.hid HO
  have H := Lib.hid h
  clear HO h hn
  clear hok hr
  go_enter Tryz.func146, Tryz.ntmps146
  go_wp2_with fail
  refine (HOH.out r p r' H.out HOK.out _ b mv HR.out).mono ?_
  rintro e w5 ⟨gv, rfl, hpt5, hrd5⟩
  have P5 := Lib.hid hpt5
  have HRw5 := Lib.hid (RdTo.below (below_new w _) hlt hrd5)
  have Y2w5 := Lib.hid (stay hrd5.grown (heap_alloc_new w (.cells #[.slice none 0 0, .int .i64 0, .int .i64 0] 167)) (by omega))
  obtain ⟨⟨Ag, cg, hgv, v1, v2, -⟩, -⟩ := hpt5
  simp only at hgv v1
  subst hgv
  unfold maxLen at v2
  clear hrd5
  have g0 : w5.cell? ⟨w.heap.size, 0, none⟩ = some (.slice none 0 0) := (cell_at Y2w5.out 0).trans rfl
  have g1 : w5.cell? ⟨w.heap.size, 1, none⟩ = some (.int .i64 0) := (cell_at Y2w5.out 1).trans rfl
  have g2 : w5.cell? ⟨w.heap.size, 2, none⟩ = some (.int .i64 0) := (cell_at Y2w5.out 2).trans rfl
  have e0 : w5.frozen? ⟨w.heap.size, 0, none⟩ = false := free_at Y2w5.out 0
  have e1 : w5.frozen? ⟨w.heap.size, 1, none⟩ = false := free_at Y2w5.out 1
  have e2 : w5.frozen? ⟨w.heap.size, 2, none⟩ = false := free_at Y2w5.out 2
  go_wp2
  refine bodyPost_ret (v := .agg #[.slice Ag p.e.length cg, .int .i64 (p.nodes : Int), .int .i64 (p.deep : Int)]) ?_ rfl (PartTo.laid rfl rfl HRw5.out hlt (Nat.le_refl _) Y2w5.out P5.out)
  obtain ⟨k0, k1, k2⟩ := trip_cells (.slice Ag p.e.length cg) (.int .i64 (p.nodes : Int)) (.int .i64 (p.deep : Int)) Y2w5.out
  clear g0 g1 g2 e0 e1 e2
  simp [results, Tryz.results146, go_sem, k0, k1, k2]
set_option maxRecDepth 100000 in
set_option maxHeartbeats 4000000 in
theorem level_c2 (f : Nat) (n : Nat) (r : Rd) (p : Pt) (r' : Rd) (hok : OkR r) (w : World) (b : Nat) (mv : Nat → Value) (hr : RdAt w b mv r)
    (HL : ∀ g, g ≤ f → LevOk g) (hn1 : 1 ≤ n) (hn : n ≤ 2) (q : Pt) (r1 : Rd) (h1 : run f (.lev (n + 1)) r = some (q, r1)) (h2 : run f (.rl n [q] []) r1 = some (p, r')) : Calls Tryz.prog 146 #[.pointer (some ⟨b, 0, none⟩), .int .i64 (n : Int)] w (PartTo w b mv p r') := by
  have HOK := Lib.hid hok
  have HR := Lib.hid (hr.below (below_new w (.cells #[.slice none 0 0, .int .i64 0, .int .i64 0] 167)))
  have hlt := hr.lt
  have hd : ((n : Int) == 9) = false := by rw [beq_eq_false_iff_ne]; omega
  have hd2 : decide ((n : Int) ≤ 2) = true := by rw [decide_eq_true_iff]; omega
  have HLH := Lib.hid HL
  have H1 := Lib.hid h1
  have H2 := Lib.hid h2
  clear HL h1 h2
  clear hok hr
  go_enter Tryz.func146, Tryz.ntmps146
  go_wp2_with fail
  refine (right_any f HLH.out n (by omega) (by omega) r r1 r' q p H1.out H2.out HOK.out _ b mv HR.out).mono ?_
  rintro e w5 ⟨gv, rfl, hpt5, hrd5⟩
  have P5 := Lib.hid hpt5
  have HRw5 := Lib.hid (RdTo.below (below_new w _) hlt hrd5)
  have Y2w5 := Lib.hid (stay hrd5.grown (heap_alloc_new w (.cells #[.slice none 0 0, .int .i64 0, .int .i64 0] 167)) (by omega))
  obtain ⟨⟨Ag, cg, hgv, v1, v2, -⟩, -⟩ := hpt5
  simp only at hgv v1
  subst hgv
  unfold maxLen at v2
  clear hrd5
  have g0 : w5.cell? ⟨w.heap.size, 0, none⟩ = some (.slice none 0 0) := (cell_at Y2w5.out 0).trans rfl
  have g1 : w5.cell? ⟨w.heap.size, 1, none⟩ = some (.int .i64 0) := (cell_at Y2w5.out 1).trans rfl
  have g2 : w5.cell? ⟨w.heap.size, 2, none⟩ = some (.int .i64 0) := (cell_at Y2w5.out 2).trans rfl
  have e0 : w5.frozen? ⟨w.heap.size, 0, none⟩ = false := free_at Y2w5.out 0
  have e1 : w5.frozen? ⟨w.heap.size, 1, none⟩ = false := free_at Y2w5.out 1
  have e2 : w5.frozen? ⟨w.heap.size, 2, none⟩ = false := free_at Y2w5.out 2
  go_wp2
  refine bodyPost_ret (v := .agg #[.slice Ag p.e.length cg, .int .i64 (p.nodes : Int), .int .i64 (p.deep : Int)]) ?_ rfl (PartTo.laid rfl rfl HRw5.out hlt (Nat.le_refl _) Y2w5.out P5.out)
  obtain ⟨k0, k1, k2⟩ := trip_cells (.slice Ag p.e.length cg) (.int .i64 (p.nodes : Int)) (.int .i64 (p.deep : Int)) Y2w5.out
  clear g0 g1 g2 e0 e1 e2
  simp [results, Tryz.results146, go_sem, k0, k1, k2]
set_option maxRecDepth 100000 in
set_option maxHeartbeats 4000000 in
theorem level_c3 (f : Nat) (n : Nat) (r : Rd) (p : Pt) (r' : Rd) (hok : OkR r) (w : World) (b : Nat) (mv : Nat → Value) (hr : RdAt w b mv r)
    (HL : ∀ g, g ≤ f → LevOk g) (hn3 : 3 ≤ n) (hn : n ≤ 8) (q : Pt) (r1 : Rd) (h1 : run f (.lev (n + 1)) r = some (q, r1)) (h2 : run f (.ll n q) r1 = some (p, r')) : Calls Tryz.prog 146 #[.pointer (some ⟨b, 0, none⟩), .int .i64 (n : Int)] w (PartTo w b mv p r') := by
  have HOK := Lib.hid hok
  have HR := Lib.hid (hr.below (below_new w (.cells #[.slice none 0 0, .int .i64 0, .int .i64 0] 167)))
  have hlt := hr.lt
  have hd : ((n : Int) == 9) = false := by rw [beq_eq_false_iff_ne]; omega
  have hd2 : decide ((n : Int) ≤ 2) = false := by rw [decide_eq_false_iff_not]; omega
  have HLH := Lib.hid HL
  have H1 := Lib.hid h1
  have H2 := Lib.hid h2
  clear HL h1 h2
  clear hok hr
  go_enter Tryz.func146, Tryz.ntmps146
  go_wp2_with fail
  refine (left_any f HLH.out n (by omega) (by omega) r r1 r' q p H1.out H2.out HOK.out _ b mv HR.out).mono ?_
  rintro e w5 ⟨gv, rfl, hpt5, hrd5⟩
  have P5 := Lib.hid hpt5
  have HRw5 := Lib.hid (RdTo.below (below_new w _) hlt hrd5)
  have Y2w5 := Lib.hid (stay hrd5.grown (heap_alloc_new w (.cells #[.slice none 0 0, .int .i64 0, .int .i64 0] 167)) (by omega))
  obtain ⟨⟨Ag, cg, hgv, v1, v2, -⟩, -⟩ := hpt5
  simp only at hgv v1
  subst hgv
  unfold maxLen at v2
  clear hrd5
  have g0 : w5.cell? ⟨w.heap.size, 0, none⟩ = some (.slice none 0 0) := (cell_at Y2w5.out 0).trans rfl
  have g1 : w5.cell? ⟨w.heap.size, 1, none⟩ = some (.int .i64 0) := (cell_at Y2w5.out 1).trans rfl
  have g2 : w5.cell? ⟨w.heap.size, 2, none⟩ = some (.int .i64 0) := (cell_at Y2w5.out 2).trans rfl
  have e0 : w5.frozen? ⟨w.heap.size, 0, none⟩ = false := free_at Y2w5.out 0
  have e1 : w5.frozen? ⟨w.heap.size, 1, none⟩ = false := free_at Y2w5.out 1
  have e2 : w5.frozen? ⟨w.heap.size, 2, none⟩ = false := free_at Y2w5.out 2
  go_wp2
  refine bodyPost_ret (v := .agg #[.slice Ag p.e.length cg, .int .i64 (p.nodes : Int), .int .i64 (p.deep : Int)]) ?_ rfl (PartTo.laid rfl rfl HRw5.out hlt (Nat.le_refl _) Y2w5.out P5.out)
  obtain ⟨k0, k1, k2⟩ := trip_cells (.slice Ag p.e.length cg) (.int .i64 (p.nodes : Int)) (.int .i64 (p.deep : Int)) Y2w5.out
  clear g0 g1 g2 e0 e1 e2
  simp [results, Tryz.results146, go_sem, k0, k1, k2]
theorem level_any (f : Nat) (HL : ∀ g, g ≤ f → LevOk g) (HO : OpndOk f) : LevOk (f + 1) := by
  intro n r p r' h hn1 hn9 hok w b mv hr
  by_cases h9 : n = 9
  · exact level_c1 f n r p r' hok w b mv hr HO h9 (by simp only [run] at h; rwa [if_pos h9] at h)
  · simp only [run] at h
    rw [if_neg h9] at h
    obtain ⟨⟨q, r1⟩, h1, h2⟩ := bind_some h
    by_cases hn2 : n ≤ 2
    · rw [if_pos hn2] at h2
      exact level_c2 f n r p r' hok w b mv hr HL hn1 hn2 q r1 h1 h2
    · rw [if_neg hn2] at h2
      exact level_c3 f n r p r' hok w b mv hr HL (by omega) (by omega) q r1 h1 h2
structure AllOk (f : Nat) : Prop where
  lev : LevOk f
  opnd : OpndOk f
  single : SingleOk f
  named : NamedOk f
theorem all_ok (f : Nat) : AllOk f := by
  induction f using Nat.strongRecOn with
  | _ f ih =>
    cases f with
    | zero =>
      exact ⟨fun n r p r' h => by simp [run] at h, fun r p r' h => by simp [run] at h, fun r p r' h => by simp [run] at h, fun s r p r' h => by simp [run] at h⟩
    | succ f =>
      have HL : ∀ g, g ≤ f → LevOk g := fun g hg => (ih g (by omega)).lev
      have I := ih f (by omega)
      exact ⟨level_any f HL I.opnd, opnd_any f I.opnd I.single, single_any f HL I.named, named_any f HL⟩
theorem lev_ok (f : Nat) : LevOk f := (all_ok f).lev
end Go.Proofs.YtgohhnbdicdenaaGreatDoor.Ex

/- Contract of the function signs: ten maps. Conditions: none. -/
namespace Go.Proofs.YtgohhnbdicdenaaGreatDoor.Ex
open Go.ChangeShapes Go.WideShapes Go.ChangeAt Go.RowKit Go.ChangeMaps
open Go.Proofs.YtgohhnbdicdenaaGreatDoor.Tr (str ret_bool ret_int Bytes Nd)
set_option linter.unusedVariables false
set_option linter.unusedSimpArgs false

def entOf (x : (Bytes × Int × Bool) × Nat) : MapEntry := { key := .string (str x.1.1), val := .agg #[.int .i64 x.1.2.1, .bool x.1.2.2], born := x.2 }
def entsOf (l : List (Bytes × Int × Bool)) : Array MapEntry := (l.zipIdx.map entOf).toArray
/-- The maps made so far. -/
structure Made (w : World) (L : List (List (Bytes × Int × Bool))) (W : World) : Prop where
  os : W.os = w.os
  tape : W.tape = w.tape
  output : W.output = w.output
  size : W.heap.size = w.heap.size + (1 + L.length)
  below : ∀ g, g < w.heap.size → W.heap[g]? = w.heap[g]?
  res : W.heap[w.heap.size]? = some (.cells #[.map none, .map none, .map none, .map none, .map none, .map none, .map none, .map none, .map none, .map none] 162 (0, 0))
  maps : ∀ i l, L[i]? = some l → W.heap[w.heap.size + 1 + i]? = some (.map (entsOf l) l.length)
theorem Made.start (w : World) : Made w [] (w.alloc (.cells #[.map none, .map none, .map none, .map none, .map none, .map none, .map none, .map none, .map none, .map none] 162)) :=
  ⟨rfl, rfl, rfl, by simp, fun g hg => Below.heap_alloc _ _ _ hg, heap_alloc_new _ _, fun i l h => by simp at h⟩
theorem Made.new {w W : World} {L : List (List (Bytes × Int × Bool))} (h : Made w L W) : Made w (L ++ [[]]) (W.alloc (.map #[] 0)) := by
  have hs := h.size
  refine ⟨h.os, h.tape, h.output, by simp; omega, fun g hg => (Below.heap_alloc _ _ _ (by omega)).trans (h.below g hg), (Below.heap_alloc _ _ _ (by omega)).trans h.res, fun i l hi => ?_⟩
  rw [List.getElem?_append] at hi
  split at hi
  · rename_i hl
    rw [Below.heap_alloc _ _ _ (by omega)]; exact h.maps i l hi
  · rename_i hl
    have hi0 : i - L.length = 0 := by
      cases hk : i - L.length with
      | zero => rfl
      | succ k => rw [hk] at hi; simp at hi
    rw [hi0] at hi
    simp at hi
    subst hi
    have : w.heap.size + 1 + i = W.heap.size := by omega
    rw [this]
    exact heap_alloc_new _ _
theorem ents_snoc (l : List (Bytes × Int × Bool)) (x : Bytes × Int × Bool) : entsOf (l ++ [x]) = (entsOf l).push (entOf (x, l.length)) := by
  simp [entsOf, List.zipIdx_append]
theorem Made.put {w W : World} {L : List (List (Bytes × Int × Bool))} (h : Made w L W) {i : Nat} {l : List (Bytes × Int × Bool)} (hi : L[i]? = some l) (x : Bytes × Int × Bool) :
    Made w (L.set i (l ++ [x])) (setBlock W (w.heap.size + 1 + i) (.map ((entsOf l).push (entOf (x, l.length))) (l.length + 1))) := by
  have hb := h.maps i l hi
  have hil : i < L.length := (List.getElem?_eq_some_iff.1 hi).1
  have hs := h.size
  refine ⟨h.os, h.tape, h.output, by simp [setBlock]; omega, fun g hg => (heap_setBlock_other hb _ (by omega)).trans (h.below g hg), (heap_setBlock_other hb _ (by omega)).trans h.res, fun j m hj => ?_⟩
  rw [List.getElem?_set] at hj
  split at hj
  · rename_i e
    subst e
    simp [hil] at hj
    subst hj
    rw [heap_setBlock_same hb, ents_snoc]
    simp
  · rename_i e
    rw [heap_setBlock_other hb _ (by omega)]; exact h.maps j m hj
theorem ins_run {W : World} {b : Nat} {l : List (Bytes × Int × Bool)} (hb : W.heap[b]? = some (.map (entsOf l) l.length)) (x : Bytes × Int × Bool) (hf : Instr.findNow .string (.string (str x.1)) (entsOf l).toList 0 = some none) :
    (Instr.mapUpdate 161 (.map (some b)) (.string (str x.1)) (.agg #[.int .i64 x.2.1, .bool x.2.2])).run Tryz.prog W = .ok () (setBlock W b (.map ((entsOf l).push (entOf (x, l.length))) (l.length + 1))) := by
  have := find_key hf W
  simp [Instr.mapUpdate, run_underlying Tryz.underlying161, MapKept.run_getObj_map hb, check_key, this, MapKept.run_setObj_map _ hb, Result.andThen, setBlock, entOf]
theorem ins_ex {w W : World} {L : List (List (Bytes × Int × Bool))} (H : Made w L W) (i : Nat) (l : List (Bytes × Int × Bool)) (hi : L[i]? = some l) (x : Bytes × Int × Bool) (hf : Instr.findNow .string (.string (str x.1)) (entsOf l).toList 0 = some none) {b : Nat} (hbb : b = w.heap.size + 1 + i) {S : ByteArray} (hS : S = str x.1) :
    ∃ W', (Instr.mapUpdate 161 (.map (some b)) (.string S) (.agg #[.int .i64 x.2.1, .bool x.2.2])).run Tryz.prog W = .ok () W' ∧ Made w (L.set i (l ++ [x])) W' := by
  subst hbb; subst hS
  exact ⟨_, ins_run (H.maps i l hi) x hf, H.put hi x⟩
theorem zip_fst {α β : Type} (f : α → β) : ∀ (l : List α) (k : Nat), (l.zipIdx k).map (fun x => f x.1) = l.map f
  | [], _ => rfl
  | a :: r, k => by simp [zip_fst f r (k + 1)]
theorem MapAt.made {w W W' : World} {L : List (List (Bytes × Int × Bool))} (h : Made w L W) {n : Nat} (hn : L[n]? = some (signsM (n + 1))) {b : Nat} (hb : W.heap.size ≤ b) (hs : W.heap.size ≤ W'.heap.size) (hk : ∀ g, g < W.heap.size → w.heap.size < g → W'.heap[g]? = W.heap[g]?) : MapAt W' b (n + 1) (.map (some (w.heap.size + 1 + n))) := by
  have hil : n < L.length := (List.getElem?_eq_some_iff.1 hn).1
  have hz := h.size
  refine ⟨_, _, _, rfl, by omega, by omega, (hk _ (by omega) (by omega)).trans (h.maps n _ hn), ?_⟩
  simp [entsOf, entOf, List.map_map, Function.comp_def]
  exact zip_fst (fun x : Bytes × Int × Bool => (Value.string (str x.1), Value.agg #[.int .i64 x.2.1, .bool x.2.2])) _ 0
def mvOf (w : World) (n : Nat) : Value := if n = 0 then .map none else .map (some (w.heap.size + n))
end Go.Proofs.YtgohhnbdicdenaaGreatDoor.Ex

/- Contract of the function signs: ten maps. Conditions: none. -/
namespace Go.Proofs.YtgohhnbdicdenaaGreatDoor.Ex
open Go.ChangeShapes Go.WideShapes Go.ChangeAt Go.RowKit Go.ChangeMaps
open Go.Proofs.YtgohhnbdicdenaaGreatDoor.Tr (str ret_bool ret_int Bytes Nd)
set_option linter.unusedVariables false
set_option linter.unusedSimpArgs false

structure Chg (B : Nat) (W W' : World) : Prop where
  size : W'.heap.size = W.heap.size
  same : ∀ g, g ≠ B → W'.heap[g]? = W.heap[g]?
  below : Below B W W'
theorem Chg.set {B : Nat} {W W' : World} (h : Chg B W W') (k : Nat) (v : Value) : Chg B W (W'.setCell ⟨B, k, none⟩ v) :=
  ⟨by simp [World.setCell, h.size], fun g hg => (Below.heap_setCell _ _ _ _ (by simpa using hg)).trans (h.same g hg), h.below.setCell (Nat.le_refl _) _⟩
set_option maxHeartbeats 1000000 in
theorem ten_cells {W : World} {B T : Nat} {u0 u1 u2 u3 u4 u5 u6 u7 u8 u9 : Value} (h : W.heap[B]? = some (.cells #[u0, u1, u2, u3, u4, u5, u6, u7, u8, u9] T (0, 0))) (v0 v1 v2 v3 v4 v5 v6 v7 v8 v9 : Value) :
    ((((((((((W.setCell ⟨B, 0, none⟩ v0).setCell ⟨B, 1, none⟩ v1).setCell ⟨B, 2, none⟩ v2).setCell ⟨B, 3, none⟩ v3).setCell ⟨B, 4, none⟩ v4).setCell ⟨B, 5, none⟩ v5).setCell ⟨B, 6, none⟩ v6).setCell ⟨B, 7, none⟩ v7).setCell ⟨B, 8, none⟩ v8).setCell ⟨B, 9, none⟩ v9).heap[B]? = some (.cells #[v0, v1, v2, v3, v4, v5, v6, v7, v8, v9] T (0, 0)) := by
  have h0 : (W.setCell ⟨B, 0, none⟩ v0).heap[B]? = some (.cells #[v0, u1, u2, u3, u4, u5, u6, u7, u8, u9] T (0, 0)) := setObj_heap (v := v0) h (k := 0) (by simp)
  have h1 : ((W.setCell ⟨B, 0, none⟩ v0).setCell ⟨B, 1, none⟩ v1).heap[B]? = some (.cells #[v0, v1, u2, u3, u4, u5, u6, u7, u8, u9] T (0, 0)) := setObj_heap (v := v1) h0 (k := 1) (by simp)
  have h2 : (((W.setCell ⟨B, 0, none⟩ v0).setCell ⟨B, 1, none⟩ v1).setCell ⟨B, 2, none⟩ v2).heap[B]? = some (.cells #[v0, v1, v2, u3, u4, u5, u6, u7, u8, u9] T (0, 0)) := setObj_heap (v := v2) h1 (k := 2) (by simp)
  have h3 : ((((W.setCell ⟨B, 0, none⟩ v0).setCell ⟨B, 1, none⟩ v1).setCell ⟨B, 2, none⟩ v2).setCell ⟨B, 3, none⟩ v3).heap[B]? = some (.cells #[v0, v1, v2, v3, u4, u5, u6, u7, u8, u9] T (0, 0)) := setObj_heap (v := v3) h2 (k := 3) (by simp)
  have h4 : (((((W.setCell ⟨B, 0, none⟩ v0).setCell ⟨B, 1, none⟩ v1).setCell ⟨B, 2, none⟩ v2).setCell ⟨B, 3, none⟩ v3).setCell ⟨B, 4, none⟩ v4).heap[B]? = some (.cells #[v0, v1, v2, v3, v4, u5, u6, u7, u8, u9] T (0, 0)) := setObj_heap (v := v4) h3 (k := 4) (by simp)
  have h5 : ((((((W.setCell ⟨B, 0, none⟩ v0).setCell ⟨B, 1, none⟩ v1).setCell ⟨B, 2, none⟩ v2).setCell ⟨B, 3, none⟩ v3).setCell ⟨B, 4, none⟩ v4).setCell ⟨B, 5, none⟩ v5).heap[B]? = some (.cells #[v0, v1, v2, v3, v4, v5, u6, u7, u8, u9] T (0, 0)) := setObj_heap (v := v5) h4 (k := 5) (by simp)
  have h6 : (((((((W.setCell ⟨B, 0, none⟩ v0).setCell ⟨B, 1, none⟩ v1).setCell ⟨B, 2, none⟩ v2).setCell ⟨B, 3, none⟩ v3).setCell ⟨B, 4, none⟩ v4).setCell ⟨B, 5, none⟩ v5).setCell ⟨B, 6, none⟩ v6).heap[B]? = some (.cells #[v0, v1, v2, v3, v4, v5, v6, u7, u8, u9] T (0, 0)) := setObj_heap (v := v6) h5 (k := 6) (by simp)
  have h7 : ((((((((W.setCell ⟨B, 0, none⟩ v0).setCell ⟨B, 1, none⟩ v1).setCell ⟨B, 2, none⟩ v2).setCell ⟨B, 3, none⟩ v3).setCell ⟨B, 4, none⟩ v4).setCell ⟨B, 5, none⟩ v5).setCell ⟨B, 6, none⟩ v6).setCell ⟨B, 7, none⟩ v7).heap[B]? = some (.cells #[v0, v1, v2, v3, v4, v5, v6, v7, u8, u9] T (0, 0)) := setObj_heap (v := v7) h6 (k := 7) (by simp)
  have h8 : (((((((((W.setCell ⟨B, 0, none⟩ v0).setCell ⟨B, 1, none⟩ v1).setCell ⟨B, 2, none⟩ v2).setCell ⟨B, 3, none⟩ v3).setCell ⟨B, 4, none⟩ v4).setCell ⟨B, 5, none⟩ v5).setCell ⟨B, 6, none⟩ v6).setCell ⟨B, 7, none⟩ v7).setCell ⟨B, 8, none⟩ v8).heap[B]? = some (.cells #[v0, v1, v2, v3, v4, v5, v6, v7, v8, u9] T (0, 0)) := setObj_heap (v := v8) h7 (k := 8) (by simp)
  have h9 : ((((((((((W.setCell ⟨B, 0, none⟩ v0).setCell ⟨B, 1, none⟩ v1).setCell ⟨B, 2, none⟩ v2).setCell ⟨B, 3, none⟩ v3).setCell ⟨B, 4, none⟩ v4).setCell ⟨B, 5, none⟩ v5).setCell ⟨B, 6, none⟩ v6).setCell ⟨B, 7, none⟩ v7).setCell ⟨B, 8, none⟩ v8).setCell ⟨B, 9, none⟩ v9).heap[B]? = some (.cells #[v0, v1, v2, v3, v4, v5, v6, v7, v8, v9] T (0, 0)) := setObj_heap (v := v9) h8 (k := 9) (by simp)
  exact h9
theorem ten_chg (W : World) (B : Nat) (v0 v1 v2 v3 v4 v5 v6 v7 v8 v9 : Value) : Chg B W ((((((((((W.setCell ⟨B, 0, none⟩ v0).setCell ⟨B, 1, none⟩ v1).setCell ⟨B, 2, none⟩ v2).setCell ⟨B, 3, none⟩ v3).setCell ⟨B, 4, none⟩ v4).setCell ⟨B, 5, none⟩ v5).setCell ⟨B, 6, none⟩ v6).setCell ⟨B, 7, none⟩ v7).setCell ⟨B, 8, none⟩ v8).setCell ⟨B, 9, none⟩ v9) := by
  have h : Chg B W W := ⟨rfl, fun _ _ => rfl, Below.refl _ _⟩
  exact ((((((((((h.set 0 v0).set 1 v1).set 2 v2).set 3 v3).set 4 v4).set 5 v5).set 6 v6).set 7 v7).set 8 v8).set 9 v9)
end Go.Proofs.YtgohhnbdicdenaaGreatDoor.Ex

/- Contract of the function signs: ten maps. Conditions: none. -/
namespace Go.Proofs.YtgohhnbdicdenaaGreatDoor.Ex
open Go.ChangeShapes Go.WideShapes Go.ChangeAt Go.RowKit Go.ChangeMaps
open Go.Proofs.YtgohhnbdicdenaaGreatDoor.Tr (str ret_bool ret_int Bytes Nd)
set_option linter.unusedVariables false
set_option linter.unusedSimpArgs false

/-- Behind the ten stores. -/
theorem signs_end {w W0 : World} {L : List (List (Bytes × Int × Bool))} (M : Made w L W0) (hl : L.length = 9) (hL : ∀ n, n < 9 → L[n]? = some (signsM (n + 1))) :
    ∃ W, ((((((((((W0.setCell ⟨w.heap.size, 0, none⟩ (.map none)).setCell ⟨w.heap.size, 1, none⟩ (.map (some (w.heap.size + 1)))).setCell ⟨w.heap.size, 2, none⟩ (.map (some (w.heap.size + 2)))).setCell ⟨w.heap.size, 3, none⟩ (.map (some (w.heap.size + 3)))).setCell ⟨w.heap.size, 4, none⟩ (.map (some (w.heap.size + 4)))).setCell ⟨w.heap.size, 5, none⟩ (.map (some (w.heap.size + 5)))).setCell ⟨w.heap.size, 6, none⟩ (.map (some (w.heap.size + 6)))).setCell ⟨w.heap.size, 7, none⟩ (.map (some (w.heap.size + 7)))).setCell ⟨w.heap.size, 8, none⟩ (.map (some (w.heap.size + 8)))).setCell ⟨w.heap.size, 9, none⟩ (.map (some (w.heap.size + 9)))) = W ∧ (∀ k, W.cell? ⟨w.heap.size, k, none⟩ = (#[.map none, .map (some (w.heap.size + 1)), .map (some (w.heap.size + 2)), .map (some (w.heap.size + 3)), .map (some (w.heap.size + 4)), .map (some (w.heap.size + 5)), .map (some (w.heap.size + 6)), .map (some (w.heap.size + 7)), .map (some (w.heap.size + 8)), .map (some (w.heap.size + 9))] : Array Value)[k]?) ∧ Below w.heap.size w W ∧ ∀ n, 1 ≤ n → n ≤ 9 → MapAt W W.heap.size n (mvOf w n) := by
  have t1 : ((((((((((W0.setCell ⟨w.heap.size, 0, none⟩ (.map none)).setCell ⟨w.heap.size, 1, none⟩ (.map (some (w.heap.size + 1)))).setCell ⟨w.heap.size, 2, none⟩ (.map (some (w.heap.size + 2)))).setCell ⟨w.heap.size, 3, none⟩ (.map (some (w.heap.size + 3)))).setCell ⟨w.heap.size, 4, none⟩ (.map (some (w.heap.size + 4)))).setCell ⟨w.heap.size, 5, none⟩ (.map (some (w.heap.size + 5)))).setCell ⟨w.heap.size, 6, none⟩ (.map (some (w.heap.size + 6)))).setCell ⟨w.heap.size, 7, none⟩ (.map (some (w.heap.size + 7)))).setCell ⟨w.heap.size, 8, none⟩ (.map (some (w.heap.size + 8)))).setCell ⟨w.heap.size, 9, none⟩ (.map (some (w.heap.size + 9)))).heap[w.heap.size]? = some (.cells #[.map none, .map (some (w.heap.size + 1)), .map (some (w.heap.size + 2)), .map (some (w.heap.size + 3)), .map (some (w.heap.size + 4)), .map (some (w.heap.size + 5)), .map (some (w.heap.size + 6)), .map (some (w.heap.size + 7)), .map (some (w.heap.size + 8)), .map (some (w.heap.size + 9))] 162 (0, 0)) := ten_cells M.res _ _ _ _ _ _ _ _ _ _
  have tc : Chg w.heap.size W0 ((((((((((W0.setCell ⟨w.heap.size, 0, none⟩ (.map none)).setCell ⟨w.heap.size, 1, none⟩ (.map (some (w.heap.size + 1)))).setCell ⟨w.heap.size, 2, none⟩ (.map (some (w.heap.size + 2)))).setCell ⟨w.heap.size, 3, none⟩ (.map (some (w.heap.size + 3)))).setCell ⟨w.heap.size, 4, none⟩ (.map (some (w.heap.size + 4)))).setCell ⟨w.heap.size, 5, none⟩ (.map (some (w.heap.size + 5)))).setCell ⟨w.heap.size, 6, none⟩ (.map (some (w.heap.size + 6)))).setCell ⟨w.heap.size, 7, none⟩ (.map (some (w.heap.size + 7)))).setCell ⟨w.heap.size, 8, none⟩ (.map (some (w.heap.size + 8)))).setCell ⟨w.heap.size, 9, none⟩ (.map (some (w.heap.size + 9)))) := ten_chg _ _ _ _ _ _ _ _ _ _ _ _
  obtain ⟨W, hW⟩ : ∃ W, ((((((((((W0.setCell ⟨w.heap.size, 0, none⟩ (.map none)).setCell ⟨w.heap.size, 1, none⟩ (.map (some (w.heap.size + 1)))).setCell ⟨w.heap.size, 2, none⟩ (.map (some (w.heap.size + 2)))).setCell ⟨w.heap.size, 3, none⟩ (.map (some (w.heap.size + 3)))).setCell ⟨w.heap.size, 4, none⟩ (.map (some (w.heap.size + 4)))).setCell ⟨w.heap.size, 5, none⟩ (.map (some (w.heap.size + 5)))).setCell ⟨w.heap.size, 6, none⟩ (.map (some (w.heap.size + 6)))).setCell ⟨w.heap.size, 7, none⟩ (.map (some (w.heap.size + 7)))).setCell ⟨w.heap.size, 8, none⟩ (.map (some (w.heap.size + 8)))).setCell ⟨w.heap.size, 9, none⟩ (.map (some (w.heap.size + 9)))) = W := ⟨_, rfl⟩
  rw [hW] at t1 tc
  refine ⟨W, hW, fun k => cell_at t1 k, ?_, ?_⟩
  · exact Below.trans ⟨M.os, M.tape, M.output, by have := M.size; omega, fun g hg => M.below g hg⟩ tc.below
  · intro n h1 h9
    obtain ⟨m, rfl⟩ : ∃ m, n = m + 1 := ⟨n - 1, by omega⟩
    have hm : mvOf w (m + 1) = .map (some (w.heap.size + 1 + m)) := by simp [mvOf]; omega
    rw [hm]
    exact MapAt.made M (hL m (by omega)) (by rw [tc.size]; exact Nat.le_refl _) (by rw [tc.size]; exact Nat.le_refl _) (fun g hg hgw => tc.same g (by omega))
theorem bodyPost_at {P : Program} {fn : Func} {R : Ending → World → Prop} {a : Act} {w w' : World} {v : Value} (e : w = w') (hr : (results fn a.tmps).run P w' = .ok v w') (hd : a.defers = []) (hR : R (.returned v) w') : bodyPost P fn R .ret a w := by
  subst e; exact ⟨hd, v, hr, hR⟩
end Go.Proofs.YtgohhnbdicdenaaGreatDoor.Ex

/- Contract of the function signs: ten maps. Conditions: none. -/
namespace Go.Proofs.YtgohhnbdicdenaaGreatDoor.Ex
open Go.ChangeShapes Go.WideShapes Go.ChangeAt Go.RowKit Go.ChangeMaps
open Go.Proofs.YtgohhnbdicdenaaGreatDoor.Tr (str ret_bool ret_int Bytes Nd)
set_option linter.unusedVariables false
set_option linter.unusedSimpArgs false

set_option maxRecDepth 100000 in
set_option maxHeartbeats 4000000 in
theorem signs_any (w : World) : Calls Tryz.prog 145 #[] w (fun e w' => e = .returned (.agg #[mvOf w 0, mvOf w 1, mvOf w 2, mvOf w 3, mvOf w 4, mvOf w 5, mvOf w 6, mvOf w 7, mvOf w 8, mvOf w 9]) ∧ Below w.heap.size w w' ∧ ∀ n, 1 ≤ n → n ≤ 9 → MapAt w' w'.heap.size n (mvOf w n)) := by
  have hmm := @run_makeMap Tryz.prog
  have M0 := Lib.hid (Made.start w)
  obtain ⟨w1, r1, h1⟩ : ∃ W', (Instr.mapUpdate 161 (.map (some (w.heap.size + 1))) (.string ⟨#[45, 62]⟩) (.agg #[.int .i64 19, .bool false])).run Tryz.prog ((w.alloc (.cells #[.map none, .map none, .map none, .map none, .map none, .map none, .map none, .map none, .map none, .map none] 162)).alloc (.map #[] 0)) = .ok () W' ∧ Made w _ W' := ins_ex M0.out.new 0 [] rfl ([45, 62], 19, false) rfl (by omega) rfl
  have M1 := Lib.hid h1
  have s1 : w1.heap.size = w.heap.size + 2 := h1.size
  clear h1
  obtain ⟨w2, r2, h2⟩ : ∃ W', (Instr.mapUpdate 161 (.map (some (w.heap.size + 2))) (.string ⟨#[61, 62]⟩) (.agg #[.int .i64 9, .bool false])).run Tryz.prog (w1.alloc (.map #[] 0)) = .ok () W' ∧ Made w _ W' := ins_ex M1.out.new 1 [] rfl ([61, 62], 9, false) rfl (by omega) rfl
  have M2 := Lib.hid h2
  have s2 : w2.heap.size = w.heap.size + 3 := h2.size
  clear h2
  obtain ⟨w3, r3, h3⟩ : ∃ W', (Instr.mapUpdate 161 (.map (some (w.heap.size + 3))) (.string ⟨#[115, 105, 110, 99, 101]⟩) (.agg #[.int .i64 20, .bool false])).run Tryz.prog (w2.alloc (.map #[] 0)) = .ok () W' ∧ Made w _ W' := ins_ex M2.out.new 2 [] rfl ([115, 105, 110, 99, 101], 20, false) rfl (by omega) rfl
  have M3 := Lib.hid h3
  have s3 : w3.heap.size = w.heap.size + 4 := h3.size
  clear h3
  obtain ⟨w4, r4, h4⟩ : ∃ W', (Instr.mapUpdate 161 (.map (some (w.heap.size + 4))) (.string ⟨#[111, 114]⟩) (.agg #[.int .i64 7, .bool false])).run Tryz.prog (w3.alloc (.map #[] 0)) = .ok () W' ∧ Made w _ W' := ins_ex M3.out.new 3 [] rfl ([111, 114], 7, false) rfl (by omega) rfl
  have M4 := Lib.hid h4
  have s4 : w4.heap.size = w.heap.size + 5 := h4.size
  clear h4
  obtain ⟨w5, r5, h5⟩ : ∃ W', (Instr.mapUpdate 161 (.map (some (w.heap.size + 4))) (.string ⟨#[120, 111, 114]⟩) (.agg #[.int .i64 8, .bool false])).run Tryz.prog w4 = .ok () W' ∧ Made w _ W' := ins_ex M4.out 3 [([111, 114], 7, false)] rfl ([120, 111, 114], 8, false) rfl (by omega) rfl
  have M5 := Lib.hid h5
  have s5 : w5.heap.size = w.heap.size + 5 := h5.size
  clear h5
  obtain ⟨w6, r6, h6⟩ : ∃ W', (Instr.mapUpdate 161 (.map (some (w.heap.size + 5))) (.string ⟨#[97, 110, 100]⟩) (.agg #[.int .i64 6, .bool false])).run Tryz.prog (w5.alloc (.map #[] 0)) = .ok () W' ∧ Made w _ W' := ins_ex M5.out.new 4 [] rfl ([97, 110, 100], 6, false) rfl (by omega) rfl
  have M6 := Lib.hid h6
  have s6 : w6.heap.size = w.heap.size + 6 := h6.size
  clear h6
  obtain ⟨w7, r7, h7⟩ : ∃ W', (Instr.mapUpdate 161 (.map (some (w.heap.size + 6))) (.string ⟨#[61]⟩) (.agg #[.int .i64 10, .bool false])).run Tryz.prog (w6.alloc (.map #[] 0)) = .ok () W' ∧ Made w _ W' := ins_ex M6.out.new 5 [] rfl ([61], 10, false) rfl (by omega) rfl
  have M7 := Lib.hid h7
  have s7 : w7.heap.size = w.heap.size + 7 := h7.size
  clear h7
  obtain ⟨w8, r8, h8⟩ : ∃ W', (Instr.mapUpdate 161 (.map (some (w.heap.size + 6))) (.string ⟨#[60, 62]⟩) (.agg #[.int .i64 11, .bool false])).run Tryz.prog w7 = .ok () W' ∧ Made w _ W' := ins_ex M7.out 5 [([61], 10, false)] rfl ([60, 62], 11, false) rfl (by omega) rfl
  have M8 := Lib.hid h8
  have s8 : w8.heap.size = w.heap.size + 7 := h8.size
  clear h8
  obtain ⟨w9, r9, h9⟩ : ∃ W', (Instr.mapUpdate 161 (.map (some (w.heap.size + 6))) (.string ⟨#[60]⟩) (.agg #[.int .i64 12, .bool false])).run Tryz.prog w8 = .ok () W' ∧ Made w _ W' := ins_ex M8.out 5 [([61], 10, false), ([60, 62], 11, false)] rfl ([60], 12, false) rfl (by omega) rfl
  have M9 := Lib.hid h9
  have s9 : w9.heap.size = w.heap.size + 7 := h9.size
  clear h9
  obtain ⟨w10, r10, h10⟩ : ∃ W', (Instr.mapUpdate 161 (.map (some (w.heap.size + 6))) (.string ⟨#[60, 61]⟩) (.agg #[.int .i64 13, .bool false])).run Tryz.prog w9 = .ok () W' ∧ Made w _ W' := ins_ex M9.out 5 [([61], 10, false), ([60, 62], 11, false), ([60], 12, false)] rfl ([60, 61], 13, false) rfl (by omega) rfl
  have M10 := Lib.hid h10
  have s10 : w10.heap.size = w.heap.size + 7 := h10.size
  clear h10
  obtain ⟨w11, r11, h11⟩ : ∃ W', (Instr.mapUpdate 161 (.map (some (w.heap.size + 6))) (.string ⟨#[62]⟩) (.agg #[.int .i64 12, .bool true])).run Tryz.prog w10 = .ok () W' ∧ Made w _ W' := ins_ex M10.out 5 [([61], 10, false), ([60, 62], 11, false), ([60], 12, false), ([60, 61], 13, false)] rfl ([62], 12, true) rfl (by omega) rfl
  have M11 := Lib.hid h11
  have s11 : w11.heap.size = w.heap.size + 7 := h11.size
  clear h11
  obtain ⟨w12, r12, h12⟩ : ∃ W', (Instr.mapUpdate 161 (.map (some (w.heap.size + 6))) (.string ⟨#[62, 61]⟩) (.agg #[.int .i64 13, .bool true])).run Tryz.prog w11 = .ok () W' ∧ Made w _ W' := ins_ex M11.out 5 [([61], 10, false), ([60, 62], 11, false), ([60], 12, false), ([60, 61], 13, false), ([62], 12, true)] rfl ([62, 61], 13, true) rfl (by omega) rfl
  have M12 := Lib.hid h12
  have s12 : w12.heap.size = w.heap.size + 7 := h12.size
  clear h12
  obtain ⟨w13, r13, h13⟩ : ∃ W', (Instr.mapUpdate 161 (.map (some (w.heap.size + 7))) (.string ⟨#[43]⟩) (.agg #[.int .i64 14, .bool false])).run Tryz.prog (w12.alloc (.map #[] 0)) = .ok () W' ∧ Made w _ W' := ins_ex M12.out.new 6 [] rfl ([43], 14, false) rfl (by omega) rfl
  have M13 := Lib.hid h13
  have s13 : w13.heap.size = w.heap.size + 8 := h13.size
  clear h13
  obtain ⟨w14, r14, h14⟩ : ∃ W', (Instr.mapUpdate 161 (.map (some (w.heap.size + 7))) (.string ⟨#[45]⟩) (.agg #[.int .i64 15, .bool false])).run Tryz.prog w13 = .ok () W' ∧ Made w _ W' := ins_ex M13.out 6 [([43], 14, false)] rfl ([45], 15, false) rfl (by omega) rfl
  have M14 := Lib.hid h14
  have s14 : w14.heap.size = w.heap.size + 8 := h14.size
  clear h14
  obtain ⟨w15, r15, h15⟩ : ∃ W', (Instr.mapUpdate 161 (.map (some (w.heap.size + 8))) (.string ⟨#[42]⟩) (.agg #[.int .i64 16, .bool false])).run Tryz.prog (w14.alloc (.map #[] 0)) = .ok () W' ∧ Made w _ W' := ins_ex M14.out.new 7 [] rfl ([42], 16, false) rfl (by omega) rfl
  have M15 := Lib.hid h15
  have s15 : w15.heap.size = w.heap.size + 9 := h15.size
  clear h15
  obtain ⟨w16, r16, h16⟩ : ∃ W', (Instr.mapUpdate 161 (.map (some (w.heap.size + 8))) (.string ⟨#[100, 105, 118]⟩) (.agg #[.int .i64 17, .bool false])).run Tryz.prog w15 = .ok () W' ∧ Made w _ W' := ins_ex M15.out 7 [([42], 16, false)] rfl ([100, 105, 118], 17, false) rfl (by omega) rfl
  have M16 := Lib.hid h16
  have s16 : w16.heap.size = w.heap.size + 9 := h16.size
  clear h16
  obtain ⟨w17, r17, h17⟩ : ∃ W', (Instr.mapUpdate 161 (.map (some (w.heap.size + 8))) (.string ⟨#[109, 111, 100]⟩) (.agg #[.int .i64 18, .bool false])).run Tryz.prog w16 = .ok () W' ∧ Made w _ W' := ins_ex M16.out 7 [([42], 16, false), ([100, 105, 118], 17, false)] rfl ([109, 111, 100], 18, false) rfl (by omega) rfl
  have M17 := Lib.hid h17
  have s17 : w17.heap.size = w.heap.size + 9 := h17.size
  clear h17
  obtain ⟨w18, r18, h18⟩ : ∃ W', (Instr.mapUpdate 161 (.map (some (w.heap.size + 9))) (.string ⟨#[110, 111, 116]⟩) (.agg #[.int .i64 4, .bool false])).run Tryz.prog (w17.alloc (.map #[] 0)) = .ok () W' ∧ Made w _ W' := ins_ex M17.out.new 8 [] rfl ([110, 111, 116], 4, false) rfl (by omega) rfl
  have M18 := Lib.hid h18
  have s18 : w18.heap.size = w.heap.size + 10 := h18.size
  clear h18
  obtain ⟨w19, r19, h19⟩ : ∃ W', (Instr.mapUpdate 161 (.map (some (w.heap.size + 9))) (.string ⟨#[45]⟩) (.agg #[.int .i64 5, .bool false])).run Tryz.prog w18 = .ok () W' ∧ Made w _ W' := ins_ex M18.out 8 [([110, 111, 116], 4, false)] rfl ([45], 5, false) rfl (by omega) rfl
  have M19 := Lib.hid h19
  have s19 : w19.heap.size = w.heap.size + 10 := h19.size
  clear h19
  obtain ⟨w20, r20, h20⟩ : ∃ W', (Instr.mapUpdate 161 (.map (some (w.heap.size + 9))) (.string ⟨#[112, 114, 101]⟩) (.agg #[.int .i64 21, .bool false])).run Tryz.prog w19 = .ok () W' ∧ Made w _ W' := ins_ex M19.out 8 [([110, 111, 116], 4, false), ([45], 5, false)] rfl ([112, 114, 101], 21, false) rfl (by omega) rfl
  have M20 := Lib.hid h20
  have s20 : w20.heap.size = w.heap.size + 10 := h20.size
  clear h20
  obtain ⟨w21, r21, h21⟩ : ∃ W', (Instr.mapUpdate 161 (.map (some (w.heap.size + 9))) (.string ⟨#[111, 110, 99, 101]⟩) (.agg #[.int .i64 22, .bool false])).run Tryz.prog w20 = .ok () W' ∧ Made w _ W' := ins_ex M20.out 8 [([110, 111, 116], 4, false), ([45], 5, false), ([112, 114, 101], 21, false)] rfl ([111, 110, 99, 101], 22, false) rfl (by omega) rfl
  have M21 := Lib.hid h21
  have s21 : w21.heap.size = w.heap.size + 10 := h21.size
  clear h21
  obtain ⟨w22, r22, h22⟩ : ∃ W', (Instr.mapUpdate 161 (.map (some (w.heap.size + 9))) (.string ⟨#[104, 105, 115, 116]⟩) (.agg #[.int .i64 23, .bool false])).run Tryz.prog w21 = .ok () W' ∧ Made w _ W' := ins_ex M21.out 8 [([110, 111, 116], 4, false), ([45], 5, false), ([112, 114, 101], 21, false), ([111, 110, 99, 101], 22, false)] rfl ([104, 105, 115, 116], 23, false) rfl (by omega) rfl
  have M22 := Lib.hid h22
  have s22 : w22.heap.size = w.heap.size + 10 := h22.size
  clear h22
  obtain ⟨w23, r23, h23⟩ : ∃ W', (Instr.mapUpdate 161 (.map (some (w.heap.size + 9))) (.string ⟨#[112, 114, 101, 118]⟩) (.agg #[.int .i64 24, .bool false])).run Tryz.prog w22 = .ok () W' ∧ Made w _ W' := ins_ex M22.out 8 [([110, 111, 116], 4, false), ([45], 5, false), ([112, 114, 101], 21, false), ([111, 110, 99, 101], 22, false), ([104, 105, 115, 116], 23, false)] rfl ([112, 114, 101, 118], 24, false) rfl (by omega) rfl
  have M23 := Lib.hid h23
  have s23 : w23.heap.size = w.heap.size + 10 := h23.size
  clear h23
  obtain ⟨w24, r24, h24⟩ : ∃ W', (Instr.mapUpdate 161 (.map (some (w.heap.size + 9))) (.string ⟨#[119, 105, 116, 104, 105, 110]⟩) (.agg #[.int .i64 25, .bool false])).run Tryz.prog w23 = .ok () W' ∧ Made w _ W' := ins_ex M23.out 8 [([110, 111, 116], 4, false), ([45], 5, false), ([112, 114, 101], 21, false), ([111, 110, 99, 101], 22, false), ([104, 105, 115, 116], 23, false), ([112, 114, 101, 118], 24, false)] rfl ([119, 105, 116, 104, 105, 110], 25, false) rfl (by omega) rfl
  have M24 := Lib.hid h24
  have s24 : w24.heap.size = w.heap.size + 10 := h24.size
  clear h24
  have x0 := M24.out.res
  have c0 : w24.cell? ⟨w.heap.size, 0, none⟩ = some (.map none) := (cell_at x0 0).trans rfl
  have f0 : w24.frozen? ⟨w.heap.size, 0, none⟩ = false := free_at x0 0
  have c1 : w24.cell? ⟨w.heap.size, 1, none⟩ = some (.map none) := (cell_at x0 1).trans rfl
  have f1 : w24.frozen? ⟨w.heap.size, 1, none⟩ = false := free_at x0 1
  have c2 : w24.cell? ⟨w.heap.size, 2, none⟩ = some (.map none) := (cell_at x0 2).trans rfl
  have f2 : w24.frozen? ⟨w.heap.size, 2, none⟩ = false := free_at x0 2
  have c3 : w24.cell? ⟨w.heap.size, 3, none⟩ = some (.map none) := (cell_at x0 3).trans rfl
  have f3 : w24.frozen? ⟨w.heap.size, 3, none⟩ = false := free_at x0 3
  have c4 : w24.cell? ⟨w.heap.size, 4, none⟩ = some (.map none) := (cell_at x0 4).trans rfl
  have f4 : w24.frozen? ⟨w.heap.size, 4, none⟩ = false := free_at x0 4
  have c5 : w24.cell? ⟨w.heap.size, 5, none⟩ = some (.map none) := (cell_at x0 5).trans rfl
  have f5 : w24.frozen? ⟨w.heap.size, 5, none⟩ = false := free_at x0 5
  have c6 : w24.cell? ⟨w.heap.size, 6, none⟩ = some (.map none) := (cell_at x0 6).trans rfl
  have f6 : w24.frozen? ⟨w.heap.size, 6, none⟩ = false := free_at x0 6
  have c7 : w24.cell? ⟨w.heap.size, 7, none⟩ = some (.map none) := (cell_at x0 7).trans rfl
  have f7 : w24.frozen? ⟨w.heap.size, 7, none⟩ = false := free_at x0 7
  have c8 : w24.cell? ⟨w.heap.size, 8, none⟩ = some (.map none) := (cell_at x0 8).trans rfl
  have f8 : w24.frozen? ⟨w.heap.size, 8, none⟩ = false := free_at x0 8
  have c9 : w24.cell? ⟨w.heap.size, 9, none⟩ = some (.map none) := (cell_at x0 9).trans rfl
  have f9 : w24.frozen? ⟨w.heap.size, 9, none⟩ = false := free_at x0 9
  clear x0
  go_enter Tryz.func145, Tryz.ntmps145
  go_wp2
  obtain ⟨W, hW, hc, hB, hm⟩ := signs_end M24.out rfl (fun n hn => by
    match n, hn with
    | 0, _ => rfl
    | 1, _ => rfl
    | 2, _ => rfl
    | 3, _ => rfl
    | 4, _ => rfl
    | 5, _ => rfl
    | 6, _ => rfl
    | 7, _ => rfl
    | 8, _ => rfl
    | k + 9, h => omega)
  clear r1 s1 r2 s2 r3 s3 r4 s4 r5 s5 r6 s6 r7 s7 r8 s8 r9 s9 r10 s10 r11 s11 r12 s12 r13 s13 r14 s14 r15 s15 r16 s16 r17 s17 r18 s18 r19 s19 r20 s20 r21 s21 r22 s22 r23 s23 r24 s24 c0 f0 c1 f1 c2 f2 c3 f3 c4 f4 c5 f5 c6 f6 c7 f7 c8 f8 c9 f9
  refine bodyPost_at (v := .agg #[mvOf w 0, mvOf w 1, mvOf w 2, mvOf w 3, mvOf w 4, mvOf w 5, mvOf w 6, mvOf w 7, mvOf w 8, mvOf w 9]) hW ?_ rfl ⟨rfl, hB, hm⟩
  clear hW hB hm
  have k0 : W.cell? ⟨w.heap.size, 0, none⟩ = some (.map none) := (hc 0).trans rfl
  have k1 : W.cell? ⟨w.heap.size, 1, none⟩ = some (.map (some (w.heap.size + 1))) := (hc 1).trans rfl
  have k2 : W.cell? ⟨w.heap.size, 2, none⟩ = some (.map (some (w.heap.size + 2))) := (hc 2).trans rfl
  have k3 : W.cell? ⟨w.heap.size, 3, none⟩ = some (.map (some (w.heap.size + 3))) := (hc 3).trans rfl
  have k4 : W.cell? ⟨w.heap.size, 4, none⟩ = some (.map (some (w.heap.size + 4))) := (hc 4).trans rfl
  have k5 : W.cell? ⟨w.heap.size, 5, none⟩ = some (.map (some (w.heap.size + 5))) := (hc 5).trans rfl
  have k6 : W.cell? ⟨w.heap.size, 6, none⟩ = some (.map (some (w.heap.size + 6))) := (hc 6).trans rfl
  have k7 : W.cell? ⟨w.heap.size, 7, none⟩ = some (.map (some (w.heap.size + 7))) := (hc 7).trans rfl
  have k8 : W.cell? ⟨w.heap.size, 8, none⟩ = some (.map (some (w.heap.size + 8))) := (hc 8).trans rfl
  have k9 : W.cell? ⟨w.heap.size, 9, none⟩ = some (.map (some (w.heap.size + 9))) := (hc 9).trans rfl
  clear hc
  simp [results, Tryz.results145, go_sem, k0, k1, k2, k3, k4, k5, k6, k7, k8, k9, mvOf]
end Go.Proofs.YtgohhnbdicdenaaGreatDoor.Ex

/- Contract of Parse. Conditions: the tokens lie in memory; they are not too many. -/
namespace Go.Proofs.YtgohhnbdicdenaaGreatDoor.Ex
open Go.ChangeShapes Go.WideShapes Go.ChangeAt Go.RowKit
open Go.Proofs.YtgohhnbdicdenaaGreatDoor.Tr (str ret_bool ret_int Bytes Nd joinM roomM own_block)
set_option linter.unusedVariables false
set_option linter.unusedSimpArgs false

def mvN (m n : Nat) : Value := if n = 0 then .map none else .map (some (m + n))
theorem signs_at {w : World} {m : Nat} (hm : w.heap.size = m) : Calls Tryz.prog 145 #[] w (fun e w' => e = .returned (.agg #[.map none, .map (some (m + 1)), .map (some (m + 2)), .map (some (m + 3)), .map (some (m + 4)), .map (some (m + 5)), .map (some (m + 6)), .map (some (m + 7)), .map (some (m + 8)), .map (some (m + 9))]) ∧ Below w.heap.size w w' ∧ ∀ n, 1 ≤ n → n ≤ 9 → MapAt w' w'.heap.size n (mvN m n)) := by
  subst hm
  exact signs_any w
theorem TokOff.rise {w w2 W : World} {lv : Value} {l : List Tok} (h : TokOff w w.heap.size lv l) (hb : Below w.heap.size w w2) (hb2 : Below w2.heap.size w2 W) : TokOff W w2.heap.size lv l := by
  obtain ⟨A, c, h0, h1, h2, h3⟩ := h
  have hs := hb.size
  refine TokOff.keep (w := w) ⟨A, c, h0, h1, h2, fun i t hi => ?_⟩ (Nat.le_trans hb.size hb2.size) (fun g _ hg => (hb2.block g (by omega)).trans (hb.block g hg))
  obtain ⟨g, e1, e2, e3, e4⟩ := h3 i t hi
  exact ⟨g, e1, by omega, e3, e4⟩
theorem VarAt.rise {w w2 W : World} (h : VarAt w w.heap.size) (hb : Below w.heap.size w w2) (hb2 : Below w2.heap.size w2 W) : VarAt W w2.heap.size := by
  have hs := hb.size
  exact VarAt.keep (w := w) ⟨by have := h.1; omega, h.2⟩ (Nat.le_trans hb.size hb2.size) (fun g _ hg => (hb2.block g (by omega)).trans (hb.block g hg))
theorem at_i {w : World} {v : Value} {l : List Tok} {b n : Nat} {i : Int} (hi : i = (n : Int)) (hv : TokOff w b v l) (hn : n ≤ 1000000) :
    Calls Tryz.prog 98 #[v, .int .i64 i] w (fun e w' => e = .returned (.int .i64 (atM l n)) ∧ w = w') := by
  subst hi; exact at_any v l b n w hv hn
/-- What Parse tells. -/
def ParseTo (w : World) (x : List Nd × Nat × Int × Int) (e : Ending) (w' : World) : Prop :=
  ∃ ev, e = .returned (.tuple #[ev, .int .i64 (x.2.1 : Int), .agg #[.int .i64 x.2.2.1, .int .i64 x.2.2.2]]) ∧ PtW w' (ev, ⟨x.1, 0, 0⟩) ∧ Below w.heap.size w w'
end Go.Proofs.YtgohhnbdicdenaaGreatDoor.Ex

/- Contract of Parse. Conditions: the tokens lie in memory; they are not too many. -/
namespace Go.Proofs.YtgohhnbdicdenaaGreatDoor.Ex
open Go.ChangeShapes Go.WideShapes Go.ChangeAt Go.RowKit
open Go.Proofs.YtgohhnbdicdenaaGreatDoor.Tr (str ret_bool ret_int Bytes Nd joinM roomM own_block)
set_option linter.unusedVariables false
set_option linter.unusedSimpArgs false

set_option maxRecDepth 100000 in
set_option maxHeartbeats 4000000 in
theorem parse_c1 (l : List Tok) (lv : Value) (n : Nat) (w : World) (hv : TokOff w w.heap.size lv l) (hvar : VarAt w w.heap.size) (hok : OkR ⟨l, n, 0, 0, 0⟩) (p : Pt) (r' : Rd) (h : run (fuelOf l n) (.lev 1) ⟨l, n, 0, 0, 0⟩ = some (p, r'))
    (hc : r'.code ≠ 0) :
    Calls Tryz.prog 137 #[lv, .int .i64 (n : Int)] w (ParseTo w (parseOf l n (p, r'))) := by
  have HV := Lib.hid hv
  have HVAR := Lib.hid hvar
  have HOK := Lib.hid hok
  have H := Lib.hid h
  obtain ⟨st1, ok1, mu1⟩ := run_step _ _ _ _ _ h hok.fine (by simp [Task.pre])
  have HO1 := Lib.hid ok1
  have hmu := (hok.step st1).mu
  have hnx := hok.nx
  have HOK1 := Lib.hid (hok.step st1)
  have hpn : p.nodes ≤ 100001 := by simp only [Task.base] at mu1; omega
  obtain ⟨A, c, rfl, l1, l2, l3⟩ := hv
  unfold maxLen at l2
  clear hvar hok h st1 ok1 mu1 l3
  have hcd : (r'.code == 0) = false := by rw [beq_eq_false_iff_ne]; exact hc
  have HE : Hid (parseOf l n (p, r') = ([], 0, r'.code, r'.at_)) := Lib.hid (by simp only [parseOf]; rw [if_pos hc])
  rw [HE.out]
  clear hc
  go_enter Tryz.func137, Tryz.ntmps137
  go_wp2_with fail
  obtain ⟨m, hmm⟩ : ∃ m, w.heap.size + 1 = m := ⟨_, rfl⟩
  refine (signs_at (m := m) (by rw [← hmm]; simp)).mono ?_
  rintro e w2 ⟨rfl, hb2, hm2⟩
  have HB2 := Lib.hid hb2
  have HM2 := Lib.hid hm2
  have hs2 := hb2.size
  have HMM := Lib.hid hmm
  simp at hs2
  have X6 : Hid (w2.heap[w.heap.size]? = some (.cells #[.int .i64 0, .int .i64 0] 33 (0, 0))) := Lib.hid ((hb2.block w.heap.size (by simp)).trans (heap_alloc_new w _))
  have HBW : Hid (Below w.heap.size w w2) := Lib.hid ((below_new w _).trans (hb2.mono (by simp)))
  clear hb2 hm2 hmm
  go_wp2_with fail
  have HRA : Hid (RdAt (w2.alloc (.cells #[.slice A l.length c, .int .i64 (n : Int), .int .i64 0, .int .i64 0, .int .i64 0, .map none, .map (some (m + 1)), .map (some (m + 2)), .map (some (m + 3)), .map (some (m + 4)), .map (some (m + 5)), .map (some (m + 6)), .map (some (m + 7)), .map (some (m + 8)), .map (some (m + 9))] 165)) w2.heap.size (mvN m) ⟨l, n, 0, 0, 0⟩) := Lib.hid
    ⟨⟨.slice A l.length c, heap_alloc_new w2 _, HV.out.rise HBW.out (below_new w2 _)⟩, fun k h1 h9 => (HM2.out k h1 h9).keep (by simp) (fun g _ hg => Below.heap_alloc _ _ _ hg), HVAR.out.rise HBW.out (below_new w2 _)⟩
  refine (lev_at (i := 1) (n := 1) (lev_ok _) H.out rfl (by omega) (by omega) HOK.out HRA.out).mono ?_
  rintro e w3 ⟨ev, rfl, hpt, hrd⟩
  have HPT := Lib.hid hpt
  have HRD := Lib.hid hrd
  have X63 : Hid (w3.heap[w.heap.size]? = some (.cells #[.int .i64 0, .int .i64 0] 33 (0, 0))) := Lib.hid (stay hrd.grown (stayA X6.out) (by omega))
  have hs3 := hrd.grown.size
  simp at hs3
  obtain ⟨lv', hblk, -⟩ := hrd.rd.blk
  have HBLK := Lib.hid hblk
  obtain ⟨⟨Ae, ce, hev, y1, y2, -⟩, -⟩ := hpt
  simp only at hev y1
  subst hev
  unfold maxLen at y2
  have HB3 : Hid (Below w.heap.size w w3) := Lib.hid ⟨hrd.grown.os.trans HBW.out.os, hrd.grown.tape.trans HBW.out.tape, hrd.grown.output.trans HBW.out.output, by omega, fun g hg => (stay hrd.grown (stayA (o := w.heap[g]'hg) (by rw [HBW.out.block g hg]; simp [hg])) (by omega)).trans (by simp [hg])⟩
  clear hrd hblk
  have c1 : w3.cell? ⟨w2.heap.size, 1, none⟩ = some (.int .i64 (r'.next : Int)) := rd_cell HBLK.out 1
  have c3 : w3.cell? ⟨w2.heap.size, 3, none⟩ = some (.int .i64 r'.code) := rd_cell HBLK.out 3
  have c4 : w3.cell? ⟨w2.heap.size, 4, none⟩ = some (.int .i64 r'.at_) := rd_cell HBLK.out 4
  have c60 : w3.cell? ⟨w.heap.size, 0, none⟩ = some (.int .i64 0) := (cell_at X63.out 0).trans rfl
  have c61 : w3.cell? ⟨w.heap.size, 1, none⟩ = some (.int .i64 0) := (cell_at X63.out 1).trans rfl
  have f60 : w3.frozen? ⟨w.heap.size, 0, none⟩ = false := free_at X63.out 0
  have f61 : w3.frozen? ⟨w.heap.size, 1, none⟩ = false := free_at X63.out 1
  have hl3 : w.heap.size < w3.heap.size := lt_of_block X63.out
  have hl23 : w2.heap.size < w3.heap.size := lt_of_block HBLK.out
  have HBA : Hid (Below w.heap.size w (w3.alloc (.cells #[.slice Ae p.e.length ce, .int .i64 (p.nodes : Int), .int .i64 (p.deep : Int)] 167))) := Lib.hid (HB3.out.alloc (by omega) _)
  have X64 := Lib.hid (stayA (o' := .cells #[.slice Ae p.e.length ce, .int .i64 (p.nodes : Int), .int .i64 (p.deep : Int)] 167) X63.out)
  have HPTA := Lib.hid (HPT.out.below (below_new w3 (.cells #[.slice Ae p.e.length ce, .int .i64 (p.nodes : Int), .int .i64 (p.deep : Int)] 167)))
  have hdp : p.deep ≤ p.nodes := HO1.out.deep
  go_wp2_with fail
  go_region
  all_goals go_wp2
  all_goals
    refine bodyPost_ret (v := .tuple #[.slice none 0 0, .int .i64 (0), .agg #[.int .i64 (r'.code), .int .i64 (r'.at_)]]) ?_ rfl ⟨_, rfl, (PtW.nil _ ⟨[], 0, 0⟩ rfl), ?_⟩
    · obtain ⟨k0, k1⟩ := pair_cells (o := .cells #[.slice Ae p.e.length ce, .int .i64 (p.nodes : Int), .int .i64 (p.deep : Int)] 167) (.int .i64 (r'.code)) (.int .i64 (r'.at_)) X63.out
      clear c1 c3 c4 c60 c61 f60 f61
      simp [results, Tryz.results137, go_sem, k0, k1]
    · repeat (first | exact HB3.out | refine Below.alloc ?_ (by simp [World.setCell]; omega) _ | refine Below.setCell ?_ (by exact Nat.le_refl _) _ | refine Below.drew ?_)
end Go.Proofs.YtgohhnbdicdenaaGreatDoor.Ex

/- Contract of Parse. Conditions: the tokens lie in memory; they are not too many. -/
namespace Go.Proofs.YtgohhnbdicdenaaGreatDoor.Ex
open Go.ChangeShapes Go.WideShapes Go.ChangeAt Go.RowKit
open Go.Proofs.YtgohhnbdicdenaaGreatDoor.Tr (str ret_bool ret_int Bytes Nd joinM roomM own_block)
set_option linter.unusedVariables false
set_option linter.unusedSimpArgs false

set_option maxRecDepth 100000 in
set_option maxHeartbeats 4000000 in
theorem parse_c2 (l : List Tok) (lv : Value) (n : Nat) (w : World) (hv : TokOff w w.heap.size lv l) (hvar : VarAt w w.heap.size) (hok : OkR ⟨l, n, 0, 0, 0⟩) (p : Pt) (r' : Rd) (h : run (fuelOf l n) (.lev 1) ⟨l, n, 0, 0, 0⟩ = some (p, r'))
    (hc : r'.code = 0) (h5 : 5000 < p.nodes) :
    Calls Tryz.prog 137 #[lv, .int .i64 (n : Int)] w (ParseTo w (parseOf l n (p, r'))) := by
  have HV := Lib.hid hv
  have HVAR := Lib.hid hvar
  have HOK := Lib.hid hok
  have H := Lib.hid h
  obtain ⟨st1, ok1, mu1⟩ := run_step _ _ _ _ _ h hok.fine (by simp [Task.pre])
  have HO1 := Lib.hid ok1
  have hmu := (hok.step st1).mu
  have hnx := hok.nx
  have HOK1 := Lib.hid (hok.step st1)
  have hpn : p.nodes ≤ 100001 := by simp only [Task.base] at mu1; omega
  obtain ⟨A, c, rfl, l1, l2, l3⟩ := hv
  unfold maxLen at l2
  clear hvar hok h st1 ok1 mu1 l3
  have hcd : (r'.code == 0) = true := by rw [beq_iff_eq]; exact hc
  have hnd : decide ((5000 : Int) < (p.nodes : Int)) = true := by rw [decide_eq_true_iff]; omega
  have HE : Hid (parseOf l n (p, r') = ([], 0, 7, atM l n)) := Lib.hid (by simp only [parseOf]; rw [if_neg (by simp [hc]), if_pos h5])
  rw [HE.out]
  clear hc
  go_enter Tryz.func137, Tryz.ntmps137
  go_wp2_with fail
  obtain ⟨m, hmm⟩ : ∃ m, w.heap.size + 1 = m := ⟨_, rfl⟩
  refine (signs_at (m := m) (by rw [← hmm]; simp)).mono ?_
  rintro e w2 ⟨rfl, hb2, hm2⟩
  have HB2 := Lib.hid hb2
  have HM2 := Lib.hid hm2
  have hs2 := hb2.size
  have HMM := Lib.hid hmm
  simp at hs2
  have X6 : Hid (w2.heap[w.heap.size]? = some (.cells #[.int .i64 0, .int .i64 0] 33 (0, 0))) := Lib.hid ((hb2.block w.heap.size (by simp)).trans (heap_alloc_new w _))
  have HBW : Hid (Below w.heap.size w w2) := Lib.hid ((below_new w _).trans (hb2.mono (by simp)))
  clear hb2 hm2 hmm
  go_wp2_with fail
  have HRA : Hid (RdAt (w2.alloc (.cells #[.slice A l.length c, .int .i64 (n : Int), .int .i64 0, .int .i64 0, .int .i64 0, .map none, .map (some (m + 1)), .map (some (m + 2)), .map (some (m + 3)), .map (some (m + 4)), .map (some (m + 5)), .map (some (m + 6)), .map (some (m + 7)), .map (some (m + 8)), .map (some (m + 9))] 165)) w2.heap.size (mvN m) ⟨l, n, 0, 0, 0⟩) := Lib.hid
    ⟨⟨.slice A l.length c, heap_alloc_new w2 _, HV.out.rise HBW.out (below_new w2 _)⟩, fun k h1 h9 => (HM2.out k h1 h9).keep (by simp) (fun g _ hg => Below.heap_alloc _ _ _ hg), HVAR.out.rise HBW.out (below_new w2 _)⟩
  refine (lev_at (i := 1) (n := 1) (lev_ok _) H.out rfl (by omega) (by omega) HOK.out HRA.out).mono ?_
  rintro e w3 ⟨ev, rfl, hpt, hrd⟩
  have HPT := Lib.hid hpt
  have HRD := Lib.hid hrd
  have X63 : Hid (w3.heap[w.heap.size]? = some (.cells #[.int .i64 0, .int .i64 0] 33 (0, 0))) := Lib.hid (stay hrd.grown (stayA X6.out) (by omega))
  have hs3 := hrd.grown.size
  simp at hs3
  obtain ⟨lv', hblk, -⟩ := hrd.rd.blk
  have HBLK := Lib.hid hblk
  obtain ⟨⟨Ae, ce, hev, y1, y2, -⟩, -⟩ := hpt
  simp only at hev y1
  subst hev
  unfold maxLen at y2
  have HB3 : Hid (Below w.heap.size w w3) := Lib.hid ⟨hrd.grown.os.trans HBW.out.os, hrd.grown.tape.trans HBW.out.tape, hrd.grown.output.trans HBW.out.output, by omega, fun g hg => (stay hrd.grown (stayA (o := w.heap[g]'hg) (by rw [HBW.out.block g hg]; simp [hg])) (by omega)).trans (by simp [hg])⟩
  clear hrd hblk
  have c1 : w3.cell? ⟨w2.heap.size, 1, none⟩ = some (.int .i64 (r'.next : Int)) := rd_cell HBLK.out 1
  have c3 : w3.cell? ⟨w2.heap.size, 3, none⟩ = some (.int .i64 r'.code) := rd_cell HBLK.out 3
  have c4 : w3.cell? ⟨w2.heap.size, 4, none⟩ = some (.int .i64 r'.at_) := rd_cell HBLK.out 4
  have c60 : w3.cell? ⟨w.heap.size, 0, none⟩ = some (.int .i64 0) := (cell_at X63.out 0).trans rfl
  have c61 : w3.cell? ⟨w.heap.size, 1, none⟩ = some (.int .i64 0) := (cell_at X63.out 1).trans rfl
  have f60 : w3.frozen? ⟨w.heap.size, 0, none⟩ = false := free_at X63.out 0
  have f61 : w3.frozen? ⟨w.heap.size, 1, none⟩ = false := free_at X63.out 1
  have hl3 : w.heap.size < w3.heap.size := lt_of_block X63.out
  have hl23 : w2.heap.size < w3.heap.size := lt_of_block HBLK.out
  have HBA : Hid (Below w.heap.size w (w3.alloc (.cells #[.slice Ae p.e.length ce, .int .i64 (p.nodes : Int), .int .i64 (p.deep : Int)] 167))) := Lib.hid (HB3.out.alloc (by omega) _)
  have X64 := Lib.hid (stayA (o' := .cells #[.slice Ae p.e.length ce, .int .i64 (p.nodes : Int), .int .i64 (p.deep : Int)] 167) X63.out)
  have HPTA := Lib.hid (HPT.out.below (below_new w3 (.cells #[.slice Ae p.e.length ce, .int .i64 (p.nodes : Int), .int .i64 (p.deep : Int)] 167)))
  have hdp : p.deep ≤ p.nodes := HO1.out.deep
  go_wp2_with fail
  refine (at_i rfl ((HV.out.rise HBA.out (Below.refl _ _))) hnx).mono ?_
  rintro e w5 ⟨rfl, rfl⟩
  go_wp2
  refine bodyPost_ret (v := .tuple #[.slice none 0 0, .int .i64 (0), .agg #[.int .i64 (7), .int .i64 (atM l n)]]) ?_ rfl ⟨_, rfl, (PtW.nil _ ⟨[], 0, 0⟩ rfl), ?_⟩
  · obtain ⟨k0, k1⟩ := pair_cells (o := .cells #[.slice Ae p.e.length ce, .int .i64 (p.nodes : Int), .int .i64 (p.deep : Int)] 167) (.int .i64 (7)) (.int .i64 (atM l n)) X63.out
    clear c1 c3 c4 c60 c61 f60 f61
    simp [results, Tryz.results137, go_sem, k0, k1]
  · repeat (first | exact HB3.out | refine Below.alloc ?_ (by simp [World.setCell]; omega) _ | refine Below.setCell ?_ (by exact Nat.le_refl _) _ | refine Below.drew ?_)
end Go.Proofs.YtgohhnbdicdenaaGreatDoor.Ex

