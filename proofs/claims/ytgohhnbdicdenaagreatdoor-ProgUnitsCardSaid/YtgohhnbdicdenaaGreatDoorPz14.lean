/- Contract of Parse. Conditions: the tokens lie in memory; they are not too many. -/
import Derived.Test.YtgohhnbdicdenaaGreatDoorPz13
namespace Go.Proofs.YtgohhnbdicdenaaGreatDoor.Ex
open Go.ChangeShapes Go.WideShapes Go.ChangeAt Go.RowKit
open Go.Proofs.YtgohhnbdicdenaaGreatDoor.Tr (str ret_bool ret_int Bytes Nd joinM roomM own_block)
set_option linter.unusedVariables false
set_option linter.unusedSimpArgs false

set_option maxRecDepth 100000 in
set_option maxHeartbeats 4000000 in
theorem parse_c3 (l : List Tok) (lv : Value) (n : Nat) (w : World) (hv : TokOff w w.heap.size lv l) (hvar : VarAt w w.heap.size) (hok : OkR ⟨l, n, 0, 0, 0⟩) (p : Pt) (r' : Rd) (h : run (fuelOf l n) (.lev 1) ⟨l, n, 0, 0, 0⟩ = some (p, r'))
    (hc : r'.code = 0) (h5 : ¬ 5000 < p.nodes) (h4 : 40 < p.deep) :
    Calls Tryz.prog 137 #[lv, .int .i64 (n : Int)] w (ParseTo w (parseOf l n (p, r'))) := by
  have HV := Lib.hid hv
  have HVAR := Lib.hid hvar
  have HOK := Lib.hid hok
  have H := Lib.hid h
  obtain ⟨st1, ok1, mu1⟩ := run_step _ _ _ _ _ h hok.fine (by simp [Task.pre])
  have HO1 := Lib.hid ok1
  have hmu := (hok.step st1).mu
  have hnx := hok.nx
  have HOK1 := Lib.hid (hok.step st1)
  have hpn : p.nodes ≤ 100001 := by simp only [Task.base] at mu1; omega
  obtain ⟨A, c, rfl, l1, l2, l3⟩ := hv
  unfold maxLen at l2
  clear hvar hok h st1 ok1 mu1 l3
  have hcd : (r'.code == 0) = true := by rw [beq_iff_eq]; exact hc
  have hnd : decide ((5000 : Int) < (p.nodes : Int)) = false := by rw [decide_eq_false_iff_not]; omega
  have hnd2 : decide ((40 : Int) < (p.deep : Int)) = true := by rw [decide_eq_true_iff]; omega
  have HE : Hid (parseOf l n (p, r') = ([], 0, 6, atM l n)) := Lib.hid (by simp only [parseOf]; rw [if_neg (by simp [hc]), if_neg h5, if_pos h4])
  rw [HE.out]
  clear hc
  go_enter Tryz.func137, Tryz.ntmps137
  go_wp2_with fail
  obtain ⟨m, hmm⟩ : ∃ m, w.heap.size + 1 = m := ⟨_, rfl⟩
  refine (signs_at (m := m) (by rw [← hmm]; simp)).mono ?_
  rintro e w2 ⟨rfl, hb2, hm2⟩
  have HB2 := Lib.hid hb2
  have HM2 := Lib.hid hm2
  have hs2 := hb2.size
  have HMM := Lib.hid hmm
  simp at hs2
  have X6 : Hid (w2.heap[w.heap.size]? = some (.cells #[.int .i64 0, .int .i64 0] 33 (0, 0))) := Lib.hid ((hb2.block w.heap.size (by simp)).trans (heap_alloc_new w _))
  have HBW : Hid (Below w.heap.size w w2) := Lib.hid ((below_new w _).trans (hb2.mono (by simp)))
  clear hb2 hm2 hmm
  go_wp2_with fail
  have HRA : Hid (RdAt (w2.alloc (.cells #[.slice A l.length c, .int .i64 (n : Int), .int .i64 0, .int .i64 0, .int .i64 0, .map none, .map (some (m + 1)), .map (some (m + 2)), .map (some (m + 3)), .map (some (m + 4)), .map (some (m + 5)), .map (some (m + 6)), .map (some (m + 7)), .map (some (m + 8)), .map (some (m + 9))] 165)) w2.heap.size (mvN m) ⟨l, n, 0, 0, 0⟩) := Lib.hid
    ⟨⟨.slice A l.length c, heap_alloc_new w2 _, HV.out.rise HBW.out (below_new w2 _)⟩, fun k h1 h9 => (HM2.out k h1 h9).keep (by simp) (fun g _ hg => Below.heap_alloc _ _ _ hg), HVAR.out.rise HBW.out (below_new w2 _)⟩
  refine (lev_at (i := 1) (n := 1) (lev_ok _) H.out rfl (by omega) (by omega) HOK.out HRA.out).mono ?_
  rintro e w3 ⟨ev, rfl, hpt, hrd⟩
  have HPT := Lib.hid hpt
  have HRD := Lib.hid hrd
  have X63 : Hid (w3.heap[w.heap.size]? = some (.cells #[.int .i64 0, .int .i64 0] 33 (0, 0))) := Lib.hid (stay hrd.grown (stayA X6.out) (by omega))
  have hs3 := hrd.grown.size
  simp at hs3
  obtain ⟨lv', hblk, -⟩ := hrd.rd.blk
  have HBLK := Lib.hid hblk
  obtain ⟨⟨Ae, ce, hev, y1, y2, -⟩, -⟩ := hpt
  simp only at hev y1
  subst hev
  unfold maxLen at y2
  have HB3 : Hid (Below w.heap.size w w3) := Lib.hid ⟨hrd.grown.os.trans HBW.out.os, hrd.grown.tape.trans HBW.out.tape, hrd.grown.output.trans HBW.out.output, by omega, fun g hg => (stay hrd.grown (stayA (o := w.heap[g]'hg) (by rw [HBW.out.block g hg]; simp [hg])) (by omega)).trans (by simp [hg])⟩
  clear hrd hblk
  have c1 : w3.cell? ⟨w2.heap.size, 1, none⟩ = some (.int .i64 (r'.next : Int)) := rd_cell HBLK.out 1
  have c3 : w3.cell? ⟨w2.heap.size, 3, none⟩ = some (.int .i64 r'.code) := rd_cell HBLK.out 3
  have c4 : w3.cell? ⟨w2.heap.size, 4, none⟩ = some (.int .i64 r'.at_) := rd_cell HBLK.out 4
  have c60 : w3.cell? ⟨w.heap.size, 0, none⟩ = some (.int .i64 0) := (cell_at X63.out 0).trans rfl
  have c61 : w3.cell? ⟨w.heap.size, 1, none⟩ = some (.int .i64 0) := (cell_at X63.out 1).trans rfl
  have f60 : w3.frozen? ⟨w.heap.size, 0, none⟩ = false := free_at X63.out 0
  have f61 : w3.frozen? ⟨w.heap.size, 1, none⟩ = false := free_at X63.out 1
  have hl3 : w.heap.size < w3.heap.size := lt_of_block X63.out
  have hl23 : w2.heap.size < w3.heap.size := lt_of_block HBLK.out
  have HBA : Hid (Below w.heap.size w (w3.alloc (.cells #[.slice Ae p.e.length ce, .int .i64 (p.nodes : Int), .int .i64 (p.deep : Int)] 167))) := Lib.hid (HB3.out.alloc (by omega) _)
  have X64 := Lib.hid (stayA (o' := .cells #[.slice Ae p.e.length ce, .int .i64 (p.nodes : Int), .int .i64 (p.deep : Int)] 167) X63.out)
  have HPTA := Lib.hid (HPT.out.below (below_new w3 (.cells #[.slice Ae p.e.length ce, .int .i64 (p.nodes : Int), .int .i64 (p.deep : Int)] 167)))
  have hdp : p.deep ≤ p.nodes := HO1.out.deep
  go_wp2_with fail
  refine (at_i rfl ((HV.out.rise HBA.out (Below.refl _ _))) hnx).mono ?_
  rintro e w5 ⟨rfl, rfl⟩
  go_wp2
  refine bodyPost_ret (v := .tuple #[.slice none 0 0, .int .i64 (0), .agg #[.int .i64 (6), .int .i64 (atM l n)]]) ?_ rfl ⟨_, rfl, (PtW.nil _ ⟨[], 0, 0⟩ rfl), ?_⟩
  · obtain ⟨k0, k1⟩ := pair_cells (o := .cells #[.slice Ae p.e.length ce, .int .i64 (p.nodes : Int), .int .i64 (p.deep : Int)] 167) (.int .i64 (6)) (.int .i64 (atM l n)) X63.out
    clear c1 c3 c4 c60 c61 f60 f61
    simp [results, Tryz.results137, go_sem, k0, k1]
  · repeat (first | exact HB3.out | refine Below.alloc ?_ (by simp [World.setCell]; omega) _ | refine Below.setCell ?_ (by exact Nat.le_refl _) _ | refine Below.drew ?_)
end Go.Proofs.YtgohhnbdicdenaaGreatDoor.Ex

/- Contract of Parse. Conditions: the tokens lie in memory; they are not too many. -/
namespace Go.Proofs.YtgohhnbdicdenaaGreatDoor.Ex
open Go.ChangeShapes Go.WideShapes Go.ChangeAt Go.RowKit
open Go.Proofs.YtgohhnbdicdenaaGreatDoor.Tr (str ret_bool ret_int Bytes Nd joinM roomM own_block)
set_option linter.unusedVariables false
set_option linter.unusedSimpArgs false

set_option maxRecDepth 100000 in
set_option maxHeartbeats 4000000 in
theorem parse_c4 (l : List Tok) (lv : Value) (n : Nat) (w : World) (hv : TokOff w w.heap.size lv l) (hvar : VarAt w w.heap.size) (hok : OkR ⟨l, n, 0, 0, 0⟩) (p : Pt) (r' : Rd) (h : run (fuelOf l n) (.lev 1) ⟨l, n, 0, 0, 0⟩ = some (p, r'))
    (hc : r'.code = 0) (h5 : ¬ 5000 < p.nodes) (h4 : ¬ 40 < p.deep) :
    Calls Tryz.prog 137 #[lv, .int .i64 (n : Int)] w (ParseTo w (parseOf l n (p, r'))) := by
  have HV := Lib.hid hv
  have HVAR := Lib.hid hvar
  have HOK := Lib.hid hok
  have H := Lib.hid h
  obtain ⟨st1, ok1, mu1⟩ := run_step _ _ _ _ _ h hok.fine (by simp [Task.pre])
  have HO1 := Lib.hid ok1
  have hmu := (hok.step st1).mu
  have hnx := hok.nx
  have HOK1 := Lib.hid (hok.step st1)
  have hpn : p.nodes ≤ 100001 := by simp only [Task.base] at mu1; omega
  obtain ⟨A, c, rfl, l1, l2, l3⟩ := hv
  unfold maxLen at l2
  clear hvar hok h st1 ok1 mu1 l3
  have hcd : (r'.code == 0) = true := by rw [beq_iff_eq]; exact hc
  have hnd : decide ((5000 : Int) < (p.nodes : Int)) = false := by rw [decide_eq_false_iff_not]; omega
  have hnd2 : decide ((40 : Int) < (p.deep : Int)) = false := by rw [decide_eq_false_iff_not]; omega
  have HE : Hid (parseOf l n (p, r') = (p.e, r'.next, 0, 0)) := Lib.hid (by simp only [parseOf]; rw [if_neg (by simp [hc]), if_neg h5, if_neg h4])
  rw [HE.out]
  clear hc
  go_enter Tryz.func137, Tryz.ntmps137
  go_wp2_with fail
  obtain ⟨m, hmm⟩ : ∃ m, w.heap.size + 1 = m := ⟨_, rfl⟩
  refine (signs_at (m := m) (by rw [← hmm]; simp)).mono ?_
  rintro e w2 ⟨rfl, hb2, hm2⟩
  have HB2 := Lib.hid hb2
  have HM2 := Lib.hid hm2
  have hs2 := hb2.size
  have HMM := Lib.hid hmm
  simp at hs2
  have X6 : Hid (w2.heap[w.heap.size]? = some (.cells #[.int .i64 0, .int .i64 0] 33 (0, 0))) := Lib.hid ((hb2.block w.heap.size (by simp)).trans (heap_alloc_new w _))
  have HBW : Hid (Below w.heap.size w w2) := Lib.hid ((below_new w _).trans (hb2.mono (by simp)))
  clear hb2 hm2 hmm
  go_wp2_with fail
  have HRA : Hid (RdAt (w2.alloc (.cells #[.slice A l.length c, .int .i64 (n : Int), .int .i64 0, .int .i64 0, .int .i64 0, .map none, .map (some (m + 1)), .map (some (m + 2)), .map (some (m + 3)), .map (some (m + 4)), .map (some (m + 5)), .map (some (m + 6)), .map (some (m + 7)), .map (some (m + 8)), .map (some (m + 9))] 165)) w2.heap.size (mvN m) ⟨l, n, 0, 0, 0⟩) := Lib.hid
    ⟨⟨.slice A l.length c, heap_alloc_new w2 _, HV.out.rise HBW.out (below_new w2 _)⟩, fun k h1 h9 => (HM2.out k h1 h9).keep (by simp) (fun g _ hg => Below.heap_alloc _ _ _ hg), HVAR.out.rise HBW.out (below_new w2 _)⟩
  refine (lev_at (i := 1) (n := 1) (lev_ok _) H.out rfl (by omega) (by omega) HOK.out HRA.out).mono ?_
  rintro e w3 ⟨ev, rfl, hpt, hrd⟩
  have HPT := Lib.hid hpt
  have HRD := Lib.hid hrd
  have X63 : Hid (w3.heap[w.heap.size]? = some (.cells #[.int .i64 0, .int .i64 0] 33 (0, 0))) := Lib.hid (stay hrd.grown (stayA X6.out) (by omega))
  have hs3 := hrd.grown.size
  simp at hs3
  obtain ⟨lv', hblk, -⟩ := hrd.rd.blk
  have HBLK := Lib.hid hblk
  obtain ⟨⟨Ae, ce, hev, y1, y2, -⟩, -⟩ := hpt
  simp only at hev y1
  subst hev
  unfold maxLen at y2
  have HB3 : Hid (Below w.heap.size w w3) := Lib.hid ⟨hrd.grown.os.trans HBW.out.os, hrd.grown.tape.trans HBW.out.tape, hrd.grown.output.trans HBW.out.output, by omega, fun g hg => (stay hrd.grown (stayA (o := w.heap[g]'hg) (by rw [HBW.out.block g hg]; simp [hg])) (by omega)).trans (by simp [hg])⟩
  clear hrd hblk
  have c1 : w3.cell? ⟨w2.heap.size, 1, none⟩ = some (.int .i64 (r'.next : Int)) := rd_cell HBLK.out 1
  have c3 : w3.cell? ⟨w2.heap.size, 3, none⟩ = some (.int .i64 r'.code) := rd_cell HBLK.out 3
  have c4 : w3.cell? ⟨w2.heap.size, 4, none⟩ = some (.int .i64 r'.at_) := rd_cell HBLK.out 4
  have c60 : w3.cell? ⟨w.heap.size, 0, none⟩ = some (.int .i64 0) := (cell_at X63.out 0).trans rfl
  have c61 : w3.cell? ⟨w.heap.size, 1, none⟩ = some (.int .i64 0) := (cell_at X63.out 1).trans rfl
  have f60 : w3.frozen? ⟨w.heap.size, 0, none⟩ = false := free_at X63.out 0
  have f61 : w3.frozen? ⟨w.heap.size, 1, none⟩ = false := free_at X63.out 1
  have hl3 : w.heap.size < w3.heap.size := lt_of_block X63.out
  have hl23 : w2.heap.size < w3.heap.size := lt_of_block HBLK.out
  have HBA : Hid (Below w.heap.size w (w3.alloc (.cells #[.slice Ae p.e.length ce, .int .i64 (p.nodes : Int), .int .i64 (p.deep : Int)] 167))) := Lib.hid (HB3.out.alloc (by omega) _)
  have X64 := Lib.hid (stayA (o' := .cells #[.slice Ae p.e.length ce, .int .i64 (p.nodes : Int), .int .i64 (p.deep : Int)] 167) X63.out)
  have HPTA := Lib.hid (HPT.out.below (below_new w3 (.cells #[.slice Ae p.e.length ce, .int .i64 (p.nodes : Int), .int .i64 (p.deep : Int)] 167)))
  have hdp : p.deep ≤ p.nodes := HO1.out.deep
  go_wp2_with fail
  go_region
  all_goals go_wp2
  all_goals
    refine bodyPost_ret (v := .tuple #[.slice Ae p.e.length ce, .int .i64 ((r'.next : Int)), .agg #[.int .i64 (0), .int .i64 (0)]]) ?_ rfl ⟨_, rfl, (by first | exact (((HPT.out.set X63.out (by decide) _).set (setObj_heap (v := .int .i64 0) X63.out (k := 0) (by simp)) (by decide) _).below (below_new _ _)) | exact (((HPT.out.set X63.out (by decide) _).set (setObj_heap (v := .int .i64 0) X63.out (k := 0) (by simp)) (by decide) _).below (below_new _ _)).drew), ?_⟩
    · obtain ⟨k0, k1⟩ := pair_cells (o := .cells #[.slice Ae p.e.length ce, .int .i64 (p.nodes : Int), .int .i64 (p.deep : Int)] 167) (.int .i64 (0)) (.int .i64 (0)) X63.out
      clear c1 c3 c4 c60 c61 f60 f61
      simp [results, Tryz.results137, go_sem, k0, k1]
    · repeat (first | exact HB3.out | refine Below.alloc ?_ (by simp [World.setCell]; omega) _ | refine Below.setCell ?_ (by exact Nat.le_refl _) _ | refine Below.drew ?_)
end Go.Proofs.YtgohhnbdicdenaaGreatDoor.Ex

/- Contract of Parse. Conditions: the tokens lie in memory; they are not too many. -/
namespace Go.Proofs.YtgohhnbdicdenaaGreatDoor.Ex
open Go.ChangeShapes Go.WideShapes Go.ChangeAt Go.RowKit
open Go.Proofs.YtgohhnbdicdenaaGreatDoor.Tr (str ret_bool ret_int Bytes Nd joinM roomM own_block)
set_option linter.unusedVariables false
set_option linter.unusedSimpArgs false

theorem parse_any (l : List Tok) (lv : Value) (n : Nat) (w : World) (hv : TokOff w w.heap.size lv l) (hvar : VarAt w w.heap.size) (hok : OkR ⟨l, n, 0, 0, 0⟩) (x : Pt × Rd) (h : run (fuelOf l n) (.lev 1) ⟨l, n, 0, 0, 0⟩ = some x) :
    Calls Tryz.prog 137 #[lv, .int .i64 (n : Int)] w (ParseTo w (parseOf l n x)) := by
  obtain ⟨p, r'⟩ := x
  by_cases hc : r'.code = 0
  · by_cases h5 : 5000 < p.nodes
    · exact parse_c2 l lv n w hv hvar hok p r' h hc h5
    · by_cases h4 : 40 < p.deep
      · exact parse_c3 l lv n w hv hvar hok p r' h hc h5 h4
      · exact parse_c4 l lv n w hv hvar hok p r' h hc h5 h4
  · exact parse_c1 l lv n w hv hvar hok p r' h hc
end Go.Proofs.YtgohhnbdicdenaaGreatDoor.Ex

