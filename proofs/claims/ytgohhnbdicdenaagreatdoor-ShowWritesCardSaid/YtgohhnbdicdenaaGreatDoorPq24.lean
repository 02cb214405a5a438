/- The document's answer for layer expr: Read. Conditions: the source is no longer than a string can be, and has no more than 20000 tokens. -/
import Derived.Test.YtgohhnbdicdenaaGreatDoorPq23
import Derived.Test.YtgohhnbdicdenaaGreatDoorPq17
import Derived.Test.YtgohhnbdicdenaaGreatDoorPk10
import Derived.Test.YtgohhnbdicdenaaGreatDoorRows
import Derived.Test.YtgohhnbdicdenaaGreatDoorTie
import Derived.ProofKit
import Derived.LaidMore
import Derived.OpenShut
import Derived.Stop.Joined
import Derived.Below
import Derived.ChangeSame
namespace Go.Proofs.YtgohhnbdicdenaaGreatDoor.Rf
open Go.ChangeShapes Go.WideShapes Go.ChangeAt Go.RowKit
open Go.Proofs.YtgohhnbdicdenaaGreatDoor.Ex Go.Proofs.YtgohhnbdicdenaaGreatDoor.Sh
open Go.Proofs.YtgohhnbdicdenaaGreatDoor.Tr (str ret_bool ret_int Bytes Nd T joinM roomM)
set_option linter.unusedVariables false
set_option linter.unusedSimpArgs false

set_option maxRecDepth 100000 in
set_option maxHeartbeats 4000000 in
theorem rread_cb (S : ByteArray) (w : World) (h : S.size ≤ maxLen) (l : List Ex.Tok) (hl : Lx.lexM S.toList = .ok l) (hln : l.length ≤ 20000) (x : Pt × Rd) (hx : run (fuelOf l 0) (.lev 1) ⟨l, 0, 0, 0, 0⟩ = some x) (E : List Nd) (N : Nat) (C D : Int) (hP : parseOf l 0 x = (E, N, C, D)) (hC : C = 0) (hlt : N < l.length) : Calls Tryz.prog 24 #[.string S] w (ReadTo w (readM S.toList)) := by
  have HC : Hid (Calls Tryz.prog 18 #[.string S] (w.alloc (.cells #[.int .i64 0, .int .i64 0] 33)) (Lx.LexGives (w.alloc (.cells #[.int .i64 0, .int .i64 0] 33)) l 0 0)) := Lib.hid (by have := rlex_gives S (w.alloc (.cells #[.int .i64 0, .int .i64 0] 33)) h; rw [hl] at this; exact this)
  have HOK := Lib.hid (okl_of hl hln)
  have HX := Lib.hid hx
  have HP := Lib.hid hP
  have hN : N ≤ 1000000 := by have := parse_nextN (by omega) hx; rw [hP] at this; exact this
  have hPM : parseM l 0 = (E, N, C, D) := by unfold parseM; rw [hx]; exact hP
  have hcd : (C != 0) = false := by rw [hC]; rfl
  have hnd : decide ((N : Int) < (l.length : Int)) = true := by rw [decide_eq_true_iff]; omega
  have hnd2 : decide (N < l.length) = true := by rw [decide_eq_true_iff]; exact hlt
  have HE : Hid (readM S.toList = ([], 5, atM l N)) := Lib.hid (by
    unfold readM; rw [hl]; simp only [hPM]; rw [if_pos ⟨hC, hlt⟩])
  clear hl hx hP hPM
  clear h hC
  go_enter Tryz.func24, Tryz.ntmps24
  go_wp2_with fail
  refine HC.out.mono ?_
  rintro e w1 ⟨v, rfl, ht, hb1⟩
  have HT := Lib.hid ht
  obtain ⟨A, cc, rfl, t1, t2, -⟩ := ht
  unfold maxLen at t2
  have X6 : Hid (w1.heap[w.heap.size]? = some (.cells #[.int .i64 0, .int .i64 0] 33 (0, 0))) := Lib.hid ((hb1.block w.heap.size (by simp)).trans (heap_alloc_new w _))
  have HB1 : Hid (Below w.heap.size w w1) := Lib.hid ((below_new w _).trans (hb1.mono (by simp)))
  have hl1 : w.heap.size < w1.heap.size := lt_of_block X6.out
  clear hb1
  go_wp2_with fail
  refine (rparse_at rfl ((toks_off HT.out).rise (below_new w1 (.cells #[.int .i64 0, .int .i64 0] 33)) (Below.refl _ _)) HOK.out HX.out HP.out).mono ?_
  rintro e w3 ⟨ev, rfl, hpt, hb3⟩
  have HPT := Lib.hid hpt
  have HB3 := Lib.hid hb3
  have X63 : Hid (w3.heap[w.heap.size]? = some (.cells #[.int .i64 0, .int .i64 0] 33 (0, 0))) := Lib.hid ((hb3.block w.heap.size (by simp; omega)).trans (stayA X6.out))
  have HBW : Hid (Below w.heap.size w w3) := Lib.hid ((HB1.out.alloc (by omega) _).trans (hb3.mono (by simp; omega)))
  have hs3 := hb3.size
  simp at hs3
  obtain ⟨⟨Ae, ce, hev, y1, y2, -⟩, -⟩ := hpt
  simp only at hev y1
  subst hev
  unfold maxLen at y2
  clear hb3
  have l03 : w.heap.size < w3.heap.size := by omega
  have c60 : w3.cell? ⟨w.heap.size, 0, none⟩ = some (.int .i64 0) := (cell_at X63.out 0).trans rfl
  have c61 : w3.cell? ⟨w.heap.size, 1, none⟩ = some (.int .i64 0) := (cell_at X63.out 1).trans rfl
  have f60 : w3.frozen? ⟨w.heap.size, 0, none⟩ = false := free_at X63.out 0
  have f61 : w3.frozen? ⟨w.heap.size, 1, none⟩ = false := free_at X63.out 1
  obtain ⟨t, ht⟩ : ∃ t, l[N]? = some t := ⟨_, List.getElem?_eq_getElem hlt⟩
  have HAM : Hid (atM l N = (t.at_ : Int)) := Lib.hid (by unfold atM; rw [ht])
  rw [HAM.out] at HE
  have htk := (toks_off HT.out).rise (below_new w1 (.cells #[.int .i64 0, .int .i64 0] 33)) (HB3.out)
  obtain ⟨A', c', e1, _, _, e4⟩ := htk
  obtain ⟨g, f1, f2, f3, fa, fb, fc⟩ := e4 N t ht
  go_wp2_with fail
  go_region
  all_goals go_wp2
  all_goals
    refine bodyPost_ret (v := .tuple #[.slice none 0 0, .agg #[.int .i64 (5), .int .i64 ((t.at_ : Int))]]) ?_ rfl (rd_eq HE.out ⟨_, rfl, (PtW.nil _ ⟨[], 0, 0⟩ rfl), ?_⟩)
    · obtain ⟨k0, k1⟩ := pair_cells (o := .cells #[.int .i64 C, .int .i64 D] 33) (.int .i64 (5)) (.int .i64 ((t.at_ : Int))) X63.out
      clear c60 c61 f60 f61
      simp [results, Tryz.results24, go_sem, k0, k1]
    · repeat (first | exact HBW.out | refine Below.alloc ?_ (by simp [World.setCell]; omega) _ | refine Below.setCell ?_ (by exact Nat.le_refl _) _ | refine Below.drew ?_)
end Go.Proofs.YtgohhnbdicdenaaGreatDoor.Rf

/- The document's answer for layer expr: Read. Conditions: the source is no longer than a string can be, and has no more than 20000 tokens. -/
namespace Go.Proofs.YtgohhnbdicdenaaGreatDoor.Rf
open Go.ChangeShapes Go.WideShapes Go.ChangeAt Go.RowKit
open Go.Proofs.YtgohhnbdicdenaaGreatDoor.Ex Go.Proofs.YtgohhnbdicdenaaGreatDoor.Sh
open Go.Proofs.YtgohhnbdicdenaaGreatDoor.Tr (str ret_bool ret_int Bytes Nd T joinM roomM)
set_option linter.unusedVariables false
set_option linter.unusedSimpArgs false

set_option maxRecDepth 100000 in
set_option maxHeartbeats 4000000 in
theorem rread_cc (S : ByteArray) (w : World) (h : S.size ≤ maxLen) (l : List Ex.Tok) (hl : Lx.lexM S.toList = .ok l) (hln : l.length ≤ 20000) (x : Pt × Rd) (hx : run (fuelOf l 0) (.lev 1) ⟨l, 0, 0, 0, 0⟩ = some x) (E : List Nd) (N : Nat) (C D : Int) (hP : parseOf l 0 x = (E, N, C, D)) (hC : C ≠ 0) : Calls Tryz.prog 24 #[.string S] w (ReadTo w (readM S.toList)) := by
  have HC : Hid (Calls Tryz.prog 18 #[.string S] (w.alloc (.cells #[.int .i64 0, .int .i64 0] 33)) (Lx.LexGives (w.alloc (.cells #[.int .i64 0, .int .i64 0] 33)) l 0 0)) := Lib.hid (by have := rlex_gives S (w.alloc (.cells #[.int .i64 0, .int .i64 0] 33)) h; rw [hl] at this; exact this)
  have HOK := Lib.hid (okl_of hl hln)
  have HX := Lib.hid hx
  have HP := Lib.hid hP
  have hN : N ≤ 1000000 := by have := parse_nextN (by omega) hx; rw [hP] at this; exact this
  have hPM : parseM l 0 = (E, N, C, D) := by unfold parseM; rw [hx]; exact hP
  have hcd : (C != 0) = true := by simpa using hC
  have HE : Hid (readM S.toList = ([], C, D)) := Lib.hid (by
    have hE0 : E = [] := by
      obtain ⟨p, r⟩ := x
      simp only [parseOf] at hP
      split at hP
      · cases hP; rfl
      · split at hP
        · cases hP; rfl
        · split at hP
          · cases hP; rfl
          · cases hP; exact absurd rfl hC
    unfold readM; rw [hl]; simp only [hPM]; rw [if_neg (fun h => hC h.1), hE0])
  clear hl hx hP hPM
  clear h hC
  go_enter Tryz.func24, Tryz.ntmps24
  go_wp2_with fail
  refine HC.out.mono ?_
  rintro e w1 ⟨v, rfl, ht, hb1⟩
  have HT := Lib.hid ht
  obtain ⟨A, cc, rfl, t1, t2, -⟩ := ht
  unfold maxLen at t2
  have X6 : Hid (w1.heap[w.heap.size]? = some (.cells #[.int .i64 0, .int .i64 0] 33 (0, 0))) := Lib.hid ((hb1.block w.heap.size (by simp)).trans (heap_alloc_new w _))
  have HB1 : Hid (Below w.heap.size w w1) := Lib.hid ((below_new w _).trans (hb1.mono (by simp)))
  have hl1 : w.heap.size < w1.heap.size := lt_of_block X6.out
  clear hb1
  go_wp2_with fail
  refine (rparse_at rfl ((toks_off HT.out).rise (below_new w1 (.cells #[.int .i64 0, .int .i64 0] 33)) (Below.refl _ _)) HOK.out HX.out HP.out).mono ?_
  rintro e w3 ⟨ev, rfl, hpt, hb3⟩
  have HPT := Lib.hid hpt
  have HB3 := Lib.hid hb3
  have X63 : Hid (w3.heap[w.heap.size]? = some (.cells #[.int .i64 0, .int .i64 0] 33 (0, 0))) := Lib.hid ((hb3.block w.heap.size (by simp; omega)).trans (stayA X6.out))
  have HBW : Hid (Below w.heap.size w w3) := Lib.hid ((HB1.out.alloc (by omega) _).trans (hb3.mono (by simp; omega)))
  have hs3 := hb3.size
  simp at hs3
  obtain ⟨⟨Ae, ce, hev, y1, y2, -⟩, -⟩ := hpt
  simp only at hev y1
  subst hev
  unfold maxLen at y2
  clear hb3
  have l03 : w.heap.size < w3.heap.size := by omega
  have c60 : w3.cell? ⟨w.heap.size, 0, none⟩ = some (.int .i64 0) := (cell_at X63.out 0).trans rfl
  have c61 : w3.cell? ⟨w.heap.size, 1, none⟩ = some (.int .i64 0) := (cell_at X63.out 1).trans rfl
  have f60 : w3.frozen? ⟨w.heap.size, 0, none⟩ = false := free_at X63.out 0
  have f61 : w3.frozen? ⟨w.heap.size, 1, none⟩ = false := free_at X63.out 1
  go_wp2_with fail
  go_region
  all_goals go_wp2
  all_goals
    refine bodyPost_ret (v := .tuple #[.slice none 0 0, .agg #[.int .i64 (C), .int .i64 (D)]]) ?_ rfl (rd_eq HE.out ⟨_, rfl, (PtW.nil _ ⟨[], 0, 0⟩ rfl), ?_⟩)
    · obtain ⟨k0, k1⟩ := pair_cells (o := .cells #[.int .i64 C, .int .i64 D] 33) (.int .i64 (C)) (.int .i64 (D)) X63.out
      clear c60 c61 f60 f61
      simp [results, Tryz.results24, go_sem, k0, k1]
    · repeat (first | exact HBW.out | refine Below.alloc ?_ (by simp [World.setCell]; omega) _ | refine Below.setCell ?_ (by exact Nat.le_refl _) _ | refine Below.drew ?_)
end Go.Proofs.YtgohhnbdicdenaaGreatDoor.Rf

/- The document's answer for layer expr: Read. Conditions: the source is no longer than a string can be, and has no more than 20000 tokens. -/
namespace Go.Proofs.YtgohhnbdicdenaaGreatDoor.Rf
open Go.ChangeShapes Go.WideShapes Go.ChangeAt Go.RowKit
open Go.Proofs.YtgohhnbdicdenaaGreatDoor.Ex Go.Proofs.YtgohhnbdicdenaaGreatDoor.Sh
open Go.Proofs.YtgohhnbdicdenaaGreatDoor.Tr (str ret_bool ret_int Bytes Nd T joinM roomM)
set_option linter.unusedVariables false
set_option linter.unusedSimpArgs false

set_option maxRecDepth 100000 in
set_option maxHeartbeats 4000000 in
theorem rread_cd (S : ByteArray) (w : World) (h : S.size ≤ maxLen) (l : List Ex.Tok) (hl : Lx.lexM S.toList = .ok l) (hln : l.length ≤ 20000) (x : Pt × Rd) (hx : run (fuelOf l 0) (.lev 1) ⟨l, 0, 0, 0, 0⟩ = some x) (E : List Nd) (N : Nat) (C D : Int) (hP : parseOf l 0 x = (E, N, C, D)) (hC : C = 0) (hlt : ¬ N < l.length) : Calls Tryz.prog 24 #[.string S] w (ReadTo w (readM S.toList)) := by
  have HC : Hid (Calls Tryz.prog 18 #[.string S] (w.alloc (.cells #[.int .i64 0, .int .i64 0] 33)) (Lx.LexGives (w.alloc (.cells #[.int .i64 0, .int .i64 0] 33)) l 0 0)) := Lib.hid (by have := rlex_gives S (w.alloc (.cells #[.int .i64 0, .int .i64 0] 33)) h; rw [hl] at this; exact this)
  have HOK := Lib.hid (okl_of hl hln)
  have HX := Lib.hid hx
  have HP := Lib.hid hP
  have hN : N ≤ 1000000 := by have := parse_nextN (by omega) hx; rw [hP] at this; exact this
  have hPM : parseM l 0 = (E, N, C, D) := by unfold parseM; rw [hx]; exact hP
  have hcd : (C != 0) = false := by rw [hC]; rfl
  have hnd : decide ((N : Int) < (l.length : Int)) = false := by rw [decide_eq_false_iff_not]; omega
  have hnd2 : decide (N < l.length) = false := by rw [decide_eq_false_iff_not]; exact hlt
  have HE : Hid (readM S.toList = (E, 0, 0)) := Lib.hid (by
    have hD : D = 0 := by
      obtain ⟨p, r⟩ := x
      simp only [parseOf] at hP
      split at hP
      · cases hP; exact absurd hC (by assumption)
      · split at hP
        · cases hP; exact absurd hC (by decide)
        · split at hP
          · cases hP; exact absurd hC (by decide)
          · cases hP; rfl
    unfold readM; rw [hl]; simp only [hPM]; rw [if_neg (fun h => hlt h.2), hC, hD])
  clear hl hx hP hPM
  clear h hC
  go_enter Tryz.func24, Tryz.ntmps24
  go_wp2_with fail
  refine HC.out.mono ?_
  rintro e w1 ⟨v, rfl, ht, hb1⟩
  have HT := Lib.hid ht
  obtain ⟨A, cc, rfl, t1, t2, -⟩ := ht
  unfold maxLen at t2
  have X6 : Hid (w1.heap[w.heap.size]? = some (.cells #[.int .i64 0, .int .i64 0] 33 (0, 0))) := Lib.hid ((hb1.block w.heap.size (by simp)).trans (heap_alloc_new w _))
  have HB1 : Hid (Below w.heap.size w w1) := Lib.hid ((below_new w _).trans (hb1.mono (by simp)))
  have hl1 : w.heap.size < w1.heap.size := lt_of_block X6.out
  clear hb1
  go_wp2_with fail
  refine (rparse_at rfl ((toks_off HT.out).rise (below_new w1 (.cells #[.int .i64 0, .int .i64 0] 33)) (Below.refl _ _)) HOK.out HX.out HP.out).mono ?_
  rintro e w3 ⟨ev, rfl, hpt, hb3⟩
  have HPT := Lib.hid hpt
  have HB3 := Lib.hid hb3
  have X63 : Hid (w3.heap[w.heap.size]? = some (.cells #[.int .i64 0, .int .i64 0] 33 (0, 0))) := Lib.hid ((hb3.block w.heap.size (by simp; omega)).trans (stayA X6.out))
  have HBW : Hid (Below w.heap.size w w3) := Lib.hid ((HB1.out.alloc (by omega) _).trans (hb3.mono (by simp; omega)))
  have hs3 := hb3.size
  simp at hs3
  obtain ⟨⟨Ae, ce, hev, y1, y2, -⟩, -⟩ := hpt
  simp only at hev y1
  subst hev
  unfold maxLen at y2
  clear hb3
  have l03 : w.heap.size < w3.heap.size := by omega
  have c60 : w3.cell? ⟨w.heap.size, 0, none⟩ = some (.int .i64 0) := (cell_at X63.out 0).trans rfl
  have c61 : w3.cell? ⟨w.heap.size, 1, none⟩ = some (.int .i64 0) := (cell_at X63.out 1).trans rfl
  have f60 : w3.frozen? ⟨w.heap.size, 0, none⟩ = false := free_at X63.out 0
  have f61 : w3.frozen? ⟨w.heap.size, 1, none⟩ = false := free_at X63.out 1
  go_wp2
  all_goals
    refine bodyPost_ret (v := .tuple #[.slice Ae E.length ce, .agg #[.int .i64 (0), .int .i64 (0)]]) ?_ rfl (rd_eq HE.out ⟨_, rfl, (by first | exact (((HPT.out.set X63.out (by decide) _).set (setObj_heap (v := .int .i64 0) X63.out (k := 0) (by simp)) (by decide) _).below (below_new _ _)) | exact (((HPT.out.set X63.out (by decide) _).set (setObj_heap (v := .int .i64 0) X63.out (k := 0) (by simp)) (by decide) _).below (below_new _ _)).drew), ?_⟩)
    · obtain ⟨k0, k1⟩ := pair_cells (o := .cells #[.int .i64 C, .int .i64 D] 33) (.int .i64 (0)) (.int .i64 (0)) X63.out
      clear c60 c61 f60 f61
      simp [results, Tryz.results24, go_sem, k0, k1]
    · repeat (first | exact HBW.out | refine Below.alloc ?_ (by simp [World.setCell]; omega) _ | refine Below.setCell ?_ (by exact Nat.le_refl _) _ | refine Below.drew ?_)
end Go.Proofs.YtgohhnbdicdenaaGreatDoor.Rf

/- The document's answer for layer expr: Read. Conditions: the source is no longer than a string can be, and has no more than 20000 tokens. -/
namespace Go.Proofs.YtgohhnbdicdenaaGreatDoor.Rf
open Go.ChangeShapes Go.WideShapes Go.ChangeAt Go.RowKit
open Go.Proofs.YtgohhnbdicdenaaGreatDoor.Ex Go.Proofs.YtgohhnbdicdenaaGreatDoor.Sh
open Go.Proofs.YtgohhnbdicdenaaGreatDoor.Tr (str ret_bool ret_int Bytes Nd T joinM roomM)
set_option linter.unusedVariables false
set_option linter.unusedSimpArgs false

theorem rread_any (S : ByteArray) (w : World) (h : S.size ≤ maxLen) (hn : ∀ l, Lx.lexM S.toList = .ok l → l.length ≤ 20000) : Calls Tryz.prog 24 #[.string S] w (ReadTo w (readM S.toList)) := by
  cases hl : Lx.lexM S.toList with
  | bad c a =>
    refine rread_ca S w h c a hl ?_
    by_cases hs : 100000 < S.toList.length
    · unfold Lx.lexM at hl; rw [if_pos hs] at hl; cases hl; decide
    · exact (Lx.lexM_code _ (by omega) c a hl).1
  | ok l =>
    obtain ⟨x, hx⟩ := parse_some hl
    obtain ⟨⟨E, N, C, D⟩, hP⟩ : ∃ y, parseOf l 0 x = y := ⟨_, rfl⟩
    by_cases hC : C = 0
    · by_cases hlt : N < l.length
      · exact rread_cb S w h l hl (hn l hl) x hx E N C D hP hC hlt
      · exact rread_cd S w h l hl (hn l hl) x hx E N C D hP hC hlt
    · exact rread_cc S w h l hl (hn l hl) x hx E N C D hP hC
end Go.Proofs.YtgohhnbdicdenaaGreatDoor.Rf

/- The function live of the statements of layer show answers true and leaves what was there as it was. Conditions: the tables lie in memory. -/
namespace Go.Proofs.YtgohhnbdicdenaaGreatDoor.Sh
open Go.ChangeShapes Go.WideShapes Go.ChangeAt Go.RowKit
open Go.Proofs.YtgohhnbdicdenaaGreatDoor.Ex (readM PtW ReadTo)
open Go.Proofs.YtgohhnbdicdenaaGreatDoor.Tr (str ret_bool ret_int Bytes Nd T Nodes May tree kidsM mkL mkT fitsB argsL unaryB binaryB ndCells mayB Short root normM normB NodesPost)
set_option linter.unusedVariables false
set_option linter.unusedSimpArgs false

theorem norm_eqN {e : List Nd} (h : May e) : normB e = normM e := by
  have hp := h.pos
  unfold normB Tr.subM
  rw [if_pos ⟨Tr.may_yes h, by omega, by omega⟩, show ((e.length : Int) - 1).toNat = e.length - 1 by omega]; rfl
theorem short_norm {e : List Nd} (h : May e) (hs : Short e) : Short (normM e) := by
  intro x hx
  have hl : x.lab ∈ (root e).labs := by rw [← Tr.flat_labs (root e) 0]; exact List.mem_map_of_mem hx
  have hp := h.pos
  unfold root at hl
  rw [Tr.tree_labs h.ahead _ (by omega), List.mem_map] at hl
  obtain ⟨j, hj, he⟩ := hl
  have := Tr.desc_le h.ahead _ (by omega) j hj
  have hg := Tr.of_getD (e := e) (i := j) (by omega)
  have hn : x.name = (e.getD j default).name := (congrArg Tr.Lab.name he).symm
  rw [hn]; exact hs _ (List.mem_of_getElem? hg)
theorem short_named {t : T} (hn : namedT t = true) (b : Nat) : Short (t.flat b) := by
  intro x hx
  rw [namedT_labs, List.all_eq_true] at hn
  have := hn x.lab (by rw [← Tr.flat_labs t b]; exact List.mem_map_of_mem hx)
  have h2 : nmB x.name = true := this
  unfold nmB at h2
  rw [Bool.or_eq_true] at h2
  unfold maxLen
  rcases h2 with h2 | h2
  · have : x.name = [] := by simpa using h2
    rw [this]; simp
  · have := Lx.name_len _ h2; omega
/-- What is read of a source that is not long, and has no fault. -/
theorem rread_at {S : ByteArray} {E : List Nd} {C A : Int} {w : World} (t : readM S.toList = (E, C, A)) (hn : S.size ≤ 20000 ∨ S.size ≤ maxLen ∧ ∀ l, Lx.lexM S.toList = .ok l → l.length ≤ 20000) :
    Calls Tryz.prog 24 #[.string S] w (fun e w' => ∃ ev, e = .returned (.tuple #[ev, .agg #[.int .i64 C, .int .i64 A]]) ∧ PtW w' (ev, ⟨E, 0, 0⟩) ∧ Below w.heap.size w w') := by
  have h2 : S.size ≤ maxLen ∧ ∀ l, Lx.lexM S.toList = .ok l → l.length ≤ 20000 := by
    rcases hn with hn | hn
    · refine ⟨by unfold maxLen; omega, fun l hl => ?_⟩
      have hc := (Lx.lexM_chain S.toList (by rw [Lx.toList_len]; omega)).1
      rw [hl] at hc
      have := Lx.chain_len hc (Nat.zero_le _)
      rw [Lx.toList_len] at this
      have e : (Lx.Res.ok l).toks.length = l.length := rfl
      omega
    · exact hn
  have := Rf.rread_any S w h2.1 h2.2
  rw [t] at this; exact this
def sL : Bytes := [97, 32, 45, 32, 40, 98, 32, 45, 32, 99, 41, 32, 45, 62, 32, 105, 102, 32, 102, 40, 97, 44, 32, 50, 41, 32, 116, 104, 101, 110, 32, 110, 111, 116, 32, 40, 98, 32, 97, 110, 100, 32, 99, 41, 32, 101, 108, 115, 101, 32, 116, 114, 117, 101]
def tL : Bytes := [97, 32, 45, 32, 40, 32, 98, 32, 45, 32, 99, 32, 41, 32, 45, 62, 32, 40, 32, 105, 102, 32, 102, 32, 40, 32, 97, 32, 44, 32, 50, 32, 41, 32, 116, 104, 101, 110, 32, 110, 111, 116, 32, 40, 32, 98, 32, 97, 110, 100, 32, 99, 32, 41, 32, 101, 108, 115, 101, 32, 116, 114, 117, 101, 32, 41]
def eL : List Nd := (readM sL).1
theorem readL : readM sL = (eL, 0, 0) := by
  have h : (readM sL).2 = (0, 0) := by decide +kernel
  unfold eL
  rw [← h]
theorem rootL : textT (root eL) = tL := by decide +kernel
theorem showL : smayB eL = true ∧ showM eL = tL ∧ Short eL := by
  obtain ⟨t, ht, hn, h1, h2, h3⟩ := read_show (s := sL) (by decide) (by rw [readL])
  rw [readL] at h3
  have he : eL = t.flat 0 := (Prod.mk.inj h3).1
  obtain ⟨h4, h5, h6⟩ := flat_show ht hn (by omega) h2
  refine ⟨by rw [he]; exact h5, ?_, by rw [he]; exact short_named hn 0⟩
  rw [← rootL]
  unfold showM
  rw [he, if_pos h5]
def eA : List Nd := [⟨3, -1, -1, -1, 0, [65]⟩]
theorem showA : showM eA = [] := show_no (by
  have : eA.all showB = false := by decide +kernel
  unfold smayB; rw [this]; rfl)
theorem shortA : Short eA := fun x hx => by simp [eA] at hx; subst hx; unfold maxLen; simp
theorem show_lit {v : Value} {e : List Nd} {w : World} {s : Bytes} (hv : Nodes w v e) (hs : Short e) (hw : ShAt w) (h : showM e = s) : Calls Tryz.prog 10 #[v] w fun r w' => r = .returned (.string (str s)) ∧ Below w.heap.size w w' := by
  rw [← h]; exact show_any v e w hv hs hw
theorem smay_lit {v : Value} {e : List Nd} {w : World} {b : Bool} (hv : Nodes w v e) (hs : Short e) (h : smayB e = b) : Calls Tryz.prog 12 #[v] w fun r w' => r = .returned (.bool b) ∧ Below w.heap.size w w' := by
  rw [← h]; exact smay_any v e w hv hs
theorem op_lit {o : Int} {s : Bytes} {w : World} (hs : ShAt w) (h : opText o = s) : Calls Tryz.prog 14 #[.int .i64 o] w fun e w' => e = .returned (.string (str s)) ∧ Below w.heap.size w w' := by
  rw [← h]; exact op_any o w hs.sg
theorem level_lit {o : Int} {l : Int} {w : World} (hs : ShAt w) (h : levM o = l) : Calls Tryz.prog 16 #[.int .i64 o] w fun e w' => e = .returned (.int .i64 l) ∧ Below w.heap.size w w' := by
  rw [← h]; exact level_any o w hs.sg
theorem nodesA (w : World) {N : Nat} (hN : N = w.heap.size) : Nodes (w.alloc (.cells #[.int .i64 3, .int .i64 (-1), .int .i64 (-1), .int .i64 (-1), .int .i64 0, .string ⟨#[65]⟩] 58)) (.slice (some ⟨N, 0, none⟩) 1 1) eA := by
  subst hN
  refine ⟨some ⟨w.heap.size, 0, none⟩, 1, rfl, by decide, by unfold maxLen; omega, fun i x hi => ?_⟩
  have h := heap_alloc_new w (.cells #[.int .i64 3, .int .i64 (-1), .int .i64 (-1), .int .i64 (-1), .int .i64 0, .string ⟨#[65]⟩] 58)
  match i, hi with
  | 0, hi =>
    have hi : (⟨3, -1, -1, -1, 0, [65]⟩ : Nd) = x := by simpa [eA] using hi
    subst hi
    refine ⟨w.heap.size, 0, rfl, by simp, ?_, ?_, ?_, ?_, ?_, ?_⟩ <;> (simp only [World.cell?, h] <;> rfl)
  | i + 1, hi => simp [eA] at hi
set_option maxRecDepth 100000 in
set_option maxHeartbeats 4000000 in
theorem live_any (w : World) (hw : ShAt w) : Calls Tryz.prog 9 #[] w fun r w' => r = .returned (.bool true) ∧ Below w.heap.size w w' := by
  have HW := Lib.hid hw
  clear hw
  have k5 : (str ([] : Bytes)).toList.isEmpty = true := by rw [Tr.str_toList]; rfl
  have k7 : ((str [61, 62]).toList == [61, 62]) = true := by rw [Tr.str_toList]; rfl
  have k6 := Lib.hid (show readM (str sL).toList = (eL, 0, 0) from (congrArg readM (Tr.str_toList sL)).trans readL)
  go_enter Tryz.func9, Tryz.ntmps9
  go_wp2_with fail
  refine (rread_at (S := str sL) k6.out (.inl (by decide))).mono ?_
  rintro r w1 ⟨v1, rfl, hp1, hb1⟩
  have HP1 := Lib.hid hp1.1
  have HB1 := Lib.hid hb1
  clear hp1 hb1
  obtain ⟨A, c, hv1, y1, y2, _⟩ := HP1.out
  simp only at hv1
  subst hv1
  have HN1 := Lib.hid (HP1.out.below (Tr.below_new w1 (.cells #[.int .i64 0, .int .i64 0] 33)) (Nat.le_refl _))
  have HB1' := Lib.hid (HB1.out.alloc HB1.out.size (.cells #[.int .i64 0, .int .i64 0] 33))
  go_wp2_with fail
  refine (show_lit HN1.out showL.2.2 (HW.out.below HB1'.out) showL.2.1).mono ?_
  rintro r w2 ⟨rfl, hb2⟩
  have HN2 := Lib.hid (HN1.out.below hb2 (Nat.le_refl _))
  have HB2 := Lib.hid (HB1'.out.trans (hb2.mono HB1'.out.size))
  clear hb2
  have k0 : ((str tL).toList == [97, 32, 45, 32, 40, 32, 98, 32, 45, 32, 99, 32, 41, 32, 45, 62, 32, 40, 32, 105, 102, 32, 102, 32, 40, 32, 97, 32, 44, 32, 50, 32, 41, 32, 116, 104, 101, 110, 32, 110, 111, 116, 32, 40, 32, 98, 32, 97, 110, 100, 32, 99, 32, 41, 32, 101, 108, 115, 101, 32, 116, 114, 117, 101, 32, 41]) = true := by rw [Tr.str_toList]; rfl
  go_wp2_with fail
  refine (smay_lit HN2.out showL.2.2 showL.1).mono ?_
  rintro r w3 ⟨rfl, hb3⟩
  have HB3 := Lib.hid (HB2.out.trans (hb3.mono HB2.out.size))
  clear hb3
  go_wp2_with fail
  refine (op_lit (s := [61, 62]) (HW.out.below HB3.out) rfl).mono ?_
  rintro r w4 ⟨rfl, hb4⟩
  have HB4 := Lib.hid (HB3.out.trans (hb4.mono HB3.out.size))
  clear hb4
  go_wp2_with fail
  refine (level_lit (l := 0) (HW.out.below HB4.out) (by decide)).mono ?_
  rintro r w5 ⟨rfl, hb5⟩
  have HB5 := Lib.hid (HB4.out.trans (hb5.mono HB4.out.size))
  clear hb5
  go_wp2_with fail
  refine (level_lit (l := -1) (HW.out.below HB5.out) (by decide)).mono ?_
  rintro r w6 ⟨rfl, hb6⟩
  have HB6 := Lib.hid (HB5.out.trans (hb6.mono HB5.out.size))
  have HB6' := Lib.hid (HB6.out.alloc HB6.out.size (.cells #[.int .i64 3, .int .i64 (-1), .int .i64 (-1), .int .i64 (-1), .int .i64 0, .string ⟨#[65]⟩] 58))
  clear hb6
  go_wp2_with fail
  refine (show_lit (nodesA w6 rfl) shortA (HW.out.below HB6'.out) showA).mono ?_
  rintro r w7 ⟨rfl, hb7⟩
  have HB7 := Lib.hid (HB6'.out.trans (hb7.mono HB6'.out.size))
  clear hb7
  go_wp2
  go_ret
  exact ⟨rfl, HB7.out⟩
end Go.Proofs.YtgohhnbdicdenaaGreatDoor.Sh

/- What the listed variables are worth to layer show. Conditions: they read as their own texts lay them. -/
namespace Go.Proofs.YtgohhnbdicdenaaGreatDoor.Sh
open Go.ChangeShapes Go.WideShapes Go.ChangeAt Go.WideMaps Go.WideElems Go.RowKit
open Go.Proofs.YtgohhnbdicdenaaGreatDoor.Tr (str ret_bool ret_int Bytes)
set_option maxRecDepth 100000
set_option linter.unusedVariables false
set_option linter.unusedSimpArgs false
def laid4 : List (String × DataW Unit) := [("math/bits.deBruijn32tab", Rows.laid_math_bits_deBruijn32tab), ("math/bits.deBruijn64tab", Rows.laid_math_bits_deBruijn64tab), ("internal/strconv.uint64pow10", Rows.laid_internal_strconv_uint64pow10), ("bailment/show.signs", Rows.laid_bailment_show_signs)]
theorem gPow : Tryz.prog.globalNamed "internal/strconv.uint64pow10" = some 2 := by kernel_rfl
theorem gSig : Tryz.prog.globalNamed "bailment/show.signs" = some 0 := by kernel_rfl
def sigData : List (DataW Unit) := (List.range 28).map (fun (k : Nat) => .agg [.lit (.string (opText (k : Int))), .lit (.int .i64 (levM (k : Int)))])
theorem sig_eq : Rows.laid_bailment_show_signs = DataW.agg sigData := by kernel_rfl
theorem cells88 : Tryz.prog.cellsOf 64 = 2 := by kernel_rfl
theorem cells110 : Tryz.prog.cellsOf 93 = 56 := by kernel_rfl
theorem cells9' : Tryz.prog.cellsOf 9 = 1 := by kernel_rfl
theorem cells3' : Tryz.prog.cellsOf 3 = 1 := by kernel_rfl
theorem str_data (s : ByteArray) (l : Bytes) (h : s.data.toList = l) : s = str l := by
  subst h
  obtain ⟨⟨l⟩⟩ := s
  rfl
theorem sig_cells {enc : TypeId × Value → Unit} {w : World} {base : Nat} {sp : Nat → Bool} {held : Bool} {fuel : Nat} {cs : List Value} {p : List MemPlace}
    (h : DataW.trod enc Tryz.prog w base sp held fuel 93 cs = some (Rows.laid_bailment_show_signs, p)) (k : Nat) (hk : k < 28) :
    cs[k * 2]? = some (.string (str (opText (k : Int)))) ∧ cs[k * 2 + 1]? = some (.int .i64 (levM (k : Int))) := by
  rw [sig_eq] at h
  cases fuel with
  | zero => simp [DataW.trod] at h
  | succ fuel =>
    simp only [DataW.trod, Tryz.underlying93, cells88, cells110] at h
    split at h
    · rename_i hl
      obtain ⟨xs, hm, hx⟩ := Option.map_eq_some_iff.1 h
      have hxs : xs.map (·.1) = sigData := by
        have := congrArg Prod.fst hx
        simpa using this
      obtain ⟨b, hb, hf⟩ := Lib.mapM_at hm k k (by simp [hk])
      have h2 : (xs.map (·.1))[k]? = some b.1 := by simp [hb]
      rw [hxs] at h2
      simp only [sigData, List.getElem?_map, List.getElem?_range hk, Option.map_some, Option.some.injEq] at h2
      obtain ⟨ys, m, _, hbv, hlen, hyl, hfi⟩ := DataW.trod_struct Tryz.underlying64 hf
      have hy2 : ys.length = 2 := hyl
      rw [hbv] at h2
      simp only [DataW.agg.injEq] at h2
      generalize hr : (cs.drop (k * 2)).take 2 = r at hlen hfi
      rw [cells88] at hlen
      match ys, hy2, r, hlen with
      | [y0, y1], _, [v0, v1], _ =>
        have g0 : DataW.trod enc Tryz.prog w base sp held m 9 [v0] = some y0 := by have := hfi 0 _ rfl; simpa [cells9', cells3'] using this
        have g1 : DataW.trod enc Tryz.prog w base sp held m 3 [v1] = some y1 := by have := hfi 1 _ rfl; simpa [cells9', cells3'] using this
        obtain ⟨s, e0, q0, _⟩ := DataW.trod_string Tryz.underlying9 g0
        obtain ⟨n, e1, q1, _⟩ := DataW.trod_int Tryz.underlying3 g1
        subst q0; subst q1
        simp only [List.cons.injEq, and_true] at e0 e1
        subst e0; subst e1
        simp only [List.map_cons, List.map_nil, List.cons.injEq, DataW.lit.injEq, Lit.string.injEq, Lit.int.injEq, true_and, and_true] at h2
        have c0 : cs[k * 2]? = some (.string s) := by
          have := congrArg (·[0]?) hr
          simpa [List.getElem?_take, List.getElem?_drop] using this
        have c1 : cs[k * 2 + 1]? = some (.int .i64 n) := by
          have := congrArg (·[1]?) hr
          simpa [List.getElem?_take, List.getElem?_drop] using this
        rw [c0, c1, h2.2, str_data s _ h2.1.symm]
        exact ⟨rfl, rfl⟩
    · cases h
theorem pow_eq : (Rows.laid_internal_strconv_uint64pow10 : DataW Unit) = Lib.tabData .u64 Lib.pow10Tab := by kernel_rfl
theorem sh_of {W : World} (h : laidMetH Tryz.prog laid4 W) : ShAt W := by
  rw [MakeChecks.laidMetH_plain _ _ _ (by kernel_rfl)] at h
  obtain ⟨ps, ⟨g0, t0, cs0, f0, p0, q0, hg0, ht0, hv0, hd0, ⟨g1, t1, cs1, f1, p1, q1, hg1, ht1, hv1, hd1, ⟨g2, t2, cs2, f2, p2, q2, hg2, ht2, hv2, hd2, ⟨g3, t3, cs3, f3, p3, q3, hg3, ht3, hv3, hd3, _, _⟩, _⟩, _⟩, _⟩, _, _⟩ := h
  clear hd0 hd1
  obtain rfl := Option.some.inj (gPow.symm.trans hg2)
  obtain rfl := Option.some.inj (gSig.symm.trans hg3)
  have hT : (Tryz.prog.globals[2]?).map (·.type) = some 155 := by kernel_rfl
  obtain rfl := Option.some.inj (hT.symm.trans ht2)
  have tS : (Tryz.prog.globals[0]?).map (·.type) = some 93 := by kernel_rfl
  obtain rfl := Option.some.inj (tS.symm.trans ht3)
  refine ⟨?_, ?_⟩
  · have hc : ∀ i, W.cell? ⟨0, i, none⟩ = cs3.toList[i]? := fun i => by
      have := World.var?_cell hg3 hv3 i
      rw [this]; simp
    have key := fun k hk => sig_cells hd3 k hk
    refine ⟨?_, fun k hk => ⟨(hc _).trans (key k hk).1, (hc _).trans (key k hk).2⟩⟩
    have h0 := (hc 0).trans (key 0 (by omega)).1
    rcases Nat.lt_or_ge 0 W.heap.size with h | h
    · exact h
    · simp [World.cell?, Array.getElem?_eq_none h] at h0
  · rw [pow_eq] at hd2
    have := Lib.cells_of_tab Tryz.underlying155 Tryz.underlying147 (by kernel_rfl) (by kernel_rfl) hd2
    unfold Lib.TabIs
    rw [hv2, ← this]
end Go.Proofs.YtgohhnbdicdenaaGreatDoor.Sh

/- The row's last step for a statement that answers one bool: what lay there before the call is as it was, new memory may have come. Conditions: none. -/
namespace Go.Proofs.YtgohhnbdicdenaaGreatDoor.Lx
open Go.RowKit Go.WideShapes Go.ChangeShapes
theorem post_kept {H : Type} {enc : TypeId × Value → H} {P : Program} {f : Func} {s : ChangeSpec} {apart : Bool} {W W' : World} {args : Array Value} {v : Value} {ds gs : List (DataW H)} {before pa pv : List MemPlace}
    (hW : DataW.Whole enc P f.params.toList s.vars apart W args.toList ds gs before)
    (hres : ∀ b, DataW.TrodAll enc P W' b (fun _ => false) false f.resultTypes.toList (v.resultList f.resultTypes.size) (s.fn H (ds ++ gs)).results [])
    (hargs : DataW.TrodAll enc P W' 0 (fun b => decide (b < W.heap.size)) true f.params.toList args.toList (s.fn H (ds ++ gs)).args pa)
    (hvars : DataW.TrodVars enc P W' (fun b => decide (b < W.heap.size)) s.vars (s.fn H (ds ++ gs)).vars pv)
    (hb : Below W.heap.size W W') : s.post enc P f apart true false false W args v W' :=
  ⟨ds, gs, before, [], pa, pv, hW, hres _, hargs, hvars, hb.frame _, fun h => nomatch h⟩
end Go.Proofs.YtgohhnbdicdenaaGreatDoor.Lx

