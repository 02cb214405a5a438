/- The document's answer for layer expr: Read. Conditions: the source is no longer than a string can be, and has no more than 20000 tokens. -/
import Derived.Test.YtdebhngpgabglaaGreatKb23
import Derived.Test.YtdebhngpgabglaaGreatKb17
import Derived.Test.YtdebhngpgabglaaGreatKa10
import Derived.Test.YtdebhngpgabglaaGreatRows
import Derived.ProofKit
import Derived.LaidMore
import Derived.OpenShut
import Derived.Stop.Joined
import Derived.Below
import Derived.ChangeSame
set_option linter.unusedVariables false
set_option linter.unusedSimpArgs false
namespace Go.Proofs.YtdebhngpgabglaaGreat.Rf
open Go.ChangeShapes Go.WideShapes Go.ChangeAt Go.RowKit
open Go.Proofs.YtdebhngpgabglaaGreat.Ex Go.Proofs.YtdebhngpgabglaaGreat.Sh
open Go.Proofs.YtdebhngpgabglaaGreat.Tr (str ret_bool ret_int Bytes Nd T joinM roomM)
set_option maxRecDepth 100000 in
set_option maxHeartbeats 4000000 in
theorem rread_cb (S : ByteArray) (w : World) (h : S.size ≤ maxLen) (l : List Ex.Tok) (hl : Lx.lexM S.toList = .ok l) (hln : l.length ≤ 20000) (x : Pt × Rd) (hx : run (fuelOf l 0) (.lev 1) ⟨l, 0, 0, 0, 0⟩ = some x) (E : List Nd) (N : Nat) (C D : Int) (hP : parseOf l 0 x = (E, N, C, D)) (hC : C = 0) (hlt : N < l.length) : Calls Tryz.prog 15 #[.string S] w (ReadTo w (readM S.toList)) := by
 have HC : Hid (Calls Tryz.prog 28 #[.string S] (w.alloc (.cells #[.int .i64 0, .int .i64 0] 46)) (Lx.LexGives (w.alloc (.cells #[.int .i64 0, .int .i64 0] 46)) l 0 0)) := Lib.hid (by have := rlex_gives S (w.alloc (.cells #[.int .i64 0, .int .i64 0] 46)) h; rw [hl] at this; exact this)
 have HOK := Lib.hid (okl_of hl hln)
 have HX := Lib.hid hx
 have HP := Lib.hid hP
 have hN : N ≤ 1000000 := by have := parse_nextN (by omega) hx; rw [hP] at this; exact this
 have hPM : parseM l 0 = (E, N, C, D) := by unfold parseM; rw [hx]; exact hP
 have hcd : (C != 0) = false := by rw [hC]; rfl
 have hnd : decide ((N : Int) < (l.length : Int)) = true := by rw [decide_eq_true_iff]; omega
 have hnd2 : decide (N < l.length) = true := by rw [decide_eq_true_iff]; exact hlt
 have HE : Hid (readM S.toList = ([], 5, atM l N)) := Lib.hid (by
  unfold readM; rw [hl]; simp only [hPM]; rw [if_pos ⟨hC, hlt⟩])
 clear hl hx hP hPM
 clear h hC
 go_enter Tryz.func15, Tryz.ntmps15
 go_wp2_with fail
 refine HC.out.mono ?_
 rintro e w1 ⟨v, rfl, ht, hb1⟩
 have HT := Lib.hid ht
 obtain ⟨A, cc, rfl, t1, t2, -⟩ := ht
 unfold maxLen at t2
 have X6 : Hid (w1.heap[w.heap.size]? = some (.cells #[.int .i64 0, .int .i64 0] 46 (0, 0))) := Lib.hid ((hb1.block w.heap.size (by simp)).trans (heap_alloc_new w _))
 have HB1 : Hid (Below w.heap.size w w1) := Lib.hid ((below_new w _).trans (hb1.mono (by simp)))
 have hl1 : w.heap.size < w1.heap.size := lt_of_block X6.out
 clear hb1
 go_wp2_with fail
 refine (rparse_at rfl ((toks_off HT.out).rise (below_new w1 (.cells #[.int .i64 0, .int .i64 0] 46)) (Below.refl _ _)) HOK.out HX.out HP.out).mono ?_
 rintro e w3 ⟨ev, rfl, hpt, hb3⟩
 have HPT := Lib.hid hpt
 have HB3 := Lib.hid hb3
 have X63 : Hid (w3.heap[w.heap.size]? = some (.cells #[.int .i64 0, .int .i64 0] 46 (0, 0))) := Lib.hid ((hb3.block w.heap.size (by simp; omega)).trans (stayA X6.out))
 have HBW : Hid (Below w.heap.size w w3) := Lib.hid ((HB1.out.alloc (by omega) _).trans (hb3.mono (by simp; omega)))
 have hs3 := hb3.size
 simp at hs3
 obtain ⟨⟨Ae, ce, hev, y1, y2, -⟩, -⟩ := hpt
 simp only at hev y1
 subst hev
 unfold maxLen at y2
 clear hb3
 have l03 : w.heap.size < w3.heap.size := by omega
 have c60 : w3.cell? ⟨w.heap.size, 0, none⟩ = some (.int .i64 0) := (cell_at X63.out 0).trans rfl
 have c61 : w3.cell? ⟨w.heap.size, 1, none⟩ = some (.int .i64 0) := (cell_at X63.out 1).trans rfl
 have f60 : w3.frozen? ⟨w.heap.size, 0, none⟩ = false := free_at X63.out 0
 have f61 : w3.frozen? ⟨w.heap.size, 1, none⟩ = false := free_at X63.out 1
 obtain ⟨t, ht⟩ : ∃ t, l[N]? = some t := ⟨_, List.getElem?_eq_getElem hlt⟩
 have HAM : Hid (atM l N = (t.at_ : Int)) := Lib.hid (by unfold atM; rw [ht])
 rw [HAM.out] at HE
 have htk := (toks_off HT.out).rise (below_new w1 (.cells #[.int .i64 0, .int .i64 0] 46)) (HB3.out)
 obtain ⟨A', c', e1, _, _, e4⟩ := htk
 obtain ⟨g, f1, f2, f3, fa, fb, fc⟩ := e4 N t ht
 go_wp2_with fail
 go_region
 all_goals go_wp2
 all_goals
  refine bodyPost_ret (v := .tuple #[.slice none 0 0, .agg #[.int .i64 (5), .int .i64 ((t.at_ : Int))]]) ?_ rfl (rd_eq HE.out ⟨_, rfl, (PtW.nil _ ⟨[], 0, 0⟩ rfl), ?_⟩)
  · obtain ⟨k0, k1⟩ := pair_cells (o := .cells #[.int .i64 C, .int .i64 D] 46) (.int .i64 (5)) (.int .i64 ((t.at_ : Int))) X63.out
    clear c60 c61 f60 f61
    simp [results, Tryz.results15, go_sem, k0, k1]
  · repeat (first | exact HBW.out | refine Below.alloc ?_ (by simp [World.setCell]; omega) _ | refine Below.setCell ?_ (by exact Nat.le_refl _) _ | refine Below.drew ?_)
end Go.Proofs.YtdebhngpgabglaaGreat.Rf
namespace Go.Proofs.YtdebhngpgabglaaGreat.Rf
open Go.ChangeShapes Go.WideShapes Go.ChangeAt Go.RowKit
open Go.Proofs.YtdebhngpgabglaaGreat.Ex Go.Proofs.YtdebhngpgabglaaGreat.Sh
open Go.Proofs.YtdebhngpgabglaaGreat.Tr (str ret_bool ret_int Bytes Nd T joinM roomM)
set_option maxRecDepth 100000 in
set_option maxHeartbeats 4000000 in
theorem rread_cc (S : ByteArray) (w : World) (h : S.size ≤ maxLen) (l : List Ex.Tok) (hl : Lx.lexM S.toList = .ok l) (hln : l.length ≤ 20000) (x : Pt × Rd) (hx : run (fuelOf l 0) (.lev 1) ⟨l, 0, 0, 0, 0⟩ = some x) (E : List Nd) (N : Nat) (C D : Int) (hP : parseOf l 0 x = (E, N, C, D)) (hC : C ≠ 0) : Calls Tryz.prog 15 #[.string S] w (ReadTo w (readM S.toList)) := by
 have HC : Hid (Calls Tryz.prog 28 #[.string S] (w.alloc (.cells #[.int .i64 0, .int .i64 0] 46)) (Lx.LexGives (w.alloc (.cells #[.int .i64 0, .int .i64 0] 46)) l 0 0)) := Lib.hid (by have := rlex_gives S (w.alloc (.cells #[.int .i64 0, .int .i64 0] 46)) h; rw [hl] at this; exact this)
 have HOK := Lib.hid (okl_of hl hln)
 have HX := Lib.hid hx
 have HP := Lib.hid hP
 have hN : N ≤ 1000000 := by have := parse_nextN (by omega) hx; rw [hP] at this; exact this
 have hPM : parseM l 0 = (E, N, C, D) := by unfold parseM; rw [hx]; exact hP
 have hcd : (C != 0) = true := by simpa using hC
 have HE : Hid (readM S.toList = ([], C, D)) := Lib.hid (by
  have hE0 : E = [] := by
   obtain ⟨p, r⟩ := x
   simp only [parseOf] at hP
   split at hP
   · cases hP; rfl
   · split at hP
     · cases hP; rfl
     · split at hP
       · cases hP; rfl
       · cases hP; exact absurd rfl hC
  unfold readM; rw [hl]; simp only [hPM]; rw [if_neg (fun h => hC h.1), hE0])
 clear hl hx hP hPM
 clear h hC
 go_enter Tryz.func15, Tryz.ntmps15
 go_wp2_with fail
 refine HC.out.mono ?_
 rintro e w1 ⟨v, rfl, ht, hb1⟩
 have HT := Lib.hid ht
 obtain ⟨A, cc, rfl, t1, t2, -⟩ := ht
 unfold maxLen at t2
 have X6 : Hid (w1.heap[w.heap.size]? = some (.cells #[.int .i64 0, .int .i64 0] 46 (0, 0))) := Lib.hid ((hb1.block w.heap.size (by simp)).trans (heap_alloc_new w _))
 have HB1 : Hid (Below w.heap.size w w1) := Lib.hid ((below_new w _).trans (hb1.mono (by simp)))
 have hl1 : w.heap.size < w1.heap.size := lt_of_block X6.out
 clear hb1
 go_wp2_with fail
 refine (rparse_at rfl ((toks_off HT.out).rise (below_new w1 (.cells #[.int .i64 0, .int .i64 0] 46)) (Below.refl _ _)) HOK.out HX.out HP.out).mono ?_
 rintro e w3 ⟨ev, rfl, hpt, hb3⟩
 have HPT := Lib.hid hpt
 have HB3 := Lib.hid hb3
 have X63 : Hid (w3.heap[w.heap.size]? = some (.cells #[.int .i64 0, .int .i64 0] 46 (0, 0))) := Lib.hid ((hb3.block w.heap.size (by simp; omega)).trans (stayA X6.out))
 have HBW : Hid (Below w.heap.size w w3) := Lib.hid ((HB1.out.alloc (by omega) _).trans (hb3.mono (by simp; omega)))
 have hs3 := hb3.size
 simp at hs3
 obtain ⟨⟨Ae, ce, hev, y1, y2, -⟩, -⟩ := hpt
 simp only at hev y1
 subst hev
 unfold maxLen at y2
 clear hb3
 have l03 : w.heap.size < w3.heap.size := by omega
 have c60 : w3.cell? ⟨w.heap.size, 0, none⟩ = some (.int .i64 0) := (cell_at X63.out 0).trans rfl
 have c61 : w3.cell? ⟨w.heap.size, 1, none⟩ = some (.int .i64 0) := (cell_at X63.out 1).trans rfl
 have f60 : w3.frozen? ⟨w.heap.size, 0, none⟩ = false := free_at X63.out 0
 have f61 : w3.frozen? ⟨w.heap.size, 1, none⟩ = false := free_at X63.out 1
 go_wp2_with fail
 go_region
 all_goals go_wp2
 all_goals
  refine bodyPost_ret (v := .tuple #[.slice none 0 0, .agg #[.int .i64 (C), .int .i64 (D)]]) ?_ rfl (rd_eq HE.out ⟨_, rfl, (PtW.nil _ ⟨[], 0, 0⟩ rfl), ?_⟩)
  · obtain ⟨k0, k1⟩ := pair_cells (o := .cells #[.int .i64 C, .int .i64 D] 46) (.int .i64 (C)) (.int .i64 (D)) X63.out
    clear c60 c61 f60 f61
    simp [results, Tryz.results15, go_sem, k0, k1]
  · repeat (first | exact HBW.out | refine Below.alloc ?_ (by simp [World.setCell]; omega) _ | refine Below.setCell ?_ (by exact Nat.le_refl _) _ | refine Below.drew ?_)
end Go.Proofs.YtdebhngpgabglaaGreat.Rf
namespace Go.Proofs.YtdebhngpgabglaaGreat.Rf
open Go.ChangeShapes Go.WideShapes Go.ChangeAt Go.RowKit
open Go.Proofs.YtdebhngpgabglaaGreat.Ex Go.Proofs.YtdebhngpgabglaaGreat.Sh
open Go.Proofs.YtdebhngpgabglaaGreat.Tr (str ret_bool ret_int Bytes Nd T joinM roomM)
set_option maxRecDepth 100000 in
set_option maxHeartbeats 4000000 in
theorem rread_cd (S : ByteArray) (w : World) (h : S.size ≤ maxLen) (l : List Ex.Tok) (hl : Lx.lexM S.toList = .ok l) (hln : l.length ≤ 20000) (x : Pt × Rd) (hx : run (fuelOf l 0) (.lev 1) ⟨l, 0, 0, 0, 0⟩ = some x) (E : List Nd) (N : Nat) (C D : Int) (hP : parseOf l 0 x = (E, N, C, D)) (hC : C = 0) (hlt : ¬ N < l.length) : Calls Tryz.prog 15 #[.string S] w (ReadTo w (readM S.toList)) := by
 have HC : Hid (Calls Tryz.prog 28 #[.string S] (w.alloc (.cells #[.int .i64 0, .int .i64 0] 46)) (Lx.LexGives (w.alloc (.cells #[.int .i64 0, .int .i64 0] 46)) l 0 0)) := Lib.hid (by have := rlex_gives S (w.alloc (.cells #[.int .i64 0, .int .i64 0] 46)) h; rw [hl] at this; exact this)
 have HOK := Lib.hid (okl_of hl hln)
 have HX := Lib.hid hx
 have HP := Lib.hid hP
 have hN : N ≤ 1000000 := by have := parse_nextN (by omega) hx; rw [hP] at this; exact this
 have hPM : parseM l 0 = (E, N, C, D) := by unfold parseM; rw [hx]; exact hP
 have hcd : (C != 0) = false := by rw [hC]; rfl
 have hnd : decide ((N : Int) < (l.length : Int)) = false := by rw [decide_eq_false_iff_not]; omega
 have hnd2 : decide (N < l.length) = false := by rw [decide_eq_false_iff_not]; exact hlt
 have HE : Hid (readM S.toList = (E, 0, 0)) := Lib.hid (by
  have hD : D = 0 := by
   obtain ⟨p, r⟩ := x
   simp only [parseOf] at hP
   split at hP
   · cases hP; exact absurd hC (by assumption)
   · split at hP
     · cases hP; exact absurd hC (by decide)
     · split at hP
       · cases hP; exact absurd hC (by decide)
       · cases hP; rfl
  unfold readM; rw [hl]; simp only [hPM]; rw [if_neg (fun h => hlt h.2), hC, hD])
 clear hl hx hP hPM
 clear h hC
 go_enter Tryz.func15, Tryz.ntmps15
 go_wp2_with fail
 refine HC.out.mono ?_
 rintro e w1 ⟨v, rfl, ht, hb1⟩
 have HT := Lib.hid ht
 obtain ⟨A, cc, rfl, t1, t2, -⟩ := ht
 unfold maxLen at t2
 have X6 : Hid (w1.heap[w.heap.size]? = some (.cells #[.int .i64 0, .int .i64 0] 46 (0, 0))) := Lib.hid ((hb1.block w.heap.size (by simp)).trans (heap_alloc_new w _))
 have HB1 : Hid (Below w.heap.size w w1) := Lib.hid ((below_new w _).trans (hb1.mono (by simp)))
 have hl1 : w.heap.size < w1.heap.size := lt_of_block X6.out
 clear hb1
 go_wp2_with fail
 refine (rparse_at rfl ((toks_off HT.out).rise (below_new w1 (.cells #[.int .i64 0, .int .i64 0] 46)) (Below.refl _ _)) HOK.out HX.out HP.out).mono ?_
 rintro e w3 ⟨ev, rfl, hpt, hb3⟩
 have HPT := Lib.hid hpt
 have HB3 := Lib.hid hb3
 have X63 : Hid (w3.heap[w.heap.size]? = some (.cells #[.int .i64 0, .int .i64 0] 46 (0, 0))) := Lib.hid ((hb3.block w.heap.size (by simp; omega)).trans (stayA X6.out))
 have HBW : Hid (Below w.heap.size w w3) := Lib.hid ((HB1.out.alloc (by omega) _).trans (hb3.mono (by simp; omega)))
 have hs3 := hb3.size
 simp at hs3
 obtain ⟨⟨Ae, ce, hev, y1, y2, -⟩, -⟩ := hpt
 simp only at hev y1
 subst hev
 unfold maxLen at y2
 clear hb3
 have l03 : w.heap.size < w3.heap.size := by omega
 have c60 : w3.cell? ⟨w.heap.size, 0, none⟩ = some (.int .i64 0) := (cell_at X63.out 0).trans rfl
 have c61 : w3.cell? ⟨w.heap.size, 1, none⟩ = some (.int .i64 0) := (cell_at X63.out 1).trans rfl
 have f60 : w3.frozen? ⟨w.heap.size, 0, none⟩ = false := free_at X63.out 0
 have f61 : w3.frozen? ⟨w.heap.size, 1, none⟩ = false := free_at X63.out 1
 go_wp2
 all_goals
  refine bodyPost_ret (v := .tuple #[.slice Ae E.length ce, .agg #[.int .i64 (0), .int .i64 (0)]]) ?_ rfl (rd_eq HE.out ⟨_, rfl, (by first | exact (((HPT.out.set X63.out (by decide) _).set (setObj_heap (v := .int .i64 0) X63.out (k := 0) (by simp)) (by decide) _).below (below_new _ _)) | exact (((HPT.out.set X63.out (by decide) _).set (setObj_heap (v := .int .i64 0) X63.out (k := 0) (by simp)) (by decide) _).below (below_new _ _)).drew), ?_⟩)
  · obtain ⟨k0, k1⟩ := pair_cells (o := .cells #[.int .i64 C, .int .i64 D] 46) (.int .i64 (0)) (.int .i64 (0)) X63.out
    clear c60 c61 f60 f61
    simp [results, Tryz.results15, go_sem, k0, k1]
  · repeat (first | exact HBW.out | refine Below.alloc ?_ (by simp [World.setCell]; omega) _ | refine Below.setCell ?_ (by exact Nat.le_refl _) _ | refine Below.drew ?_)
end Go.Proofs.YtdebhngpgabglaaGreat.Rf
namespace Go.Proofs.YtdebhngpgabglaaGreat.Rf
open Go.ChangeShapes Go.WideShapes Go.ChangeAt Go.RowKit
open Go.Proofs.YtdebhngpgabglaaGreat.Ex Go.Proofs.YtdebhngpgabglaaGreat.Sh
open Go.Proofs.YtdebhngpgabglaaGreat.Tr (str ret_bool ret_int Bytes Nd T joinM roomM)
theorem rread_any (S : ByteArray) (w : World) (h : S.size ≤ maxLen) (hn : ∀ l, Lx.lexM S.toList = .ok l → l.length ≤ 20000) : Calls Tryz.prog 15 #[.string S] w (ReadTo w (readM S.toList)) := by
 cases hl : Lx.lexM S.toList with
 | bad c a =>
  refine rread_ca S w h c a hl ?_
  by_cases hs : 100000 < S.toList.length
  · unfold Lx.lexM at hl; rw [if_pos hs] at hl; cases hl; decide
  · exact (Lx.lexM_code _ (by omega) c a hl).1
 | ok l =>
  obtain ⟨x, hx⟩ := parse_some hl
  obtain ⟨⟨E, N, C, D⟩, hP⟩ : ∃ y, parseOf l 0 x = y := ⟨_, rfl⟩
  by_cases hC : C = 0
  · by_cases hlt : N < l.length
    · exact rread_cb S w h l hl (hn l hl) x hx E N C D hP hC hlt
    · exact rread_cd S w h l hl (hn l hl) x hx E N C D hP hC hlt
  · exact rread_cc S w h l hl (hn l hl) x hx E N C D hP hC
end Go.Proofs.YtdebhngpgabglaaGreat.Rf
namespace Go.Proofs.YtdebhngpgabglaaGreat.Sh
open Go.ChangeShapes Go.WideShapes Go.ChangeAt Go.RowKit
open Go.Proofs.YtdebhngpgabglaaGreat.Ex (readM PtW ReadTo)
open Go.Proofs.YtdebhngpgabglaaGreat.Tr (str ret_bool ret_int Bytes Nd T Nodes May tree kidsM mkL mkT fitsB argsL unaryB binaryB ndCells mayB Short root normM normB NodesPost)
end Go.Proofs.YtdebhngpgabglaaGreat.Sh
namespace Go.Proofs.YtdebhngpgabglaaGreat.Sh
open Go.ChangeShapes Go.WideShapes Go.ChangeAt Go.RowKit
open Go.Proofs.YtdebhngpgabglaaGreat.Ex (readM PtW ReadTo)
open Go.Proofs.YtdebhngpgabglaaGreat.Tr (str ret_bool ret_int Bytes Nd T Nodes May tree mayB Short root normM normB NodesPost)
end Go.Proofs.YtdebhngpgabglaaGreat.Sh
namespace Go.Proofs.YtdebhngpgabglaaGreat.Sh
open Go.ChangeShapes Go.WideShapes Go.ChangeAt Go.RowKit
open Go.Proofs.YtdebhngpgabglaaGreat.Tr (str ret_bool ret_int Bytes Nd T Nodes May tree mayB Short root normM normB NodesPost Parts joinM roomM onNd)
theorem nodes_low {w : World} {u : Value} {l : List Nd} (h : Nodes w u l) : 0 < l.length → ∀ g o n c, u = .slice (some ⟨g, o, none⟩) n c → g < w.heap.size := by
 intro hp g o n c hu
 obtain ⟨A', c', e1, _, _, hA⟩ := h
 obtain ⟨g2, o2, hA2, hlt, _⟩ := hA 0 _ (List.getElem?_eq_getElem hp)
 rw [e1, hA2] at hu
 simp only [Value.slice.injEq, Option.some.injEq, Addr.mk.injEq, and_true] at hu
 omega
theorem parts_one {w : World} {u : Value} {l : List Nd} (hu : Nodes w u l) : Parts (w.alloc (.cells #[u] 23)) (w.alloc (.cells #[u] 23)).heap.size (.slice (some ⟨w.heap.size, 0, none⟩) 1 1) [l] := by
 refine ⟨some ⟨w.heap.size, 0, none⟩, 1, rfl, by simp, by unfold maxLen; omega, fun i x hx => ?_⟩
 have hn := heap_alloc_new w (.cells #[u] 23)
 have hb := Tr.below_new w (.cells #[u] 23)
 match i, hx with
 | 0, hx =>
  simp at hx; subst hx
  have := hu.below hb (Nat.le_refl _)
  exact ⟨w.heap.size, 0, u, rfl, by simp, by simp, by unfold World.cell?; rw [hn]; rfl, this, nodes_low this⟩
 | i + 1, hx => simp at hx
end Go.Proofs.YtdebhngpgabglaaGreat.Sh
namespace Go.Proofs.YtdebhngpgabglaaGreat.Sh
open Go.ChangeShapes Go.WideShapes Go.ChangeAt Go.WideMaps Go.WideElems Go.RowKit
open Go.Proofs.YtdebhngpgabglaaGreat.Tr (str ret_bool ret_int Bytes)
set_option maxRecDepth 100000
end Go.Proofs.YtdebhngpgabglaaGreat.Sh
namespace Go.Proofs.YtdebhngpgabglaaGreat.Lx
open Go.RowKit Go.WideShapes Go.ChangeShapes
theorem post_kept {H : Type} {enc : TypeId × Value → H} {P : Program} {f : Func} {s : ChangeSpec} {apart : Bool} {W W' : World} {args : Array Value} {v : Value} {ds gs : List (DataW H)} {before pa pv : List MemPlace}
 (hW : DataW.Whole enc P f.params.toList s.vars apart W args.toList ds gs before)
 (hres : ∀ b, DataW.TrodAll enc P W' b (fun _ => false) false f.resultTypes.toList (v.resultList f.resultTypes.size) (s.fn H (ds ++ gs)).results [])
 (hargs : DataW.TrodAll enc P W' 0 (fun b => decide (b < W.heap.size)) true f.params.toList args.toList (s.fn H (ds ++ gs)).args pa)
 (hvars : DataW.TrodVars enc P W' (fun b => decide (b < W.heap.size)) s.vars (s.fn H (ds ++ gs)).vars pv)
 (hb : Below W.heap.size W W') : s.post enc P f apart true false false W args v W' :=
 ⟨ds, gs, before, [], pa, pv, hW, hres _, hargs, hvars, hb.frame _, fun h => nomatch h⟩
end Go.Proofs.YtdebhngpgabglaaGreat.Lx
