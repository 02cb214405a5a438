/- The lines of a text, as the program hands them to a loop. Conditions: lengths within a machine's; the library's variable is a number. -/
import Derived.Test.YtgngdkbcndldfaaDoorFaJ
import Derived.RangeFuncNested
import Derived.RangeFuncBound
import Derived.RangeFuncCalls
import Derived.RangeFuncLeaves
import Derived.Shelf.Abstract
import Derived.OwnWalkIn
import Derived.TacticsInMore
import Derived.LoopNIn
import Derived.LoopIn
import Derived.BigRegionIn
import Derived.Sort.QuietIn
import Derived.Stop.RegionWithIn
namespace Go.Proofs.YtgngdkbcndldfaaDoor.Fr
open Go.ChangeShapes Go.WideShapes Go.ChangeAt Go.RowKit Go.Proofs.YtgngdkbcndldfaaDoor.Tr
set_option linter.unusedVariables false
set_option linter.unusedSimpArgs false
attribute [local go_sem] Oper.semAt_some

theorem cut_any (w : World) (hm : ∃ m, w.cell? ⟨0, 0, none⟩ = some (.int .i64 m)) (T : Bs) (hT : T.length ≤ 1000000) :
    Calls Tryd.prog 29 #[.string (bs T), .string ⟨#[10]⟩] w (fun e w' => e = .returned (.tuple #[.string (bs (Lib.cut T [10]).1), .string (bs (Lib.cut T [10]).2.1), .bool (Lib.cut T [10]).2.2]) ∧ ∃ n, w' = w.drewN n) := by
  obtain ⟨m, hm⟩ := hm
  refine (Tryd.strings_Cut (bs T) ⟨#[10]⟩ m w (by rw [bs_size]; omega) hm).mono ?_
  rintro e w' ⟨rfl, h⟩
  refine ⟨?_, h⟩
  rw [bs_data]
  rfl
/-- What has come when k rounds are over. -/
def upto (m k : Nat) : List (Fin m) := (List.finRange m).take k
theorem upto_succ {m k : Nat} (h : k < m) : upto m (k + 1) = upto m k ++ [⟨k, h⟩] := by
  unfold upto
  rw [List.take_add_one]
  congr 1
  simp [h]
theorem upto_length {m k : Nat} (h : k ≤ m) : (upto m k).length = k := by simp [upto, h]
theorem upto_all (m : Nat) : upto m m = List.finRange m := by unfold upto; rw [List.take_of_length_le (by simp)]
/-- What a round keeps: the blocks below n0, but three. -/
structure Kq (n0 x4 : Nat) (W W' : World) : Prop where
  size : W.heap.size ≤ W'.heap.size
  block : ∀ g, g < n0 → g ≠ x4 → g ≠ x4 + 1 → g ≠ x4 + 2 → W'.heap[g]? = W.heap[g]?
theorem Kq.refl (n0 x4 : Nat) (W : World) : Kq n0 x4 W W := ⟨Nat.le_refl _, fun _ _ _ _ _ => rfl⟩
theorem Kq.trans {n0 x4 : Nat} {A B C : World} (h : Kq n0 x4 A B) (k : Kq n0 x4 B C) : Kq n0 x4 A C := ⟨Nat.le_trans h.size k.size, fun g a b c d => (k.block g a b c d).trans (h.block g a b c d)⟩
theorem Kq.cell {n0 x4 : Nat} {W W' : World} (h : Kq n0 x4 W W') {p : Addr} (h1 : p.block < n0) (h2 : p.block ≠ x4) (h3 : p.block ≠ x4 + 1) (h4 : p.block ≠ x4 + 2) : W'.cell? p = W.cell? p := World.cell?_of_block (w := W) (h.block p.block h1 h2 h3 h4)
/-- The k-th line, and its number. -/
def encL (L : List Bs) (k : Nat) : Array Value := #[.int .i64 (k : Int), .string (bs (L.getD k []))]
theorem rest_ne {T : Bs} {L : List Bs} {k m : Nat} (h : linesM T = L.drop k) (hm : L.length = m) (hT : T ≠ []) : k < m ∧ L.getD k [] = (Lib.cut T [10]).1 ∧ linesM (Lib.cut T [10]).2.1 = L.drop (k + 1) := by
  have h2 := cut_line T hT
  rw [h] at h2
  have hk : k < L.length := by
    rcases Nat.lt_or_ge k L.length with h' | h'
    · exact h'
    · rw [List.drop_eq_nil_of_le h'] at h2; cases h2
  rw [List.drop_eq_getElem_cons hk] at h2
  injection h2 with a b
  exact ⟨by omega, by rw [List.getD_eq_getElem?_getD, List.getElem?_eq_getElem hk]; exact a, b.symm⟩
theorem grown_drewN (w : World) (n : Nat) : w.grownBy (w.drewN n) none := ⟨rfl, rfl, rfl, Nat.le_refl _, fun _ _ _ => rfl⟩

set_option maxRecDepth 100000 in
set_option maxHeartbeats 2000000 in
theorem lines1_in (n : Nat) (hn : 1 ≤ n) (l B n0 x4 m : Nat) (S : Bs) (hS : S.length ≤ 1000000) (L : List Bs) (hL : linesM S = L) (hm : L.length = m) (hB : B < n0) (hB4 : B ≠ x4 ∧ B ≠ x4 + 1 ∧ B ≠ x4 + 2) (hx4 : 0 < x4) (h0n : 0 < n0) (J Jx : List (Fin m) → World → Prop)
    (W : World) (hJa : AbidesFrom W.heap.size J)
    (hY : ∀ pre x W, J pre W → pre.length < m → YieldAt Fence.wide (n - 1) Tryd.prog l (encL L x.1) W fun e W' =>
      (e = .returned (.bool true) ∧ J (pre ++ [x]) W' ∧ Kq n0 x4 W W') ∨ (e = .returned (.bool false) ∧ Jx (pre ++ [x]) W'))
    (hBs : W.cell? ⟨B, 0, none⟩ = some (.string (bs S))) (hmx : ∃ q, W.cell? ⟨0, 0, none⟩ = some (.int .i64 q)) (h0 : J [] W) :
    CallsIn Fence.wide n Tryd.prog 28 #[.func (.yield l) #[] #[], .pointer (some ⟨B, 0, none⟩)] W fun e W' => (∃ v, e = .returned v) ∧
      ((∃ ys, ys = List.finRange m ∧ J ys W') ∨ (∃ pre, (∃ k, k ≤ m ∧ pre = upto m k) ∧ Jx pre W')) := by
  have HY := Lib.hid hY
  have HM := Lib.hid hm
  have HJA := Lib.hid hJa
  have hm6 : m ≤ 1000001 := by have := (lines_small S).1; rw [hL, hm] at this; omega
  have HL := Lib.hid hL
  obtain ⟨b1, b2, b3⟩ := hB4
  have HMX := Lib.hid hmx
  clear hY hm hJa hL hmx
  refine callsIn_of_wp Tryd.func28 rfl trivial ?_ rfl
  simp only [Tryd.ntmps28, List.size_toArray, List.length_cons, List.length_nil, Nat.reduceAdd, Nat.reduceSub, Array.replicate_succ, Array.replicate_zero, List.push_toArray, List.append_toArray, List.nil_append, List.cons_append]
  gi_wp2
  gi_quiet (fail)
  obtain ⟨W2, hW2⟩ : ∃ W2, W.drewN nq = W2 := ⟨_, rfl⟩
  have HJ2 : Hid (J [] W2) := Lib.hid (by rw [← hW2]; exact HJA.out _ _ _ none h0 (grown_drewN W nq) (fun r e => by cases e))
  have HE2 : Hid (W2.heap = W.heap) := Lib.hid (by rw [← hW2]; rfl)
  rw [hW2]
  clear h0 hW2
  gi_wp2
  gi_loopw [4, 5] (fun r i wr => ∃ (k : Nat) (T : Bs), k ≤ m ∧ r = .string (bs T) ∧ i = .int .i64 (k : Int) ∧ linesM T = L.drop k ∧ T.length ≤ S.length ∧ J (upto m k) wr ∧ Kq n0 x4 W wr)
    (fun _ i _ => m - (intOf i).toNat)
  case atStart => exact ⟨0, S, Nat.zero_le _, by first | rfl | simp, by first | rfl | simp, HL.out, Nat.le_refl _, HJ2.out, ⟨by rw [HE2.out]; exact Nat.le_refl _, fun g _ _ _ _ => by rw [HE2.out]⟩⟩
  case round =>
    obtain ⟨k, T, hk, rfl, rfl, hLT, hTS, hJs, hnx⟩ := hrel
    have HLT := Lib.hid hLT
    have HJ := Lib.hid hJs
    have HN := Lib.hid hnx
    have hm0 : ∃ q, wr.cell? ⟨0, 0, none⟩ = some (.int .i64 q) := by
      obtain ⟨q, hq⟩ := HMX.out
      exact ⟨q, (hnx.cell (p := ⟨0, 0, none⟩) h0n (by show 0 ≠ x4; omega) (by show 0 ≠ x4 + 1; omega) (by show 0 ≠ x4 + 2; omega)).trans hq⟩
    have HC := Lib.hid (cut_any wr hm0 T (by omega))
    clear hLT hJs hnx hm0
    by_cases hT : T = []
    · have he : (bs T).toList.isEmpty = true := by rw [bs_list, hT]; rfl
      have hke : k = m := by
        have h := HLT.out
        rw [hT] at h
        have h2 : L.drop k = [] := h.symm
        have h3 := congrArg List.length h2
        rw [List.length_drop, HM.out] at h3
        simp at h3
        omega
      clear hT
      subst hke
      gi_wp2
      go_end0
      exact ⟨⟨_, rfl⟩, .inl ⟨_, upto_all _, HJ.out⟩⟩
    · have he : (bs T).toList.isEmpty = false := by rw [bs_list]; cases T with | nil => exact absurd rfl hT | cons a b => rfl
      obtain ⟨hlt, hline, hrest⟩ := rest_ne HLT.out HM.out hT
      have hless := cut_less T hT
      have HLI := Lib.hid hline
      have HRE := Lib.hid hrest
      clear hT hline hrest
      gi_wp2_with fail
      refine ⟨trivial, ?_⟩
      refine (callsIn_wide.2 HC.out).mono ?_
      rintro e w2 ⟨rfl, q, hw2⟩
      have HE3 : Hid (w2.heap = wr.heap) := Lib.hid (by rw [hw2]; rfl)
      have HJ3 : Hid (J (upto m k) w2) := Lib.hid (by rw [hw2]; exact HJA.out _ _ _ none HJ.out (grown_drewN wr q) (fun r e => by cases e))
      have HN3 : Hid (Kq n0 x4 W w2) := Lib.hid (HN.out.trans ⟨by rw [HE3.out]; exact Nat.le_refl _, fun g _ _ _ _ => by rw [HE3.out]⟩)
      obtain ⟨fn, tmps, assign, body, hy, hR⟩ := HY.out _ ⟨k, hlt⟩ w2 HJ3.out (by rw [upto_length hk]; exact hlt)
      dsimp only [encL] at hy
      rw [HLI.out] at hy
      have HR := Lib.hid hR
      obtain ⟨C1, hC1⟩ : ∃ C, (Lib.cut T [10]).1 = C := ⟨_, rfl⟩
      obtain ⟨C2, hC2⟩ : ∃ C, (Lib.cut T [10]).2.1 = C := ⟨_, rfl⟩
      obtain ⟨C3, hC3⟩ : ∃ C, (Lib.cut T [10]).2.2 = C := ⟨_, rfl⟩
      rw [hC1] at hy ⊢
      rw [hC2] at HRE hless ⊢
      rw [hC3]
      clear hR hw2 hC1 hC2 hC3
      gi_wp2
      refine HR.out.mono ?_
      rintro e W3 (⟨rfl, hJ3, hk3⟩ | ⟨rfl, hJx3⟩)
      · have HJ4 := Lib.hid hJ3
        have HK3 := Lib.hid (HN3.out.trans hk3)
        clear hJ3 hk3
        gi_wp2
        go_roundw
        case rel => exact ⟨k + 1, C2, by omega, by first | rfl | simp, by go_num, HRE.out, by omega, by rw [upto_succ hlt]; exact HJ4.out, HK3.out⟩
        case measure => simp [intOf]; omega
      · have HJ4 := Lib.hid hJx3
        clear hJx3
        gi_wp2
        refine bodyPost_ret (results_none rfl _ _ _) rfl ?_
        exact ⟨⟨_, rfl⟩, .inr ⟨_, ⟨k + 1, by omega, (upto_succ hlt).symm⟩, HJ4.out⟩⟩
/-- What the iterator hands to a loop. -/
theorem lines_stops (n : Nat) (hn : 1 ≤ n) (B n0 x4 m : Nat) (S : Bs) (hS : S.length ≤ 1000000) (L : List Bs) (hL : linesM S = L) (hm : L.length = m) (hB : B < n0) (hB4 : B ≠ x4 ∧ B ≠ x4 + 1 ∧ B ≠ x4 + 2) (hx4 : 0 < x4) (h0n : 0 < n0) (w : World) (hw : n0 ≤ w.heap.size)
    (hBs : w.cell? ⟨B, 0, none⟩ = some (.string (bs S))) (hmx : ∃ q, w.cell? ⟨0, 0, none⟩ = some (.int .i64 q)) :
    SeqStopsK Fence.wide n Tryd.prog 28 #[.pointer (some ⟨B, 0, none⟩)] (fun k : Fin m => encL L k.1) (Kq n0 x4) (fun ys => ys = List.finRange m) (fun pre => ∃ k, k ≤ m ∧ pre = upto m k) m w := fun l J Jx W hW hJ _ hY h0 =>
  lines1_in n hn l B n0 x4 m S hS L hL hm hB hB4 hx4 h0n J Jx W hJ hY ((hW.cell (p := ⟨B, 0, none⟩) (by show B < _; omega)).trans hBs) (by obtain ⟨q, hq⟩ := hmx; exact ⟨q, (hW.cell (p := ⟨0, 0, none⟩) (by show 0 < _; omega)).trans hq⟩) h0
set_option maxRecDepth 100000 in
theorem lines_any (w : World) (S : Bs) :
    Calls Tryd.prog 15 #[.string (bs S)] w (fun e w' => e = .returned (.func (.func 28) #[] #[.pointer (some ⟨w.heap.size, 0, none⟩)]) ∧ w' = w.alloc (.cells #[.string (bs S)] 9)) := by
  go_enter Tryd.func15, Tryd.ntmps15
  go_wp2_with fail
  go_ret
  exact ⟨rfl, rfl⟩
end Go.Proofs.YtgngdkbcndldfaaDoor.Fr
