/- A slice of nodes gone through from its end: what the iterator hands to whatever loop. Conditions: none. -/
import Derived.Test.YtfohjlepknnleaaBdV
import Derived.RangeFuncNested
import Derived.RangeFuncBound
import Derived.RangeFuncCalls
import Derived.RangeFuncLeaves
import Derived.Shelf.Abstract
import Derived.OwnWalkIn
import Derived.TacticsInMore
import Derived.LoopNIn
import Derived.LoopIn
namespace Go.Proofs.Ytfohjlepknnleaa.Bd
open Go.ChangeShapes Go.WideShapes Go.ChangeAt Go.RowKit
set_option linter.unusedVariables false
set_option linter.unusedSimpArgs false
attribute [local go_sem] Oper.semAt_some

/-- What has come when k rounds are over. -/
def upto (m k : Nat) : List (Fin m) := (List.finRange m).take k
theorem upto_succ {m k : Nat} (h : k < m) : upto m (k + 1) = upto m k ++ [⟨k, h⟩] := by
  unfold upto
  rw [List.take_add_one]
  congr 1
  simp [h]
theorem upto_length {m k : Nat} (h : k ≤ m) : (upto m k).length = k := by simp [upto, h]
theorem upto_all (m : Nat) : upto m m = List.finRange m := by unfold upto; rw [List.take_of_length_le (by simp)]
/-- What a round keeps: the blocks below n0, but one. -/
structure Kq (n0 nb : Nat) (W W' : World) : Prop where
  size : W.heap.size ≤ W'.heap.size
  block : ∀ g, g < n0 → g ≠ nb → W'.heap[g]? = W.heap[g]?
theorem Kq.refl (n0 nb : Nat) (W : World) : Kq n0 nb W W := ⟨Nat.le_refl _, fun _ _ _ => rfl⟩
theorem Kq.trans {n0 nb : Nat} {A B C : World} (h : Kq n0 nb A B) (k : Kq n0 nb B C) : Kq n0 nb A C := ⟨Nat.le_trans h.size k.size, fun g a b => (k.block g a b).trans (h.block g a b)⟩
theorem Kq.cell {n0 nb : Nat} {W W' : World} (h : Kq n0 nb W W') {p : Addr} (h1 : p.block < n0) (h2 : p.block ≠ nb) : W'.cell? p = W.cell? p := World.cell?_of_block (w := W) (h.block p.block h1 h2)
/-- The j-th of a list from its end, and where it stands. -/
def backAt (L : List Nd) (j : Nat) : Nat × Nd := (L.length - 1 - j, (L[L.length - 1 - j]?).getD (0, 0, 0))
def encB (x : Nat × Nd) : Array Value := #[.int .i64 (x.1 : Int), .agg #[.int .i64 (x.2.1 : Int), .int .i64 (x.2.2.1 : Int), .int .i64 (x.2.2.2 : Int)]]

set_option maxRecDepth 100000 in
set_option maxHeartbeats 2000000 in
/-- The iterator. -/
theorem back1_in (F : Fence) (n : Nat) (h65 : F.fn 65) (hro : F.round = none) (hn : 1 ≤ n) (l Bs n0 nb g cap m : Nat) (A : Option Addr) (hA : 0 < m → A = some ⟨g, 0, none⟩) (L : List Nd) (hm : L.length = m) (hreach : m ≤ 2097152) (hg : g < n0) (hg2 : g ≠ nb) (hb : Bs < n0) (hb2 : Bs ≠ nb) (J Jx : List (Fin m) → World → Prop)
    (hY : ∀ pre x W, J pre W → pre.length < m → YieldAt F (n - 1) Try.prog l (encB (backAt L x.1)) W fun e W' =>
      (e = .returned (.bool true) ∧ J (pre ++ [x]) W' ∧ Kq n0 nb W W') ∨ (e = .returned (.bool false) ∧ Jx (pre ++ [x]) W'))
    (W : World) (hBs : W.cell? ⟨Bs, 0, none⟩ = some (.slice A m cap))
    (hc : ∀ (j t lo hi : Nat), L[j]? = some (t, lo, hi) → W.cell? ⟨g, j * 3, none⟩ = some (.int .i64 (t : Int)) ∧ W.cell? ⟨g, j * 3 + 1, none⟩ = some (.int .i64 (lo : Int)) ∧ W.cell? ⟨g, j * 3 + 2, none⟩ = some (.int .i64 (hi : Int))) (h0 : J [] W) :
    CallsIn F n Try.prog 65 #[.func (.yield l) #[] #[], .pointer (some ⟨Bs, 0, none⟩)] W fun e W' => (∃ v, e = .returned v) ∧
      ((∃ ys, ys = List.finRange m ∧ J ys W') ∨ (∃ pre, (∃ k, k ≤ m ∧ pre = upto m k) ∧ Jx pre W')) := by
  have HC := Lib.hid hc
  have HY := Lib.hid hY
  have HM := Lib.hid hm
  clear hc hY hm
  refine callsIn_of_wp Try.func65 rfl h65 ?_ hro
  simp only [Try.ntmps65, List.size_toArray, List.length_cons, List.length_nil, Nat.reduceAdd, Nat.reduceSub, Array.replicate_succ, Array.replicate_zero, List.push_toArray, List.append_toArray, List.nil_append, List.cons_append]
  gi_wp2
  gi_loopw [3] (fun i wr => ∃ (k : Nat) (x : Int), k ≤ m ∧ i = .int .i64 x ∧ x = (m : Int) - 1 - (k : Int) ∧ J (upto m k) wr ∧ Kq n0 nb W wr)
    (fun i _ => (intOf i + 1).toNat)
  case atStart => exact ⟨0, (m : Int) - 1, Nat.zero_le _, by first | rfl | simp, by omega, h0, Kq.refl _ _ _⟩
  case round =>
    obtain ⟨k, x, hk, rfl, hx, hJs, hnx⟩ := hrel
    have HX := Lib.hid hx
    have HJ := Lib.hid hJs
    have HN := Lib.hid hnx
    have hBr := (hnx.cell (p := ⟨Bs, 0, none⟩) hb hb2).trans hBs
    have hxb : -1 ≤ x ∧ x ≤ 2097152 := by omega
    obtain ⟨hxb1, hxb2⟩ := hxb
    by_cases hlt : k < m
    · obtain rfl := hA (by omega)
      obtain ⟨t, lo, hi, hat⟩ := at_of (show L.length - 1 - k < L.length by rw [HM.out]; omega)
      have hbk : backAt L k = (m - 1 - k, (t, lo, hi)) := by unfold backAt; rw [hat, HM.out]; rfl
      obtain ⟨c0, c1, c2⟩ := HC.out _ _ _ _ hat
      rw [HM.out] at c0 c1 c2
      have hxn : x = ((m - 1 - k : Nat) : Int) := by rw [HX.out]; omega
      obtain ⟨p, hp⟩ : ∃ p, m - 1 - k = p := ⟨_, rfl⟩
      rw [hp] at c0 c1 c2 hxn hbk
      have hpm : p < m := by omega
      obtain ⟨fn, tmps, assign, body, hy, hR⟩ := HY.out _ ⟨k, hlt⟩ wr HJ.out (by rw [upto_length hk]; exact hlt)
      dsimp only at hy
      rw [hbk] at hy
      dsimp only [encB] at hy
      have d0 := (hnx.cell (p := ⟨g, p * 3, none⟩) hg hg2).trans c0
      have d1 := (hnx.cell (p := ⟨g, p * 3 + 1, none⟩) hg hg2).trans c1
      have d2 := (hnx.cell (p := ⟨g, p * 3 + 2, none⟩) hg hg2).trans c2
      have HR := Lib.hid hR
      have HBK := Lib.hid hbk
      clear hR hat hbk c0 c1 c2 hx hJs hnx hp
      subst hxn
      gi_wp2
      refine HR.out.mono ?_
      rintro e W3 (⟨rfl, hJ3, hk3⟩ | ⟨rfl, hJx3⟩)
      · have HJ3 := Lib.hid hJ3
        have HK3 := Lib.hid (HN.out.trans hk3)
        clear hJ3 hk3
        gi_wp2
        go_roundw
        case rel => exact ⟨k + 1, (p : Int) - 1, by omega, by first | rfl | simp, by have := HX.out; omega, by rw [upto_succ hlt]; exact HJ3.out, HK3.out⟩
        case measure => simp [intOf]
      · have HJ3 := Lib.hid hJx3
        clear hJx3
        gi_wp2
        refine bodyPost_ret (results_none rfl _ _ _) rfl ?_
        exact ⟨⟨_, rfl⟩, .inr ⟨_, ⟨k + 1, by omega, (upto_succ hlt).symm⟩, HJ3.out⟩⟩
    · obtain rfl : k = m := by omega
      have hxe : x = -1 := by have := HX.out; omega
      clear hx hJs hnx
      subst hxe
      gi_wp2
      go_end0
      exact ⟨⟨_, rfl⟩, .inl ⟨_, upto_all _, HJ.out⟩⟩

/-- What the iterator hands to a loop. -/
theorem back_stops (F : Fence) (n : Nat) (h65 : F.fn 65) (hro : F.round = none) (hn : 1 ≤ n) (Bs n0 nb g cap m : Nat) (A : Option Addr) (hA : 0 < m → A = some ⟨g, 0, none⟩) (L : List Nd) (hm : L.length = m) (hreach : m ≤ 2097152) (hg : g < n0) (hg2 : g ≠ nb) (hb : Bs < n0) (hb2 : Bs ≠ nb) (w : World) (hw : n0 ≤ w.heap.size)
    (hBs : w.cell? ⟨Bs, 0, none⟩ = some (.slice A m cap))
    (hc : ∀ (j t lo hi : Nat), L[j]? = some (t, lo, hi) → w.cell? ⟨g, j * 3, none⟩ = some (.int .i64 (t : Int)) ∧ w.cell? ⟨g, j * 3 + 1, none⟩ = some (.int .i64 (lo : Int)) ∧ w.cell? ⟨g, j * 3 + 2, none⟩ = some (.int .i64 (hi : Int))) :
    SeqStopsK F n Try.prog 65 #[.pointer (some ⟨Bs, 0, none⟩)] (fun k : Fin m => encB (backAt L k.1)) (Kq n0 nb) (fun ys => ys = List.finRange m) (fun pre => ∃ k, k ≤ m ∧ pre = upto m k) m w := fun l J Jx W hW _ _ hY h0 =>
  back1_in F n h65 hro hn l Bs n0 nb g cap m A hA L hm hreach hg hg2 hb hb2 J Jx hY W ((hW.cell (p := ⟨Bs, 0, none⟩) (by show Bs < _; omega)).trans hBs)
    (fun j t lo hi hj => by
      obtain ⟨a, b, c⟩ := hc j t lo hi hj
      exact ⟨(hW.cell (p := ⟨g, _, none⟩) (by show g < _; omega)).trans a, (hW.cell (p := ⟨g, _, none⟩) (by show g < _; omega)).trans b, (hW.cell (p := ⟨g, _, none⟩) (by show g < _; omega)).trans c⟩) h0

set_option maxRecDepth 100000 in
set_option maxHeartbeats 1600000 in
/-- slices.Backward. -/
theorem back_any (w : World) (A : Option Addr) (m cap : Nat) :
    Calls Try.prog 57 #[.slice A m cap] w (fun e w' => e = .returned (.func (.func 65) #[] #[.pointer (some ⟨w.heap.size, 0, none⟩)]) ∧ w' = w.alloc (.cells #[.slice A m cap] 60)) := by
  go_enter Try.func57, Try.ntmps57
  go_wp2_with fail
  go_ret
  exact ⟨rfl, rfl⟩
end Go.Proofs.Ytfohjlepknnleaa.Bd
