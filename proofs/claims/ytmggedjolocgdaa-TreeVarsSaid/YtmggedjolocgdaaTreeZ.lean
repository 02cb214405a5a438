/- The function laid lays an expression's nodes behind others. Conditions: the slices are read as lists of nodes; what is laid stands apart from what it is laid of. -/
import Derived.Test.YtmggedjolocgdaaTreeY
namespace Go.Proofs.Ytmggedjolocgdaa.Tr
open Go.ChangeShapes Go.WideShapes Go.ChangeAt Go.RowKit
set_option linter.unusedVariables false
set_option linter.unusedSimpArgs false

set_option maxRecDepth 100000 in
set_option maxHeartbeats 1000000 in
theorem laid_any (av pv : Value) (a p : List Nd) (b : Nat) (w : World) (hown : w.ownsRow b 30 6 av a.length (ndsOf a)) (hb : b ≤ w.heap.size) (hp : Nodes w pv p) (hlow : 0 < p.length → ∀ g o n c, pv = .slice (some ⟨g, o, none⟩) n c → g < b) (hn : a.length + p.length ≤ 100000) :
    Calls Try.prog 46 #[av, pv] w (OrderPost w b av a (p.map (onNd (a.length : Int)))) := by
  obtain ⟨A, c, rfl, h1, h2, hA⟩ := hp
  unfold maxLen at h2
  have HA := Lib.hid hA
  have HLOW := Lib.hid hlow
  have HOB := Lib.hid (show ∀ k, av.ownBlock = some k → b ≤ k from fun k hk => (hown.lt k hk).1)
  have HREL0 : Hid (BehRel (w.alloc (.cells #[.int .i64 (a.length : Int)] 3)) b av a p 0 (w.alloc (.cells #[.int .i64 (a.length : Int)] 3)) av) := Lib.hid ⟨Nat.zero_le _, by simpa using hown.alloc _, World.grownBy.refl _ _, fun j hj => .inl hj⟩
  have HOL := Lib.hid (show ∀ k, av.ownBlock = some k → k < w.heap.size from fun k hk => (hown.lt k hk).2)
  obtain ⟨A1, c1, rfl, y1, y2, _⟩ := Nodes.of_own hown
  unfold maxLen at y2
  obtain ⟨i1, hi', hz0', hz1', hz2'⟩ := info_parts info30
  clear hA hown hlow
  go_enter Try.func46, Try.ntmps46
  go_wp2
  go_loopw [0, 12] (fun s0 i wr => ∃ (k : Nat) (ov : Value), ov = s0 ∧ i = .int .i64 k ∧ BehRel (w.alloc (.cells #[.int .i64 (a.length : Int)] 3)) b (.slice A1 a.length c1) a p k wr ov) (fun _ i _ => p.length - (intOf i).toNat)
  case atStart => exact ⟨0, _, rfl, rfl, HREL0.out⟩
  case round =>
    obtain ⟨k, ov, rfl, rfl, hrel⟩ := hrel
    have hk := hrel.le
    have HREL := Lib.hid hrel
    have hs := hrel.grown.size
    simp at hs
    have HF := Lib.hid ((hrel.grown.block w.heap.size (by simp) (fun h => by have := HOL.out _ h.symm; omega)).trans (heap_alloc_new w _))
    have cF := cell_of_one HF.out
    have hneF : w.heap.size ≠ wr.heap.size := by omega
    by_cases hlt : k < p.length
    · obtain ⟨x, hx⟩ : ∃ x, p[k]? = some x := ⟨_, List.getElem?_eq_getElem hlt⟩
      obtain ⟨g, o, rfl, hg, a0, a1, a2, a3, a4, a5⟩ := HA.out k x hx
      have hgb := HLOW.out (by omega) g o _ _ rfl
      have HGB := Lib.hid ((hrel.grown.block g (by simp; omega) (fun h => by have := HOB.out g h.symm; omega)).trans (Below.heap_alloc w _ g hg))
      have hgnw : g ≠ wr.heap.size := by omega
      have b0 := (World.cell?_of_block (w := w) (a := ⟨g, o + k * 6, none⟩) HGB.out).trans a0
      have b1 := (World.cell?_of_block (w := w) (a := ⟨g, o + k * 6 + 1, none⟩) HGB.out).trans a1
      have b2 := (World.cell?_of_block (w := w) (a := ⟨g, o + k * 6 + 2, none⟩) HGB.out).trans a2
      have b3 := (World.cell?_of_block (w := w) (a := ⟨g, o + k * 6 + 3, none⟩) HGB.out).trans a3
      have b4 := (World.cell?_of_block (w := w) (a := ⟨g, o + k * 6 + 4, none⟩) HGB.out).trans a4
      have b5 := (World.cell?_of_block (w := w) (a := ⟨g, o + k * 6 + 5, none⟩) HGB.out).trans a5
      have HX := Lib.hid hx
      clear hx a0 a1 a2 a3 a4 a5 hrel
      go_wp2_with fail
      refine (moved54 _ _ _ _ _ _ ⟨w.heap.size, 0, none⟩ (a.length : Int) _ (by exact (World.cell?_alloc_lt _ _ _ (by simp; omega)).trans cF)).mono ?_
      rintro r w3 ⟨rfl, hb3⟩
      have hs3 := hb3.size
      simp at hs3
      have HB3 := Lib.hid ((below_new wr _).trans (hb3.mono (by simp)))
      have HO3 := Lib.hid (own_below HREL.out.own HB3.out)
      clear hb3 b0 b1 b2 b3 b4 b5
      go_wp2_with (at_builtin; refine wpList_append_lies _ rfl (.tmp 16) (.tmp 20) 23 rfl b 30 i1 _ 6 56 Try.underlying23 hi' hz0' hz1' hz2' rfl (by decide) ov (a.length + k) _ rfl (HO3.out.alloc _) ⟨w3.heap.size, 0, none⟩ 1 1 (ndCells (onNd (a.length : Int) x)) rfl rfl ?a2 ?b2 (by omega) ?c2 ?d2 ?e2 (w3.heap.size + 1) ?f2 ?_)
      case a2 => exact World.news_of_block (t := 30) (fr := (0, 0)) (heap_alloc_new _ _)
      case b2 => simp [ndCells, Value.oneCell']
      case c2 => unfold maxLen; omega
      case d2 => omega
      case e2 => simp; omega
      case f2 => simp
      intro gg cap w4 hown4 hg4 hat _
      have R := Lib.hid (beh_step HX.out HREL.out HB3.out hg4 hown4 hat)
      clear hown4 hg4 hat
      go_wp2
      refine ⟨⟨k + 1, _, rfl, by go_num, R.out⟩, by simp [intOf]; omega⟩
    · have hkl : k = p.length := by omega
      subst hkl
      clear hrel
      go_wp2
      go_ret
      have g1 := HREL.out.grown
      refine ⟨_, rfl, ?_, ⟨g1.os, g1.tape, g1.output, by have := g1.size; simp at this; omega, fun k hk hn => (g1.block k (by simp; omega) hn).trans (Below.heap_alloc w _ k hk)⟩, fun j hj => by
        rcases HREL.out.blk j hj with h1 | h1
        · exact .inl h1
        · exact .inr (by simp at h1; omega)⟩
      have := HREL.out.own
      rw [List.take_of_length_le (by simp)] at this
      rw [List.length_append, List.length_map]; exact this
end Go.Proofs.Ytmggedjolocgdaa.Tr
