/- The document's order, Sub and Norm. Conditions: the slice is read as a list of nodes. -/
import Derived.Test.YtgohhnbdicdenaaGreatDoorPz03
import Derived.Test.YtgohhnbdicdenaaGreatDoorPz01
import Derived.Test.YtgohhnbdicdenaaGreatDoorRows
import Derived.WalkKit
import Derived.ProofKit
import Derived.OpenShut
import Derived.Outline
import Derived.Lib.Hide
import Derived.WalkLawsBesides
import Derived.WalkSpells
import Derived.Deep.Light
namespace Go.Proofs.YtgohhnbdicdenaaGreatDoor.Tr
open Go.ChangeShapes Go.WideShapes Go.ChangeAt Go.RowKit
set_option linter.unusedVariables false
set_option linter.unusedSimpArgs false

/-- What a call that hands back nodes leaves. -/
def NodesPost (w : World) (l : List Nd) (r : Ending) (w' : World) : Prop :=
  ∃ v, r = .returned v ∧ w'.ownsRow w.heap.size 58 6 v l.length (ndsOf l) ∧ Below w.heap.size w w'
theorem nodes_none (w w' : World) (h : Below w.heap.size w w') : NodesPost w [] (.returned (.slice none 0 0)) w' := ⟨_, rfl, World.ownsRow_nil _ _ _ _, h⟩
end Go.Proofs.YtgohhnbdicdenaaGreatDoor.Tr

/- The functions laid and behind lay an expression's nodes behind others. Conditions: the slices are read as lists of nodes; what is laid stands apart from what it is laid of. -/
namespace Go.Proofs.YtgohhnbdicdenaaGreatDoor.Tr
open Go.ChangeShapes Go.WideShapes Go.ChangeAt Go.RowKit
set_option linter.unusedVariables false
set_option linter.unusedSimpArgs false

/-- A node, its operands counted on. -/
def onNd (f : Int) (x : Nd) : Nd := ⟨x.op, onM f x.a, onM f x.b, onM f x.c, x.n, x.name⟩
/-- Nodes behind others, counted on by how many stand ahead. -/
def behindM (a p : List Nd) : List Nd := a ++ p.map (onNd (a.length : Int))
/-- The loop's relation: the first nodes are laid behind. -/
structure BehRel (w : World) (b : Nat) (av : Value) (a p : List Nd) (k : Nat) (wr : World) (ov : Value) : Prop where
  le : k ≤ p.length
  own : wr.ownsRow b 58 6 ov (a.length + k) (ndsOf (a ++ (p.map (onNd (a.length : Int))).take k))
  grown : w.grownBy wr av.ownBlock
  blk : ∀ j, ov.ownBlock = some j → av.ownBlock = some j ∨ w.heap.size ≤ j
theorem grown_chain {w wr w3 w4 : World} {row row2 : Option Nat} {o : Obj} (g1 : w.grownBy wr row) (hb : Below wr.heap.size wr w3) (hg : (w3.alloc o).grownBy w4 row2) (hr : ∀ k, row2 = some k → row = some k ∨ w.heap.size ≤ k) : w.grownBy w4 row := by
  have hs := g1.size
  have hs3 := hb.size
  have hs4 := hg.size
  simp at hs4
  refine ⟨?_, ?_, ?_, by omega, fun k hk hn => ?_⟩
  · exact hg.os.trans ((show (w3.alloc o).os = w3.os from rfl).trans (hb.os.trans g1.os))
  · exact hg.tape.trans ((show (w3.alloc o).tape = w3.tape from rfl).trans (hb.tape.trans g1.tape))
  · exact hg.output.trans ((show (w3.alloc o).output = w3.output from rfl).trans (hb.output.trans g1.output))
  · rw [hg.block k (by simp; omega) (fun h2 => by
      rcases hr k h2.symm with h3 | h3
      · exact hn h3.symm
      · omega), Below.heap_alloc _ _ _ (by omega), hb.block k (by omega)]
    exact g1.block k hk hn
theorem beh_step {w wr w3 w4 : World} {b : Nat} {av ov : Value} {a p : List Nd} {k gg cap : Nat} {x : Nd} {o : Obj} (hx : p[k]? = some x) (h : BehRel w b av a p k wr ov) (hb : Below wr.heap.size wr w3) (hg : (w3.alloc o).grownBy w4 ov.ownBlock)
    (hown : w4.ownsRow b 58 6 (.slice (some ⟨gg, 0, none⟩) (a.length + k + 1) cap) (a.length + k + 1) (ndsOf (a ++ (p.map (onNd (a.length : Int))).take k) ++ ndCells (onNd (a.length : Int) x))) (hat : ov.ownBlock = some gg ∨ gg = w3.heap.size + 1) :
    BehRel w b av a p (k + 1) w4 (.slice (some ⟨gg, 0, none⟩) (a.length + k + 1) cap) := by
  have hk := (List.getElem?_eq_some_iff.1 hx).1
  have hs := h.grown.size
  have hs3 := hb.size
  refine ⟨by omega, ?_, grown_chain h.grown hb hg h.blk, fun j hj => ?_⟩
  · rw [List.take_add_one, List.getElem?_map, hx, show (Option.map (onNd (a.length : Int)) (some x)).toList = [onNd (a.length : Int) x] from rfl, ← List.append_assoc, nds_snoc]
    exact hown
  · have hj' : gg = j := by simpa [Value.ownBlock] using hj
    subst hj'
    rcases hat with h1 | h1
    · exact h.blk _ h1
    · exact .inr (by omega)

set_option maxRecDepth 100000 in
set_option maxHeartbeats 1000000 in
theorem behind_own (av pv : Value) (a p : List Nd) (b : Nat) (w : World) (hown : w.ownsRow b 58 6 av a.length (ndsOf a)) (hb : b ≤ w.heap.size) (hp : Nodes w pv p) (hlow : 0 < p.length → ∀ g o n c, pv = .slice (some ⟨g, o, none⟩) n c → av.ownBlock ≠ some g) (hn : a.length + p.length ≤ 100000) :
    Calls Tryz.prog 129 #[av, pv] w (OrderPost w b av a (p.map (onNd (a.length : Int)))) := by
  obtain ⟨A, c, rfl, h1, h2, hA⟩ := hp
  unfold maxLen at h2
  have HA := Lib.hid hA
  have HLOW := Lib.hid hlow
  have HOB := Lib.hid (show ∀ k, av.ownBlock = some k → b ≤ k from fun k hk => (hown.lt k hk).1)
  have HREL0 : Hid (BehRel w b av a p 0 w av) := Lib.hid ⟨Nat.zero_le _, by simpa using hown, World.grownBy.refl _ _, fun j hj => .inl hj⟩
  obtain ⟨A1, c1, rfl, y1, y2, _⟩ := Nodes.of_own hown
  unfold maxLen at y2
  obtain ⟨i1, hi', hz0', hz1', hz2'⟩ := info_parts info30
  clear hA hown hlow
  go_enter Tryz.func129, Tryz.ntmps129
  go_wp2
  go_loopw [0, 6] (fun s0 i wr => ∃ (k : Nat) (ov : Value), ov = s0 ∧ i = .int .i64 k ∧ BehRel w b (.slice A1 a.length c1) a p k wr ov) (fun _ i _ => p.length - (intOf i).toNat)
  case atStart => exact ⟨0, _, rfl, rfl, HREL0.out⟩
  case round =>
    obtain ⟨k, ov, rfl, rfl, hrel⟩ := hrel
    have hk := hrel.le
    have HREL := Lib.hid hrel
    have hs := hrel.grown.size
    by_cases hlt : k < p.length
    · obtain ⟨x, hx⟩ : ∃ x, p[k]? = some x := ⟨_, List.getElem?_eq_getElem hlt⟩
      obtain ⟨g, o, rfl, hg, a0, a1, a2, a3, a4, a5⟩ := HA.out k x hx
      have hgb := HLOW.out (by omega) g o _ _ rfl
      have HGB := Lib.hid (hrel.grown.block g hg (fun h => hgb h.symm))
      have b0 := (World.cell?_of_block (w := w) (a := ⟨g, o + k * 6, none⟩) HGB.out).trans a0
      have b1 := (World.cell?_of_block (w := w) (a := ⟨g, o + k * 6 + 1, none⟩) HGB.out).trans a1
      have b2 := (World.cell?_of_block (w := w) (a := ⟨g, o + k * 6 + 2, none⟩) HGB.out).trans a2
      have b3 := (World.cell?_of_block (w := w) (a := ⟨g, o + k * 6 + 3, none⟩) HGB.out).trans a3
      have b4 := (World.cell?_of_block (w := w) (a := ⟨g, o + k * 6 + 4, none⟩) HGB.out).trans a4
      have b5 := (World.cell?_of_block (w := w) (a := ⟨g, o + k * 6 + 5, none⟩) HGB.out).trans a5
      have HX := Lib.hid hx
      clear hx a0 a1 a2 a3 a4 a5 hrel
      go_wp2_with fail
      refine (move_any _ _ _ _ _ _ _ _).mono ?_
      rintro r w3 ⟨rfl, hb3⟩
      have hs3 := hb3.size
      have HB3 := Lib.hid hb3
      have HO3 := Lib.hid (own_below HREL.out.own hb3)
      clear hb3 b0 b1 b2 b3 b4 b5
      go_wp2_with (at_builtin; refine wpList_append_lies _ rfl (.tmp 15) (.tmp 22) 23 rfl b 58 i1 _ 6 56 Tryz.underlying23 hi' hz0' hz1' hz2' rfl (by decide) ov (a.length + k) _ rfl (HO3.out.alloc _) ⟨w3.heap.size, 0, none⟩ 1 1 (ndCells (onNd (a.length : Int) x)) rfl rfl ?a2 ?b2 (by omega) ?c2 ?d2 ?e2 (w3.heap.size + 1) ?f2 ?_)
      case a2 => exact World.news_of_block (t := 58) (fr := (0, 0)) (heap_alloc_new _ _)
      case b2 => simp [ndCells, Value.oneCell']
      case c2 => unfold maxLen; omega
      case d2 => omega
      case e2 => simp; omega
      case f2 => simp
      intro gg cap w4 hown4 hg4 hat _
      have R := Lib.hid (beh_step HX.out HREL.out HB3.out hg4 hown4 hat)
      clear hown4 hg4 hat
      go_wp2
      refine ⟨⟨k + 1, _, rfl, by go_num, R.out⟩, by simp [intOf]; omega⟩
    · have hkl : k = p.length := by omega
      subst hkl
      clear hrel
      go_wp2
      go_ret
      refine ⟨_, rfl, ?_, HREL.out.grown, HREL.out.blk⟩
      have := HREL.out.own
      rw [List.take_of_length_le (by simp)] at this
      rw [List.length_append, List.length_map]; exact this
end Go.Proofs.YtgohhnbdicdenaaGreatDoor.Tr

/- The function laid lays an expression's nodes behind others. Conditions: the slices are read as lists of nodes; what is laid stands apart from what it is laid of. -/
namespace Go.Proofs.YtgohhnbdicdenaaGreatDoor.Tr
open Go.ChangeShapes Go.WideShapes Go.ChangeAt Go.RowKit
set_option linter.unusedVariables false
set_option linter.unusedSimpArgs false

set_option maxRecDepth 100000 in
set_option maxHeartbeats 1000000 in
theorem laid_any (av pv : Value) (a p : List Nd) (b : Nat) (w : World) (hown : w.ownsRow b 58 6 av a.length (ndsOf a)) (hb : b ≤ w.heap.size) (hp : Nodes w pv p) (hlow : 0 < p.length → ∀ g o n c, pv = .slice (some ⟨g, o, none⟩) n c → g < b) (hn : a.length + p.length ≤ 100000) :
    Calls Tryz.prog 174 #[av, pv] w (OrderPost w b av a (p.map (onNd (a.length : Int)))) := by
  obtain ⟨A, c, rfl, h1, h2, hA⟩ := hp
  unfold maxLen at h2
  have HA := Lib.hid hA
  have HLOW := Lib.hid hlow
  have HOB := Lib.hid (show ∀ k, av.ownBlock = some k → b ≤ k from fun k hk => (hown.lt k hk).1)
  have HREL0 : Hid (BehRel (w.alloc (.cells #[.int .i64 (a.length : Int)] 3)) b av a p 0 (w.alloc (.cells #[.int .i64 (a.length : Int)] 3)) av) := Lib.hid ⟨Nat.zero_le _, by simpa using hown.alloc _, World.grownBy.refl _ _, fun j hj => .inl hj⟩
  have HOL := Lib.hid (show ∀ k, av.ownBlock = some k → k < w.heap.size from fun k hk => (hown.lt k hk).2)
  obtain ⟨A1, c1, rfl, y1, y2, _⟩ := Nodes.of_own hown
  unfold maxLen at y2
  obtain ⟨i1, hi', hz0', hz1', hz2'⟩ := info_parts info30
  clear hA hown hlow
  go_enter Tryz.func174, Tryz.ntmps174
  go_wp2
  go_loopw [0, 12] (fun s0 i wr => ∃ (k : Nat) (ov : Value), ov = s0 ∧ i = .int .i64 k ∧ BehRel (w.alloc (.cells #[.int .i64 (a.length : Int)] 3)) b (.slice A1 a.length c1) a p k wr ov) (fun _ i _ => p.length - (intOf i).toNat)
  case atStart => exact ⟨0, _, rfl, rfl, HREL0.out⟩
  case round =>
    obtain ⟨k, ov, rfl, rfl, hrel⟩ := hrel
    have hk := hrel.le
    have HREL := Lib.hid hrel
    have hs := hrel.grown.size
    simp at hs
    have HF := Lib.hid ((hrel.grown.block w.heap.size (by simp) (fun h => by have := HOL.out _ h.symm; omega)).trans (heap_alloc_new w _))
    have cF := cell_of_one HF.out
    have hneF : w.heap.size ≠ wr.heap.size := by omega
    by_cases hlt : k < p.length
    · obtain ⟨x, hx⟩ : ∃ x, p[k]? = some x := ⟨_, List.getElem?_eq_getElem hlt⟩
      obtain ⟨g, o, rfl, hg, a0, a1, a2, a3, a4, a5⟩ := HA.out k x hx
      have hgb := HLOW.out (by omega) g o _ _ rfl
      have HGB := Lib.hid ((hrel.grown.block g (by simp; omega) (fun h => by have := HOB.out g h.symm; omega)).trans (Below.heap_alloc w _ g hg))
      have hgnw : g ≠ wr.heap.size := by omega
      have b0 := (World.cell?_of_block (w := w) (a := ⟨g, o + k * 6, none⟩) HGB.out).trans a0
      have b1 := (World.cell?_of_block (w := w) (a := ⟨g, o + k * 6 + 1, none⟩) HGB.out).trans a1
      have b2 := (World.cell?_of_block (w := w) (a := ⟨g, o + k * 6 + 2, none⟩) HGB.out).trans a2
      have b3 := (World.cell?_of_block (w := w) (a := ⟨g, o + k * 6 + 3, none⟩) HGB.out).trans a3
      have b4 := (World.cell?_of_block (w := w) (a := ⟨g, o + k * 6 + 4, none⟩) HGB.out).trans a4
      have b5 := (World.cell?_of_block (w := w) (a := ⟨g, o + k * 6 + 5, none⟩) HGB.out).trans a5
      have HX := Lib.hid hx
      clear hx a0 a1 a2 a3 a4 a5 hrel
      go_wp2_with fail
      refine (moved54 _ _ _ _ _ _ ⟨w.heap.size, 0, none⟩ (a.length : Int) _ (by exact (World.cell?_alloc_lt _ _ _ (by simp; omega)).trans cF)).mono ?_
      rintro r w3 ⟨rfl, hb3⟩
      have hs3 := hb3.size
      simp at hs3
      have HB3 := Lib.hid ((below_new wr _).trans (hb3.mono (by simp)))
      have HO3 := Lib.hid (own_below HREL.out.own HB3.out)
      clear hb3 b0 b1 b2 b3 b4 b5
      go_wp2_with (at_builtin; refine wpList_append_lies _ rfl (.tmp 16) (.tmp 20) 23 rfl b 58 i1 _ 6 56 Tryz.underlying23 hi' hz0' hz1' hz2' rfl (by decide) ov (a.length + k) _ rfl (HO3.out.alloc _) ⟨w3.heap.size, 0, none⟩ 1 1 (ndCells (onNd (a.length : Int) x)) rfl rfl ?a2 ?b2 (by omega) ?c2 ?d2 ?e2 (w3.heap.size + 1) ?f2 ?_)
      case a2 => exact World.news_of_block (t := 58) (fr := (0, 0)) (heap_alloc_new _ _)
      case b2 => simp [ndCells, Value.oneCell']
      case c2 => unfold maxLen; omega
      case d2 => omega
      case e2 => simp; omega
      case f2 => simp
      intro gg cap w4 hown4 hg4 hat _
      have R := Lib.hid (beh_step HX.out HREL.out HB3.out hg4 hown4 hat)
      clear hown4 hg4 hat
      go_wp2
      refine ⟨⟨k + 1, _, rfl, by go_num, R.out⟩, by simp [intOf]; omega⟩
    · have hkl : k = p.length := by omega
      subst hkl
      clear hrel
      go_wp2
      go_ret
      have g1 := HREL.out.grown
      refine ⟨_, rfl, ?_, ⟨g1.os, g1.tape, g1.output, by have := g1.size; simp at this; omega, fun k hk hn => (g1.block k (by simp; omega) hn).trans (Below.heap_alloc w _ k hk)⟩, fun j hj => by
        rcases HREL.out.blk j hj with h1 | h1
        · exact .inl h1
        · exact .inr (by simp at h1; omega)⟩
      have := HREL.out.own
      rw [List.take_of_length_le (by simp)] at this
      rw [List.length_append, List.length_map]; exact this
end Go.Proofs.YtgohhnbdicdenaaGreatDoor.Tr

/- The function call lays the parts of a Call, an Args behind each, and the Call. Conditions: the slices are read as lists; the parts stand apart from what they are laid behind. -/
namespace Go.Proofs.YtgohhnbdicdenaaGreatDoor.Tr
open Go.ChangeShapes Go.WideShapes Go.ChangeAt Go.RowKit
set_option linter.unusedVariables false
set_option linter.unusedSimpArgs false

/-- A slice value reads as a list of expressions, all of it below a block. -/
def Parts (w : World) (b : Nat) (v : Value) (ls : List (List Nd)) : Prop :=
  ∃ A c, v = .slice A ls.length c ∧ ls.length ≤ c ∧ c ≤ maxLen ∧ ∀ i l, ls[i]? = some l → ∃ g o u, A = some ⟨g, o, none⟩ ∧ g < b ∧ g < w.heap.size ∧ w.cell? ⟨g, o + i, none⟩ = some u ∧ Nodes w u l ∧
    (0 < l.length → ∀ g o n c, u = .slice (some ⟨g, o, none⟩) n c → g < b)
theorem Nodes.low {w w' : World} {u : Value} {l : List Nd} {b : Nat} (h : Nodes w u l) (hl : 0 < l.length → ∀ g o n c, u = .slice (some ⟨g, o, none⟩) n c → g < b) (hs : w.heap.size ≤ w'.heap.size) (hk : ∀ g, g < b → g < w.heap.size → w'.heap[g]? = w.heap[g]?) : Nodes w' u l := by
  obtain ⟨A, c, rfl, h1, h2, h3⟩ := h
  refine ⟨A, c, rfl, h1, h2, fun i t hi => ?_⟩
  obtain ⟨g, o, rfl, hlt, c0, c1, c2, c3, c4, c5⟩ := h3 i t hi
  have q : ∀ k, w'.cell? ⟨g, k, none⟩ = w.cell? ⟨g, k, none⟩ := fun k => World.cell?_of_block (w := w) (a := ⟨g, k, none⟩) (hk g (hl (by have := (List.getElem?_eq_some_iff.1 hi).1; omega) _ _ _ _ rfl) hlt)
  exact ⟨g, o, rfl, by omega, (q _).trans c0, (q _).trans c1, (q _).trans c2, (q _).trans c3, (q _).trans c4, (q _).trans c5⟩
/-- One part more of a Call: the nodes, the last one's number. -/
def callStep (s : List Nd × Int) (p : List Nd) : List Nd × Int :=
  (behindM s.1 p ++ [overM 28 0 [] [((behindM s.1 p).length : Int) - 1, s.2]], ((behindM s.1 p).length : Int))
def callF (out : List Nd) (ls : List (List Nd)) : List Nd × Int := ls.foldl callStep (out, -1)
def callM (out : List Nd) (n : Int) (s : Bytes) (ls : List (List Nd)) : List Nd := (callF out ls).1 ++ [overM 27 n s [(callF out ls).2]]
theorem callF_next (out : List Nd) (ls : List (List Nd)) (k : Nat) (p : List Nd) (h : ls[k]? = some p) : callF out (ls.take (k + 1)) = callStep (callF out (ls.take k)) p := by
  unfold callF; rw [List.take_add_one, h, show (some p).toList = [p] from rfl, List.foldl_append]; rfl
theorem behind_len (a p : List Nd) : (behindM a p).length = a.length + p.length := by unfold behindM; simp
theorem callF_len (out : List Nd) (ls : List (List Nd)) : (callF out ls).1.length = out.length + (ls.map (fun p => p.length + 1)).sum := by
  unfold callF
  generalize (-1 : Int) = z
  induction ls generalizing out z with
  | nil => simp
  | cons p r ih =>
    rw [List.foldl_cons]
    show (r.foldl callStep (behindM out p ++ _, _)).1.length = _
    rw [ih, List.length_append, behind_len, List.map_cons, List.sum_cons]; simp; omega
theorem callF_mono (out : List Nd) (ls : List (List Nd)) (k : Nat) : (callF out (ls.take k)).1.length ≤ (callF out ls).1.length := by
  rw [callF_len, callF_len]
  conv => rhs; rw [← List.take_append_drop k ls]
  rw [List.map_append, List.sum_append]; omega
theorem callF_step_len (out : List Nd) (ls : List (List Nd)) (k : Nat) (p : List Nd) (h : ls[k]? = some p) : (callF out (ls.take k)).1.length + p.length + 1 ≤ (callF out ls).1.length := by
  have := callF_mono out ls (k + 1)
  rw [callF_next out ls k p h] at this
  unfold callStep at this
  rw [List.length_append, behind_len] at this
  simpa using this
theorem grown_trans {w wr w3 : World} {row row2 : Option Nat} (g1 : w.grownBy wr row) (g2 : wr.grownBy w3 row2) (hr : ∀ k, row2 = some k → row = some k ∨ w.heap.size ≤ k) : w.grownBy w3 row := by
  have hs := g1.size
  have hs2 := g2.size
  refine ⟨g2.os.trans g1.os, g2.tape.trans g1.tape, g2.output.trans g1.output, by omega, fun k hk hn => ?_⟩
  rw [g2.block k (by omega) (fun h2 => by
    rcases hr k h2.symm with h3 | h3
    · exact hn h3.symm
    · omega)]
  exact g1.block k hk hn
theorem over2 (o n x y : Int) (s : ByteArray) (v : Value) (w : World) (hv : Ints w v [x, y]) : Calls Tryz.prog 173 #[.int .i64 o, .int .i64 n, .string s, v] w
    fun e w' => e = .returned (.agg #[.int .i64 o, .int .i64 x, .int .i64 y, .int .i64 (-1), .int .i64 n, .string s]) ∧ Below w.heap.size w w' := over_any o n s v [x, y] w hv (by simp)
theorem over1 (o n x : Int) (s : ByteArray) (v : Value) (w : World) (hv : Ints w v [x]) : Calls Tryz.prog 173 #[.int .i64 o, .int .i64 n, .string s, v] w
    fun e w' => e = .returned (.agg #[.int .i64 o, .int .i64 x, .int .i64 (-1), .int .i64 (-1), .int .i64 n, .string s]) ∧ Below w.heap.size w w' := over_any o n s v [x] w hv (by simp)
/-- The loop's relation: the first parts are laid. -/
structure CallRel (w : World) (b : Nat) (av : Value) (out : List Nd) (ls : List (List Nd)) (k : Nat) (wr : World) (ov : Value) : Prop where
  le : k ≤ ls.length
  own : wr.ownsRow b 58 6 ov (callF out (ls.take k)).1.length (ndsOf (callF out (ls.take k)).1)
  grown : w.grownBy wr av.ownBlock
  blk : ∀ j, ov.ownBlock = some j → av.ownBlock = some j ∨ w.heap.size ≤ j
/-- What a call leaves that lays nodes into a row. -/
def RowPost (w : World) (b : Nat) (av : Value) (l : List Nd) (r : Ending) (w' : World) : Prop :=
  ∃ ov', r = .returned ov' ∧ w'.ownsRow b 58 6 ov' l.length (ndsOf l) ∧ w.grownBy w' av.ownBlock ∧ ∀ k, ov'.ownBlock = some k → av.ownBlock = some k ∨ w.heap.size ≤ k
/-- An append's end, where the world stands behind one that is grown. -/
theorem row_end {w wr w3 w4 : World} {b : Nat} {av ov : Value} {l : List Nd} {N gg cap : Nat} {y : Nd} {o : Obj} (g1 : w.grownBy wr av.ownBlock) (hblk : ∀ j, ov.ownBlock = some j → av.ownBlock = some j ∨ w.heap.size ≤ j)
    (hb3 : Below wr.heap.size wr w3) (hg : (w3.alloc o).grownBy w4 ov.ownBlock) (hN : l.length = N)
    (hown : w4.ownsRow b 58 6 (.slice (some ⟨gg, 0, none⟩) (N + 1) cap) (N + 1) (ndsOf l ++ ndCells y)) (hat : ov.ownBlock = some gg ∨ gg = w3.heap.size + 1) :
    w4.ownsRow b 58 6 (.slice (some ⟨gg, 0, none⟩) (N + 1) cap) (l ++ [y]).length (ndsOf (l ++ [y])) ∧ w.grownBy w4 av.ownBlock ∧ ∀ k, (Value.slice (some ⟨gg, 0, none⟩) (N + 1) cap).ownBlock = some k → av.ownBlock = some k ∨ w.heap.size ≤ k := by
  have hs := g1.size
  have hs3 := hb3.size
  refine ⟨?_, grown_chain g1 hb3 hg hblk, fun j hj => ?_⟩
  · rw [nds_snoc, List.length_append, hN]; exact hown
  · have hj' : gg = j := by simpa [Value.ownBlock] using hj
    subst hj'
    rcases hat with h1 | h1
    · exact hblk _ h1
    · exact .inr (by omega)

set_option maxRecDepth 100000 in
set_option maxHeartbeats 1000000 in
theorem call_any (av pv : Value) (out : List Nd) (ls : List (List Nd)) (n : Int) (s : Bytes) (b : Nat) (w : World) (hown : w.ownsRow b 58 6 av out.length (ndsOf out)) (hb : b ≤ w.heap.size) (hp : Parts w b pv ls) (hn : (callF out ls).1.length ≤ 90000) :
    Calls Tryz.prog 172 #[av, .int .i64 n, .string (str s), pv] w (RowPost w b av (callM out n s ls)) := by
  obtain ⟨A, c, rfl, h1, h2, hA⟩ := hp
  unfold maxLen at h2
  have HA := Lib.hid hA
  have HOB := Lib.hid (show ∀ k, av.ownBlock = some k → b ≤ k from fun k hk => (hown.lt k hk).1)
  have HREL0 : Hid (CallRel w b av out ls 0 w av) := Lib.hid ⟨Nat.zero_le _, by simpa [callF] using hown, World.grownBy.refl _ _, fun j hj => .inl hj⟩
  obtain ⟨i1, hi', hz0', hz1', hz2'⟩ := info_parts info30
  clear hA hown
  go_enter Tryz.func172, Tryz.ntmps172
  go_wp2
  go_loopw [0, 9, 14] (fun s0 la i wr => ∃ (k : Nat) (ov : Value), ov = s0 ∧ la = .int .i64 (callF out (ls.take k)).2 ∧ i = .int .i64 k ∧ CallRel w b av out ls k wr ov) (fun _ _ i _ => ls.length - (intOf i).toNat)
  case atStart => exact ⟨0, _, rfl, by simp [callF], rfl, HREL0.out⟩
  case round =>
    obtain ⟨k, ov, rfl, rfl, rfl, hrel⟩ := hrel
    have hk := hrel.le
    have HREL := Lib.hid hrel
    have hs := hrel.grown.size
    have HLO := Lib.hid (show ∀ g, g < b → g < w.heap.size → wr.heap[g]? = w.heap[g]? from fun g h1 h2 => hrel.grown.block g h2 (fun h => by have := HOB.out g h.symm; omega))
    clear hrel
    by_cases hlt : k < ls.length
    · obtain ⟨p, hp⟩ : ∃ p, ls[k]? = some p := ⟨_, List.getElem?_eq_getElem hlt⟩
      obtain ⟨g, o, u, rfl, hgb, hg, d0, hu, hul⟩ := HA.out k p hp
      have c0 := (World.cell?_of_block (w := w) (a := ⟨g, o + k, none⟩) (HLO.out g hgb hg)).trans d0
      have HU := Lib.hid (hu.low hul hs HLO.out)
      have HUL := Lib.hid hul
      have HP := Lib.hid hp
      clear hp hu d0 hul
      have HLEN := Lib.hid (callF_step_len out ls k p HP.out)
      have hln := Nat.le_trans HLEN.out hn
      go_wp2_with fail
      refine (laid_any ov u (callF out (ls.take k)).1 p b _ HREL.out.own (by omega) HU.out HUL.out (by omega)).mono ?_
      rintro r w3 ⟨ov2, rfl, hown3, hg3, hblk3⟩
      obtain ⟨A3, c3, rfl, z1, z2, _⟩ := Nodes.of_own hown3
      have hs3 := hg3.size
      obtain ⟨N, hN⟩ : ∃ N, ((callF out (ls.take k)).1 ++ p.map (onNd ((callF out (ls.take k)).1.length : Int))).length = N := ⟨_, rfl⟩
      have HN := Lib.hid hN
      have hNm : N ≤ 90000 := by rw [← hN, List.length_append, List.length_map]; omega
      have HG3 := Lib.hid (grown_trans HREL.out.grown hg3 HREL.out.blk)
      have HB3 := Lib.hid (show ∀ j, (Value.slice A3 ((callF out (ls.take k)).1 ++ p.map (onNd ((callF out (ls.take k)).1.length : Int))).length c3).ownBlock = some j → av.ownBlock = some j ∨ w.heap.size ≤ j from fun j hj => by
        rcases hblk3 j hj with h1 | h1
        · exact HREL.out.blk j h1
        · exact .inr (by omega))
      have HO3 := Lib.hid hown3
      have HNX := Lib.hid (callF_next out ls k p HP.out)
      clear hown3 hg3 hblk3 hln hN
      rw [HN.out] at z1
      unfold maxLen at z2
      obtain ⟨la, hla⟩ : ∃ la, (callF out (ls.take k)).2 = la := ⟨_, rfl⟩
      have HLA := Lib.hid hla
      clear hla
      rw [HN.out]
      go_wp2_with fail
      refine (over2 28 0 _ _ ⟨#[]⟩ _ _ (by exact Ints.of_own (ints_lit w3 [(N : Int) - 1, (callF out (ls.take k)).2] (by unfold maxLen; simp)))).mono ?_
      rintro r w4 ⟨rfl, hb4⟩
      have hb34 := (below_new w3 (.cells (intsOf [(N : Int) - 1, (callF out (ls.take k)).2]).toArray 3)).trans (hb4.mono (by simp))
      have hs4 := hb34.size
      have HB34 := Lib.hid hb34
      have HO4 := Lib.hid (own_below HO3.out hb34)
      rw [HN.out] at HO4
      clear hb4 hb34
      go_wp2_with (at_builtin; refine wpList_append_lies _ rfl (.tmp 21) (.tmp 28) 23 rfl b 58 i1 _ 6 56 Tryz.underlying23 hi' hz0' hz1' hz2' rfl (by decide) _ N _ rfl (HO4.out.alloc _) ⟨w4.heap.size, 0, none⟩ 1 1 (ndCells (overM 28 0 [] [(N : Int) - 1, (callF out (ls.take k)).2])) rfl rfl ?a2 ?b2 (by omega) ?c2 ?d2 ?e2 (w4.heap.size + 1) ?f2 ?_)
      case a2 => exact World.news_of_block (t := 58) (fr := (0, 0)) (heap_alloc_new _ _)
      case b2 => simp [ndCells, Value.oneCell']
      case c2 => unfold maxLen; omega
      case d2 => omega
      case e2 => simp; omega
      case f2 => simp
      intro gg cap w5 hown5 hg5 hat _
      rw [HN.out] at HB3
      have R0 := row_end HG3.out HB3.out HB34.out hg5 HN.out hown5 hat
      have HST : Hid (callF out (ls.take (k + 1)) = (((callF out (ls.take k)).1 ++ p.map (onNd ((callF out (ls.take k)).1.length : Int))) ++ [overM 28 0 [] [(N : Int) - 1, (callF out (ls.take k)).2]], (N : Int))) := Lib.hid (by
        rw [HNX.out]; unfold callStep behindM; rw [HN.out])
      have R := Lib.hid (show CallRel w b av out ls (k + 1) w5 (.slice (some ⟨gg, 0, none⟩) (N + 1) cap) from ⟨by omega, by rw [HST.out]; exact R0.1, R0.2.1, R0.2.2⟩)
      clear R0 hown5 hg5 hat
      go_wp2
      refine ⟨⟨k + 1, _, rfl, ?_, by go_num, R.out⟩, by simp [intOf]; omega⟩
      rw [HST.out]
    · have hkl : k = ls.length := by omega
      subst hkl
      have HTK := Lib.hid (show ls.take ls.length = ls from List.take_length)
      have hown3 := HREL.out.own
      rw [HTK.out] at hown3
      obtain ⟨N, hN⟩ : ∃ N, (callF out ls).1.length = N := ⟨_, rfl⟩
      have HN := Lib.hid hN
      have HO3 := Lib.hid hown3
      rw [hN] at hn
      clear hown3 hN
      go_wp2_with fail
      refine (over1 27 n _ _ _ _ (by exact Ints.of_own (ints_lit wr [(callF out ls).2] (by unfold maxLen; simp)))).mono ?_
      rintro r w4 ⟨rfl, hb4⟩
      have hb34 := (below_new wr (.cells (intsOf [(callF out ls).2]).toArray 3)).trans (hb4.mono (by simp))
      have hs4 := hb34.size
      have HB34 := Lib.hid hb34
      have HO4 := Lib.hid (own_below HO3.out hb34)
      rw [HN.out] at HO4
      clear hb4 hb34
      go_wp2_with (at_builtin; refine wpList_append_lies _ rfl (.tmp 34) (.tmp 40) 23 rfl b 58 i1 _ 6 56 Tryz.underlying23 hi' hz0' hz1' hz2' rfl (by decide) _ N _ rfl (HO4.out.alloc _) ⟨w4.heap.size, 0, none⟩ 1 1 (ndCells (overM 27 n s [(callF out ls).2])) rfl rfl ?a2 ?b2 (by omega) ?c2 ?d2 ?e2 (w4.heap.size + 1) ?f2 ?_)
      case a2 => exact World.news_of_block (t := 58) (fr := (0, 0)) (heap_alloc_new _ _)
      case b2 => simp [ndCells, Value.oneCell']
      case c2 => unfold maxLen; omega
      case d2 => omega
      case e2 => simp; omega
      case f2 => simp
      intro gg cap w5 hown5 hg5 hat _
      have R0 := Lib.hid (row_end HREL.out.grown HREL.out.blk HB34.out hg5 HN.out hown5 hat)
      clear hown5 hg5 hat
      go_wp2
      go_ret
      exact ⟨_, rfl, R0.out.1, R0.out.2.1, R0.out.2.2⟩
end Go.Proofs.YtgohhnbdicdenaaGreatDoor.Tr

/- The function Join puts expressions together under an operator. Conditions: the slices are read as lists; what is put together is not too long. -/
namespace Go.Proofs.YtgohhnbdicdenaaGreatDoor.Tr
open Go.ChangeShapes Go.WideShapes Go.ChangeAt Go.RowKit
set_option linter.unusedVariables false
set_option linter.unusedSimpArgs false

/-- The nodes of the parts, one behind the other, and where each one's last node stands. -/
def layStep (s : List Nd × List Int) (p : List Nd) : List Nd × List Int := (behindM s.1 p, s.2 ++ [((behindM s.1 p).length : Int) - 1])
def layF (ls : List (List Nd)) : List Nd × List Int := ls.foldl layStep ([], [])
theorem layF_next (ls : List (List Nd)) (k : Nat) (p : List Nd) (h : ls[k]? = some p) : layF (ls.take (k + 1)) = layStep (layF (ls.take k)) p := by
  unfold layF; rw [List.take_add_one, h, show (some p).toList = [p] from rfl, List.foldl_append]; rfl
theorem layF_lens (ls : List (List Nd)) : (layF ls).1.length = (ls.map List.length).sum ∧ (layF ls).2.length = ls.length := by
  have key : ∀ (ls : List (List Nd)) (s : List Nd × List Int), (ls.foldl layStep s).1.length = s.1.length + (ls.map List.length).sum ∧ (ls.foldl layStep s).2.length = s.2.length + ls.length := by
    intro ls
    induction ls with
    | nil => intro s; simp
    | cons p r ih =>
      intro s
      rw [List.foldl_cons]
      obtain ⟨h1, h2⟩ := ih (layStep s p)
      rw [h1, h2]
      unfold layStep
      rw [behind_len]
      simp; omega
  have := key ls ([], [])
  unfold layF; simpa using this
/-- How many nodes parts have, with one more for each. -/
def roomM (ls : List (List Nd)) : Nat := (ls.map (fun p => p.length + 1)).sum
theorem room_sum (ls : List (List Nd)) : roomM ls = (ls.map List.length).sum + ls.length := by
  unfold roomM
  induction ls with
  | nil => rfl
  | cons p r ih => rw [List.map_cons, List.sum_cons, ih, List.map_cons, List.sum_cons, List.length_cons]; omega
theorem sum_take (ls : List (List Nd)) (k : Nat) : ((ls.take k).map List.length).sum ≤ (ls.map List.length).sum := by
  conv => rhs; rw [← List.take_append_drop k ls]
  rw [List.map_append, List.sum_append]; omega
theorem sum_next (ls : List (List Nd)) (k : Nat) (p : List Nd) (h : ls[k]? = some p) : ((ls.take (k + 1)).map List.length).sum = ((ls.take k).map List.length).sum + p.length := by
  rw [List.take_add_one, h, show (some p).toList = [p] from rfl, List.map_append, List.sum_append]; simp
/-- How many nodes the first parts have. -/
def sumM (ls : List (List Nd)) (k : Nat) : Nat := ((ls.take k).map List.length).sum
theorem sumM_zero (ls : List (List Nd)) : sumM ls 0 = 0 := by simp [sumM]
theorem sumM_le (ls : List (List Nd)) (k : Nat) : sumM ls k + ls.length ≤ roomM ls := by rw [room_sum]; have := sum_take ls k; unfold sumM; omega
theorem sumM_next (ls : List (List Nd)) (k : Nat) (p : List Nd) (h : ls[k]? = some p) : sumM ls (k + 1) = sumM ls k + p.length := sum_next ls k p h
/-- What is put together. -/
def joinM (o n : Int) (s : Bytes) (ls : List (List Nd)) : List Nd :=
  if ls.any List.isEmpty then [] else if o = 28 then [] else if o = 27 then callM [] n s ls
  else if (kidsM (overM o n s [])).length = ls.length then (layF ls).1 ++ [overM o n s (layF ls).2] else []
theorem any_empty (ls : List (List Nd)) (k : Nat) (p : List Nd) (h : ls[k]? = some p) (hp : p.length = 0) : ls.any List.isEmpty = true := by
  rw [List.any_eq_true]; exact ⟨p, List.mem_of_getElem? h, by rw [List.isEmpty_iff]; exact List.length_eq_zero_iff.1 hp⟩
theorem none_empty (ls : List (List Nd)) (h : ∀ k p, k < ls.length → ls[k]? = some p → p.length ≠ 0) : ls.any List.isEmpty = false := by
  rw [List.any_eq_false]
  intro p hp
  obtain ⟨k, hk⟩ := List.mem_iff_getElem?.1 hp
  have := h k p (List.getElem?_eq_some_iff.1 hk).1 hk
  rw [List.isEmpty_iff]; intro h0; subst h0; exact this rfl
theorem Parts.keep {w w' : World} {b : Nat} {v : Value} {ls : List (List Nd)} (h : Parts w b v ls) (hb : b ≤ w.heap.size) (hs : w.heap.size ≤ w'.heap.size) (hk : ∀ g, g < b → w'.heap[g]? = w.heap[g]?) : Parts w' b v ls := by
  obtain ⟨A, c, rfl, h1, h2, h3⟩ := h
  refine ⟨A, c, rfl, h1, h2, fun i l hi => ?_⟩
  obtain ⟨g, o, u, rfl, hgb, hg, c0, hu, hul⟩ := h3 i l hi
  exact ⟨g, o, u, rfl, hgb, by omega, (World.cell?_of_block (w := w) (a := ⟨g, o + i, none⟩) (hk g hgb)).trans c0, hu.low hul hs (fun g h _ => hk g h), hul⟩

/-- The second loop's relation: the first parts are laid. -/
structure JoinRel (w : World) (b : Nat) (ls : List (List Nd)) (k : Nat) (wr : World) (ov tv : Value) : Prop where
  le : k ≤ ls.length
  base : w.heap.size ≤ b
  own : wr.ownsRow b 58 6 ov (layF (ls.take k)).1.length (ndsOf (layF (ls.take k)).1)
  row : wr.ownsRow b 3 1 tv k (intsOf (layF (ls.take k)).2)
  below : Below w.heap.size w wr
theorem JoinRel.step {w wr w3 w4 : World} {b : Nat} {ls : List (List Nd)} {k : Nat} {p : List Nd} {ov ov2 tv tv' : Value} {o : Obj} (hp : ls[k]? = some p) (h : JoinRel w b ls k wr ov tv)
    (hown : w3.ownsRow b 58 6 ov2 (behindM (layF (ls.take k)).1 p).length (ndsOf (behindM (layF (ls.take k)).1 p))) (hg : wr.grownBy w3 ov.ownBlock)
    (htv : w3.ownsRow b 3 1 tv k (intsOf (layF (ls.take k)).2))
    (hrow : w4.ownsRow b 3 1 tv' (k + 1) (intsOf (layF (ls.take k)).2 ++ [.int .i64 (((behindM (layF (ls.take k)).1 p).length : Int) - 1)])) (hg4 : (w3.alloc o).grownBy w4 tv.ownBlock) : JoinRel w b ls (k + 1) w4 ov2 tv' := by
  have hk := (List.getElem?_eq_some_iff.1 hp).1
  have e := layF_next ls k p hp
  have hs := h.below.size
  have hs3 := hg.size
  have hs4 := hg4.size
  simp at hs4
  have hne := own_ne hown htv (by decide)
  have hb := h.base
  refine ⟨by omega, hb, ?_, ?_, ?_⟩
  · rw [e]
    exact own_block hown (fun g hgb => by
      rw [hg4.block g (by have := (hown.lt g hgb).2; simp; omega) (fun h' => hne g hgb h'.symm), Below.heap_alloc _ _ _ (hown.lt g hgb).2])
  · rw [e]; unfold layStep; rw [ints_snoc]; exact hrow
  · exact ((h.below.grown hg (by omega) (fun j hj => Nat.le_trans hb (h.own.lt j hj).1)).alloc (by omega) _).grown hg4 (by simp; omega) (fun j hj => Nat.le_trans hb (htv.lt j hj).1)

theorem overM_agg (o n : Int) (s : Bytes) (l : List Int) (v : Value) (w : World) (hv : Ints w v l) (h : l.length ≤ 3) : Calls Tryz.prog 173 #[.int .i64 o, .int .i64 n, .string (str s), v] w
    fun e w' => e = .returned (.agg #[.int .i64 (overM o n s l).op, .int .i64 (overM o n s l).a, .int .i64 (overM o n s l).b, .int .i64 (overM o n s l).c, .int .i64 (overM o n s l).n, .string (str (overM o n s l).name)]) ∧ Below w.heap.size w w' := over_any o n (str s) v l w hv h

set_option maxRecDepth 100000 in
set_option maxHeartbeats 2000000 in
theorem join_any (pv : Value) (ls : List (List Nd)) (o n : Int) (s : Bytes) (w : World) (hp : Parts w w.heap.size pv ls) (hn : roomM ls ≤ 80000) :
    Calls Tryz.prog 168 #[.int .i64 o, .int .i64 n, .string (str s), pv] w (NodesPost w (joinM o n s ls)) := by
  have HPV := Lib.hid hp
  obtain ⟨A, c, rfl, h1, h2, hA⟩ := hp
  unfold maxLen at h2
  have HA := Lib.hid hA
  have HSM := Lib.hid (sumM_le ls)
  have hll : ls.length ≤ 80000 := by have := HSM.out 0; omega
  obtain ⟨i0, hi, hz0, hz1, hz2⟩ := info_parts info3
  obtain ⟨i1, hi', hz0', hz1', hz2'⟩ := info_parts info30
  have H0 := Lib.hid (sumM_zero ls)
  clear hA
  go_enter Tryz.func168, Tryz.ntmps168
  go_wp2
  go_loop [9, 11, 18] (fun ro pa i => ∃ k : Nat, k ≤ ls.length ∧ i = .int .i64 k ∧ ro = .int .i64 (1 + (sumM ls k : Nat)) ∧ Hid (∀ j p, j < k → ls[j]? = some p → p.length ≠ 0)) (fun _ _ i => ls.length - (intOf i).toNat)
  case atStart => exact ⟨0, Nat.zero_le _, rfl, by rw [H0.out]; rfl, fun j p h => by omega⟩
  case round =>
    obtain ⟨k, hk, rfl, rfl, hne⟩ := hrel
    have hsk := HSM.out k
    by_cases hlt : k < ls.length
    · obtain ⟨p, hpk⟩ : ∃ p, ls[k]? = some p := ⟨_, List.getElem?_eq_getElem hlt⟩
      obtain ⟨g, o', u, rfl, hgb, hg, d0, hu, hul⟩ := HA.out k p hpk
      obtain ⟨A', c', rfl, y1, y2, _⟩ := hu
      unfold maxLen at y2
      have HPK := Lib.hid hpk
      have hnx := HSM.out (k + 1)
      have hnx2 := sumM_next ls k p hpk
      have HNX := Lib.hid hnx2
      have hpl : sumM ls k + p.length ≤ 80000 := by omega
      clear hpk hnx hnx2 hul
      by_cases hp0 : p.length = 0
      · have HR := Lib.hid (show joinM o n s ls = [] by unfold joinM; rw [any_empty ls k p HPK.out hp0]; simp)
        have hp0' : ((p.length : Int) == 0) = true := by rw [beq_iff_eq]; omega
        have HP0 := Lib.hid hp0
        clear hp0
        rw [HR.out]
        go_wp2
        go_ret
        exact nodes_none _ _ (Below.refl _ _)
      · have hp0' : ((p.length : Int) == 0) = false := by rw [beq_eq_false_iff_ne]; omega
        have HP0 := Lib.hid hp0
        clear hp0
        go_wp2
        refine ⟨⟨k + 1, by omega, by go_num, ?_, fun j q hj hq => ?_⟩, by simp [intOf]; omega⟩
        · rw [HNX.out]; go_num
        · by_cases hjk : j < k
          · exact hne.out j q hjk hq
          · have : j = k := by omega
            subst this
            have := HPK.out.symm.trans hq
            simp only [Option.some.injEq] at this
            subst this; exact HP0.out
    · have hkl : k = ls.length := by omega
      subst hkl
      have HNE := Lib.hid (none_empty ls (fun j p hj hp => hne.out j p hj hp))
      clear hne
      obtain ⟨S, hS⟩ : ∃ S, sumM ls ls.length = S := ⟨_, rfl⟩
      rw [hS] at hsk ⊢
      have HS := Lib.hid hS
      clear hS
      by_cases h28 : o = 28
      · have HR := Lib.hid (show joinM o n s ls = [] by unfold joinM; rw [HNE.out, if_pos h28]; simp)
        subst h28
        go_wp2
        go_ret
        rw [HR.out]
        exact nodes_none _ _ (Below.refl _ _)
      have h28' : (o == 28) = false := by rw [beq_eq_false_iff_ne]; exact h28
      by_cases h27 : o = 27
      · have HR := Lib.hid (show joinM o n s ls = callM [] n s ls by unfold joinM; rw [HNE.out, if_neg h28, if_pos h27]; simp)
        subst h27
        clear h28
        go_wp2_with (at_make; refine wpList_make_own _ rfl _ _ 23 rfl w.heap.size 58 i1 _ 6 Tryz.underlying23 hi' hz0' hz1' _ _ _ (1 + S + ls.length) rfl rfl ?m1 ?m2 ?m3 (Nat.le_refl _) ?_)
        case m2 => omega
        case m3 => unfold maxLen; omega
        intro w1 hown hgrow
        have hb1 : Below w.heap.size w w1 := (Below.refl _ _).grown hgrow (Nat.le_refl _) (fun k hk => by simp at hk)
        have HB1 := Lib.hid hb1
        have hs1 := hb1.size
        have HP1 := Lib.hid (HPV.out.keep (w' := w1) (Nat.le_refl _) hb1.size (fun g hg => hb1.block g hg))
        have HO1 := Lib.hid hown
        have HLEN := Lib.hid (show (callF [] ls).1.length ≤ 90000 by rw [callF_len]; unfold roomM at hn; simp; omega)
        clear hown hgrow hb1
        go_wp2_with fail
        refine (call_any _ _ [] ls n s w.heap.size _ HO1.out hs1 HP1.out HLEN.out).mono ?_
        rintro r w2 ⟨ov, rfl, hown2, hg2, -⟩
        have HO2 := Lib.hid hown2
        have HB2 := Lib.hid (HB1.out.grown hg2 hs1 (fun j hj => by simp [Value.ownBlock] at hj; omega))
        clear hown2 hg2
        go_wp2
        go_ret
        rw [HR.out]
        exact ⟨_, rfl, HO2.out, HB2.out⟩
      have h27' : (o == 27) = false := by rw [beq_eq_false_iff_ne]; exact h27
      obtain ⟨K, hK⟩ : ∃ K, kidsM (overM o n s []) = K := ⟨_, rfl⟩
      have HK := Lib.hid hK
      have hK3 : K.length ≤ 3 := by rw [← hK]; exact kids_small _
      have HJ := Lib.hid (show joinM o n s ls = if K.length = ls.length then (layF ls).1 ++ [overM o n s (layF ls).2] else [] by unfold joinM; rw [HNE.out, if_neg h28, if_neg h27, hK]; simp)
      clear h28 h27 hK
      go_wp2_with fail
      refine (overM_agg o n s [] _ _ ⟨none, 0, rfl, by simp, by unfold maxLen; omega, fun i t h => by simp at h⟩ (by simp)).mono ?_
      rintro r w2 ⟨rfl, hb2⟩
      have HB2 := Lib.hid hb2
      clear hb2
      go_wp2_with fail
      refine (kids_any (overM o n s []) _).mono ?_
      rintro r w3 ⟨kv, rfl, hok, hb3⟩
      rw [HK.out] at hok
      obtain ⟨A3, c3, rfl, z1, z2, _⟩ := Ints.of_own hok
      unfold maxLen at z2
      have hb3' := HB2.out.trans (hb3.mono (B' := w.heap.size) HB2.out.size)
      have HB3 := Lib.hid hb3'
      have hs3 := hb3'.size
      clear hok hb3 hb3'
      by_cases hlen : K.length = ls.length
      · have HJ2 := Lib.hid (show joinM o n s ls = (layF ls).1 ++ [overM o n s (layF ls).2] by rw [HJ.out, if_pos hlen])
        have hl' : ((ls.length : Int) != (K.length : Int)) = false := by simp [hlen]
        have hl3 : ls.length ≤ 3 := by omega
        clear hlen
        go_wp2_with (at_make; refine wpList_make_own _ rfl _ _ 23 rfl w.heap.size 58 i1 _ 6 Tryz.underlying23 hi' hz0' hz1' _ _ _ (1 + S) rfl rfl ?n1 ?n2 ?n3 hs3 ?_)
        case n1 => omega
        case n2 => rw [hz2']; omega
        case n3 => unfold maxLen; omega
        intro w4 hown hgrow
        have hb4 : Below w.heap.size w w4 := HB3.out.grown hgrow hs3 (fun k hk => by simp at hk)
        have HP4 := Lib.hid (HPV.out.keep (w' := w4) (Nat.le_refl _) hb4.size (fun g hg => hb4.block g hg))
        have HREL0 : Hid (JoinRel w w.heap.size ls 0 w4 (.slice (some ⟨w3.heap.size, 0, none⟩) 0 (1 + S)) (.slice none 0 0)) := Lib.hid ⟨Nat.zero_le _, Nat.le_refl _, by simpa [layF, ndsOf] using hown, World.ownsRow_nil _ _ _ _, hb4⟩
        clear hown hgrow hb4
        go_wp2
        go_loopw [12, 13, 15, 59] (fun s1 s2 pa i wr => ∃ (k : Nat) (ov tv : Value), ov = s1 ∧ tv = s2 ∧ i = .int .i64 k ∧ JoinRel w w.heap.size ls k wr ov tv) (fun _ _ _ i _ => ls.length - (intOf i).toNat)
        case atStart => exact ⟨0, _, _, rfl, rfl, rfl, HREL0.out⟩
        case round =>
          obtain ⟨k, ov, tv, rfl, rfl, rfl, hrel⟩ := hrel
          have hk := hrel.le
          have HREL := Lib.hid hrel
          have hs := hrel.below.size
          have HW := Lib.hid (show ∀ g, g < w.heap.size → wr.heap[g]? = w.heap[g]? from fun g hg => hrel.below.block g hg)
          clear hrel
          by_cases hlt : k < ls.length
          · obtain ⟨p, hpk⟩ : ∃ p, ls[k]? = some p := ⟨_, List.getElem?_eq_getElem hlt⟩
            obtain ⟨g, o', u, rfl, hgb, hg, d0, hu, hul⟩ := HA.out k p hpk
            have c0 := (World.cell?_of_block (w := w) (a := ⟨g, o' + k, none⟩) (HW.out g hg)).trans d0
            have HU := Lib.hid (hu.low hul hs (fun g h _ => HW.out g h))
            have HUL := Lib.hid hul
            have HPK := Lib.hid hpk
            have hlk : (layF (ls.take k)).1.length = sumM ls k := (layF_lens _).1
            have HLK := Lib.hid hlk
            have hnx2 := sumM_next ls k p hpk
            have hsl := HSM.out (k + 1)
            have hln : (layF (ls.take k)).1.length + p.length ≤ 80000 := by omega
            clear hpk hu d0 hul hlk hnx2 hsl
            go_wp2_with fail
            refine (laid_any ov u (layF (ls.take k)).1 p w.heap.size _ HREL.out.own hs HU.out HUL.out (by omega)).mono ?_
            rintro r w5 ⟨ov2, rfl, hown5, hg5, -⟩
            obtain ⟨A5, c5, rfl, x1, x2, _⟩ := Nodes.of_own hown5
            have hs5 := hg5.size
            have htv5 := own_block HREL.out.row (fun j hj => hg5.block j (HREL.out.row.lt j hj).2 (fun h => own_ne HREL.out.own HREL.out.row (by decide) j h.symm hj))
            have HO5 := Lib.hid hown5
            have HG5 := Lib.hid hg5
            have HT5 := Lib.hid htv5
            obtain ⟨N, hN⟩ : ∃ N, ((layF (ls.take k)).1 ++ p.map (onNd ((layF (ls.take k)).1.length : Int))).length = N := ⟨_, rfl⟩
            have HN := Lib.hid hN
            have hNm : N ≤ 80000 := by rw [← hN, List.length_append, List.length_map]; exact hln
            clear hown5 hg5 htv5 hN
            rw [HN.out] at x1
            rw [HN.out]
            unfold maxLen at x2
            go_wp2_with (at_builtin; refine wpList_append_own _ rfl (.tmp 66) (.tmp 70) 67 rfl w.heap.size 3 i0 _ 1 8 Tryz.underlying67 hi hz0 hz1 hz2 rfl (by decide) _ _ _ rfl (HT5.out.alloc _) ⟨w5.heap.size, 0, none⟩ 1 1 [.int .i64 ((N : Int) - 1)] rfl rfl ?a5 ?b5 ?c5 ?d5 ?e5 ?_)
            case a5 => exact cell_one_new _ _ _
            case b5 => intro u hu; simp at hu; subst hu; rfl
            case c5 => unfold maxLen; omega
            case d5 => omega
            case e5 => simp; omega
            intro tv' w6 hrow6 hg6 _
            have R := Lib.hid (HREL.out.step HPK.out HO5.out HG5.out HT5.out (by unfold behindM; rw [HN.out]; exact hrow6) hg6)
            rw [HN.out] at R
            clear hrow6 hg6
            go_wp2
            refine ⟨⟨k + 1, _, _, rfl, rfl, by go_num, R.out⟩, by simp [intOf]; omega⟩
          · have hkl : k = ls.length := by omega
            subst hkl
            have HTK := Lib.hid (show ls.take ls.length = ls from List.take_length)
            obtain ⟨N, hN⟩ : ∃ N, (layF ls).1.length = N := ⟨_, rfl⟩
            have hNm : N ≤ 80000 := by rw [← hN, (layF_lens ls).1]; have := room_sum ls; omega
            have HN := Lib.hid hN
            have HO := Lib.hid HREL.out.own
            have HT : Hid (Ints wr tv (layF ls).2) := Lib.hid (Ints.of_own (by have := HREL.out.row; rw [HTK.out] at this; rw [(layF_lens ls).2]; exact this))
            have hl2 : (layF ls).2.length ≤ 3 := by rw [(layF_lens ls).2]; exact hl3
            rw [HTK.out, HN.out] at HO
            clear hN
            go_wp2_with fail
            refine (overM_agg o n s (layF ls).2 _ _ HT.out hl2).mono ?_
            rintro r w5 ⟨rfl, hb5⟩
            have hs5 := hb5.size
            have HB5 := Lib.hid (HREL.out.below.trans (hb5.mono hs))
            have HO5 := Lib.hid (own_below HO.out hb5)
            obtain ⟨y, hy⟩ : ∃ y, overM o n s (layF ls).2 = y := ⟨_, rfl⟩
            have HY := Lib.hid hy
            rw [hy]
            clear hb5 hy
            go_wp2_with (at_builtin; refine wpList_append_own _ rfl (.tmp 73) (.tmp 79) 23 rfl w.heap.size 58 i1 _ 6 56 Tryz.underlying23 hi' hz0' hz1' hz2' rfl (by decide) _ N _ rfl (HO5.out.alloc _) ⟨w5.heap.size, 0, none⟩ 1 1 (ndCells y) rfl rfl ?a6 ?b6 ?c6 ?d6 ?e6 ?_)
            case a6 => exact World.news_of_block (t := 58) (fr := (0, 0)) (heap_alloc_new _ _)
            case b6 => simp [ndCells, Value.oneCell']
            case c6 => unfold maxLen; omega
            case d6 => omega
            case e6 => simp; omega
            intro v' w6 hown6 hg6 _
            have hB6 := (HB5.out.alloc (by omega) (.cells (ndCells y).toArray 58)).grown hg6 (by simp; omega) (fun j hj => (HO5.out.lt j hj).1)
            have HB6 := Lib.hid hB6
            have HO6 := Lib.hid hown6
            clear hown6 hg6 hB6
            go_wp2
            go_ret
            rw [HJ2.out, HY.out]
            refine ⟨_, rfl, ?_, HB6.out⟩
            rw [nds_snoc, List.length_append, HN.out]
            exact HO6.out
      · have HJ2 := Lib.hid (show joinM o n s ls = [] by rw [HJ.out, if_neg hlen])
        have hl' : ((ls.length : Int) != (K.length : Int)) = true := by rw [bne_iff_ne]; omega
        clear hlen
        go_wp2
        go_ret
        rw [HJ2.out]
        exact nodes_none _ _ HB3.out
end Go.Proofs.YtgohhnbdicdenaaGreatDoor.Tr

/- What layer expr makes of tokens, as plain functions: a reader's state, and what it reads. Conditions: none. -/
namespace Go.Proofs.YtgohhnbdicdenaaGreatDoor.Ex
open Go.Proofs.YtgohhnbdicdenaaGreatDoor.Tr
abbrev Tok := Lx.Tok

/-- A reader of tokens. -/
structure Rd where
  l : List Tok
  next : Nat
  begun : Nat
  code : Int
  at_ : Int
deriving DecidableEq

def atM (l : List Tok) (i : Nat) : Int := match l[i]? with | some t => (t.at_ : Int) | none => -1
def noTok : Tok := ⟨0, [], 0⟩
def Rd.cur (r : Rd) : Tok := (r.l[r.next]?).getD noTok
def Rd.ws (r : Rd) : Bool := decide (r.next < r.l.length) && (r.cur.kind == 3 || r.cur.kind == 4)
def Rd.isB (s : Bytes) (r : Rd) : Bool := r.ws && r.cur.text == s
def Rd.adv (r : Rd) : Rd := ⟨r.l, r.next + 1, r.begun, r.code, r.at_⟩
def Rd.fail (e : Int) (r : Rd) : Rd := if r.code = 0 then ⟨[], r.next, r.begun, e, atM r.l r.next⟩ else ⟨[], r.next, r.begun, r.code, r.at_⟩
def Rd.need (s : Bytes) (r : Rd) : Rd := if r.isB s then r.adv else r.fail 5
def Rd.open_ (r : Rd) : Rd := ⟨r.l, r.next, r.begun + 1, r.code, r.at_⟩
def Rd.shut (r : Rd) : Rd := ⟨r.l, r.next, r.begun - 1, r.code, r.at_⟩

/-- The operators of a level by their texts; whether their operands change places. -/
def signsM : Nat → List (Bytes × Int × Bool)
  | 1 => [([45, 62], 19, false)]
  | 2 => [([61, 62], 9, false)]
  | 3 => [([115, 105, 110, 99, 101], 20, false)]
  | 4 => [([111, 114], 7, false), ([120, 111, 114], 8, false)]
  | 5 => [([97, 110, 100], 6, false)]
  | 6 => [([61], 10, false), ([60, 62], 11, false), ([60], 12, false), ([60, 61], 13, false), ([62], 12, true), ([62, 61], 13, true)]
  | 7 => [([43], 14, false), ([45], 15, false)]
  | 8 => [([42], 16, false), ([100, 105, 118], 17, false), ([109, 111, 100], 18, false)]
  | 9 => [([110, 111, 116], 4, false), ([45], 5, false), ([112, 114, 101], 21, false), ([111, 110, 99, 101], 22, false), ([104, 105, 115, 116], 23, false), ([112, 114, 101, 118], 24, false), ([119, 105, 116, 104, 105, 110], 25, false)]
  | _ => []
def Rd.sign (n : Nat) (r : Rd) : Option (Int × Bool) := if r.ws then (signsM n).lookup r.cur.text else none

/-- What has been read: its nodes (none, if they are beyond the limits), how many, how deep. -/
structure Pt where
  e : List Nd
  nodes : Nat
  deep : Nat
deriving DecidableEq
def Pt.zero : Pt := ⟨[], 0, 0⟩
def nodesOf (op : Int) (ps : List Pt) : Nat := ps.foldl (fun a p => a + p.nodes + if op = 27 then 1 else 0) 1
def deepOf (op : Int) (ps : List Pt) : Nat := ps.foldl (fun a p => max a (1 + p.deep) + if op = 27 then 1 else 0) 1
def joined (op n : Int) (s : Bytes) (ps : List Pt) : Pt :=
  ⟨if nodesOf op ps ≤ 5000 ∧ deepOf op ps ≤ 40 then joinM op n s (ps.map Pt.e) else [], nodesOf op ps, deepOf op ps⟩
def sjoin (s : Int × Bool) (p q : Pt) : Pt := if s.2 then joined s.1 0 [] [q, p] else joined s.1 0 [] [p, q]
def foldR : List Pt → List (Int × Bool) → Pt
  | p :: ps, o :: os => sjoin o p (foldR ps os)
  | p :: _, [] => p
  | [], _ => Pt.zero

def numB (most : Nat) (t : Tok) : Bool := t.kind == 2 && decide (Lx.val t.text ≤ most)
def Rd.num (most : Nat) (r : Rd) : Nat := if numB most r.cur then Lx.val r.cur.text else 0
def Rd.numR (most : Nat) (r : Rd) : Rd := if numB most r.cur then r.adv else r.fail 5

inductive Task where
  | lev (n : Nat)
  | rl (n : Nat) (ps : List Pt) (ops : List (Int × Bool))
  | ll (n : Nat) (p : Pt)
  | opnd
  | single
  | named (s : Bytes)
  | args (s : Bytes) (ps : List Pt)

abbrev Out := Option (Pt × Rd)
def lp : Bytes := [40]
def rp : Bytes := [41]
def run : Nat → Task → Rd → Out
  | 0, _, _ => none
  | f + 1, .lev n, r =>
    if n = 9 then run f .opnd r else (run f (.lev (n + 1)) r).bind fun (p, r1) => if n ≤ 2 then run f (.rl n [p] []) r1 else run f (.ll n p) r1
  | f + 1, .rl n ps ops, r =>
    match r.sign n with
    | none => some (foldR ps ops, r)
    | some s => (run f (.lev (n + 1)) r.adv).bind fun (p, r1) => run f (.rl n (ps ++ [p]) (ops ++ [s])) r1
  | f + 1, .ll n p, r =>
    match r.sign n with
    | none => some (p, r)
    | some s => (run f (.lev (n + 1)) r.adv).bind fun (q, r1) => if n = 6 then some (sjoin s p q, r1) else run f (.ll n (sjoin s p q)) r1
  | f + 1, .opnd, r =>
    if r.begun = 200 then some (Pt.zero, r.fail 6) else
    match r.open_.sign 9 with
    | none => (run f .single r.open_).map fun (p, r1) => (p, r1.shut)
    | some s =>
      (run f .opnd (if s.1 = 25 then r.open_.adv.numR 1000 else r.open_.adv)).map fun (p, r1) => (joined s.1 (if s.1 = 25 then (r.open_.adv.num 1000 : Nat) else 0) [] [p], r1.shut)
  | f + 1, .single, r =>
    if r.isB lp then (run f (.lev 1) r.adv).map fun (p, r1) => (p, r1.need rp)
    else if r.isB [105, 102] then (run f (.lev 1) r.adv).bind fun (a, r1) => (run f (.lev 1) (r1.need [116, 104, 101, 110])).bind fun (b, r2) => (run f (.lev 1) (r2.need [101, 108, 115, 101])).map fun (c, r3) => (joined 26 0 [] [a, b, c], r3)
    else if r.isB [116, 114, 117, 101] then some (joined 2 1 [] [], r.adv)
    else if r.isB [102, 97, 108, 115, 101] then some (joined 2 0 [] [], r.adv)
    else if r.cur.kind = 2 then some (joined 1 (r.num 2147483647 : Nat) [] [], r.numR 2147483647)
    else if r.cur.kind = 1 ∧ r.cur.text ≠ [] then run f (.named r.cur.text) r
    else some (Pt.zero, r.fail 5)
  | f + 1, .named s, r =>
    if r.adv.isB lp then
      if r.adv.adv.isB rp then some (joined 27 0 s [], r.adv.adv.adv)
      else (run f (.lev 1) r.adv.adv).bind fun (p, r1) => run f (.args s [p]) r1
    else some (joined 3 0 s [], r.adv)
  | f + 1, .args s ps, r =>
    if r.isB [44] then (run f (.lev 1) r.adv).bind fun (p, r1) => run f (.args s (ps ++ [p])) r1
    else some (joined 27 0 s ps, r.need rp)

/-- What Parse answers: the nodes, the token behind, the fault. -/
def parseOf (l : List Tok) (from_ : Nat) : Pt × Rd → List Nd × Nat × Int × Int
  | (p, r) => if r.code ≠ 0 then ([], 0, r.code, r.at_) else if 5000 < p.nodes then ([], 0, 7, atM l from_) else if 40 < p.deep then ([], 0, 6, atM l from_) else (p.e, r.next, 0, 0)
def fuelOf (l : List Tok) (from_ : Nat) : Nat := 30 * (l.length - from_) + 30
def parseM (l : List Tok) (from_ : Nat) : List Nd × Nat × Int × Int := match run (fuelOf l from_) (.lev 1) ⟨l, from_, 0, 0, 0⟩ with | some x => parseOf l from_ x | none => ([], 0, 0, 0)
end Go.Proofs.YtgohhnbdicdenaaGreatDoor.Ex

/- A reader's steps: what they leave, how many nodes they read, that they end. Conditions: none. -/
namespace Go.Proofs.YtgohhnbdicdenaaGreatDoor.Ex
open Go.Proofs.YtgohhnbdicdenaaGreatDoor.Tr
set_option linter.unusedVariables false
set_option linter.unusedSimpArgs false

structure Pt.ok (p : Pt) : Prop where
  deep : p.deep ≤ p.nodes
  len : p.e.length ≤ p.nodes
  cap : p.e.length ≤ 5000
def Rd.mu (r : Rd) : Nat := r.next + if r.code = 0 then 0 else 1
def Rd.rem (r : Rd) : Nat := r.l.length - r.next
def Rd.fine (r : Rd) : Prop := r.code ≠ 0 → r.l = []

structure Step (r r' : Rd) : Prop where
  nxt : r.next ≤ r'.next
  top : r'.next ≤ max r.next r.l.length
  beg : r'.begun = r.begun
  st : (r'.l = r.l ∧ r'.code = r.code ∧ r'.at_ = r.at_) ∨ (r'.l = [] ∧ r'.code ≠ 0)
theorem Step.refl (r : Rd) : Step r r := ⟨Nat.le_refl _, by omega, rfl, .inl ⟨rfl, rfl, rfl⟩⟩
theorem Step.fine {r r' : Rd} (h : Step r r') (hf : r.fine) : r'.fine := fun hc => by
  rcases h.st with ⟨h1, h2, _⟩ | ⟨h1, _⟩
  · rw [h1]; exact hf (by rw [← h2]; exact hc)
  · exact h1
theorem Step.rem {r r' : Rd} (h : Step r r') : r'.rem ≤ r.rem := by
  unfold Rd.rem
  have := h.nxt
  rcases h.st with ⟨h1, _⟩ | ⟨h1, _⟩ <;> rw [h1]
  · omega
  · simp
theorem Step.mu {r r' : Rd} (h : Step r r') : r.mu ≤ r'.mu := by
  unfold Rd.mu
  have := h.nxt
  rcases h.st with ⟨_, h2, _⟩ | ⟨_, h2⟩
  · rw [h2]; omega
  · rw [if_neg h2]; split <;> omega
theorem Step.trans {a b c : Rd} (h : Step a b) (k : Step b c) : Step a c := by
  have h1 := h.nxt; have h2 := k.nxt; have h3 := h.top; have h4 := k.top
  refine ⟨by omega, ?_, k.beg.trans h.beg, ?_⟩
  · rcases h.st with ⟨e, _⟩ | ⟨e, _⟩
    · rw [e] at h4; omega
    · rw [e] at h4; simp at h4; omega
  · rcases k.st with ⟨e1, e2, e3⟩ | e
    · rw [e1, e2, e3]; exact h.st
    · exact .inr e
theorem fail_step (e : Int) (he : e ≠ 0) (r : Rd) (hf : r.fine) : Step r (r.fail e) := by
  unfold Rd.fail
  split
  · exact ⟨Nat.le_refl _, by simp; omega, rfl, .inr ⟨rfl, he⟩⟩
  · rename_i h; exact ⟨Nat.le_refl _, by simp; omega, rfl, .inr ⟨rfl, h⟩⟩
theorem adv_step (r : Rd) (h : r.next < r.l.length) : Step r r.adv := ⟨by simp [Rd.adv], by simp [Rd.adv]; omega, rfl, .inl ⟨rfl, rfl, rfl⟩⟩
theorem adv_mu (r : Rd) : r.adv.mu = r.mu + 1 := by unfold Rd.mu Rd.adv; simp; omega
theorem adv_rem (r : Rd) (h : r.next < r.l.length) : r.adv.rem + 1 = r.rem := by unfold Rd.rem Rd.adv; simp; omega
theorem ws_lt {r : Rd} (h : r.ws = true) : r.next < r.l.length := by simp [Rd.ws] at h; exact h.1
theorem isB_lt {r : Rd} {s : Bytes} (h : r.isB s = true) : r.next < r.l.length := by simp [Rd.isB] at h; exact ws_lt h.1
theorem kind_lt {r : Rd} (h : r.cur.kind ≠ 0) : r.next < r.l.length := by
  unfold Rd.cur at h
  by_cases h' : r.next < r.l.length
  · exact h'
  · rw [List.getElem?_eq_none (by omega)] at h; simp [noTok] at h
theorem need_step (s : Bytes) (r : Rd) (hf : r.fine) : Step r (r.need s) := by
  unfold Rd.need
  split
  · rename_i h; exact adv_step r (isB_lt h)
  · exact fail_step 5 (by decide) r hf
theorem num_lt {m : Nat} {r : Rd} (h : numB m r.cur = true) : r.next < r.l.length := by
  simp [numB] at h; exact kind_lt (by omega)
theorem numR_step (m : Nat) (r : Rd) (hf : r.fine) : Step r (r.numR m) := by
  unfold Rd.numR
  split
  · rename_i h; exact adv_step r (num_lt h)
  · exact fail_step 5 (by decide) r hf
theorem numR_mu (m : Nat) (r : Rd) (hf : r.fine) (h : r.next < r.l.length) : r.mu + 1 ≤ (r.numR m).mu := by
  unfold Rd.numR
  split
  · rw [adv_mu]; exact Nat.le_refl _
  · have hc : r.code = 0 := by
      apply Classical.byContradiction; intro hc
      have := hf hc; rw [this] at h; simp at h
    unfold Rd.fail Rd.mu; simp [hc]
theorem sign_lt {r : Rd} {n : Nat} {s : Int × Bool} (h : r.sign n = some s) : r.next < r.l.length := by
  unfold Rd.sign at h
  split at h
  · rename_i h'; exact ws_lt h'
  · cases h
def opsB (s : Int × Bool) : Bool := decide (4 ≤ s.1) && decide (s.1 ≤ 25)
theorem signs_ops (n : Nat) : ∀ x ∈ signsM n, opsB x.2 = true := by
  match n with
  | 0 => simp [signsM]
  | 1 => decide
  | 2 => decide
  | 3 => decide
  | 4 => decide
  | 5 => decide
  | 6 => decide
  | 7 => decide
  | 8 => decide
  | 9 => decide
  | n + 10 => intro x hx; simp [signsM] at hx
theorem lookup_mem {α β : Type} [BEq α] [LawfulBEq α] : ∀ (l : List (α × β)) (k : α) (v : β), l.lookup k = some v → (k, v) ∈ l
  | [], k, v, h => by simp at h
  | (a, b) :: r, k, v, h => by
    rw [List.lookup_cons] at h
    split at h
    · rename_i e; simp at e h; subst e; subst h; simp
    · exact List.mem_cons_of_mem _ (lookup_mem r k v h)
theorem sign_ops {r : Rd} {n : Nat} {s : Int × Bool} (h : r.sign n = some s) : 4 ≤ s.1 ∧ s.1 ≤ 25 := by
  unfold Rd.sign at h
  split at h
  · have := signs_ops n _ (lookup_mem _ _ _ h); simpa [opsB] using this
  · cases h

theorem nodes_fold (op : Int) (ps : List Pt) : ∀ a, ps.foldl (fun a p => a + p.nodes + if op = 27 then 1 else 0) a = a + (ps.map Pt.nodes).sum + (if op = 27 then ps.length else 0) := by
  induction ps with
  | nil => intro a; simp
  | cons p r ih => intro a; rw [List.foldl_cons, ih, List.map_cons, List.sum_cons]; split <;> simp <;> omega
theorem nodes_eq (op : Int) (ps : List Pt) : nodesOf op ps = 1 + (ps.map Pt.nodes).sum + (if op = 27 then ps.length else 0) := nodes_fold op ps 1
theorem deep_fold (op : Int) (ps : List Pt) (h : ∀ p ∈ ps, p.deep ≤ p.nodes) : ∀ a d, 1 ≤ a → d ≤ a → ps.foldl (fun a p => max a (1 + p.deep) + if op = 27 then 1 else 0) d ≤ ps.foldl (fun a p => a + p.nodes + if op = 27 then 1 else 0) a := by
  induction ps with
  | nil => intro a d _ h; exact h
  | cons p r ih =>
    intro a d ha hd
    rw [List.foldl_cons, List.foldl_cons]
    have := h p (by simp)
    exact ih (fun q hq => h q (by simp [hq])) _ _ (by omega) (by split <;> omega)
theorem lens_le (ps : List Pt) (h : ∀ p ∈ ps, p.e.length ≤ p.nodes) : ((ps.map Pt.e).map List.length).sum ≤ (ps.map Pt.nodes).sum := by
  induction ps with
  | nil => simp
  | cons p r ih =>
    have := h p (by simp); have := ih (fun q hq => h q (by simp [hq]))
    simp only [List.map_cons, List.sum_cons]; omega
theorem joinM_len (op n : Int) (s : Bytes) (ls : List (List Nd)) : (joinM op n s ls).length ≤ 1 + (ls.map List.length).sum + (if op = 27 then ls.length else 0) := by
  have hk : ∀ l : List (List Nd), (l.map (fun p => p.length + 1)).sum = (l.map List.length).sum + l.length := fun l => by
    induction l with
    | nil => rfl
    | cons a r ih => simp only [List.map_cons, List.sum_cons, ih, List.length_cons]; omega
  unfold joinM
  split
  · simp
  · split
    · simp
    · split
      · rename_i h; unfold callM; rw [List.length_append, callF_len, hk]; simp [h]; omega
      · split
        · rw [List.length_append, (layF_lens ls).1]; simp; omega
        · simp
theorem joined_ok (op n : Int) (s : Bytes) (ps : List Pt) (h : ∀ p ∈ ps, p.ok) : (joined op n s ps).ok := by
  refine ⟨deep_fold op ps (fun p hp => (h p hp).deep) 1 1 (Nat.le_refl _) (Nat.le_refl _), ?_, ?_⟩
  · show (if _ then _ else _ : List Nd).length ≤ nodesOf op ps
    split
    · have h1 := joinM_len op n s (ps.map Pt.e)
      have h2 := lens_le ps (fun p hp => (h p hp).len)
      rw [nodes_eq]
      simp only [List.length_map] at h1
      omega
    · simp
  · show (if _ then _ else _ : List Nd).length ≤ 5000
    split
    · rename_i hl
      have h1 := joinM_len op n s (ps.map Pt.e)
      have h2 := lens_le ps (fun p hp => (h p hp).len)
      have h3 := hl.1
      rw [nodes_eq] at h3
      simp only [List.length_map] at h1
      omega
    · simp
theorem zero_ok : Pt.zero.ok := ⟨Nat.le_refl _, Nat.le_refl _, by simp [Pt.zero]⟩
theorem sjoin_ok (s : Int × Bool) (p q : Pt) (hp : p.ok) (hq : q.ok) : (sjoin s p q).ok := by
  unfold sjoin
  split <;> exact joined_ok _ _ _ _ (by simp [hp, hq])
theorem joined_nodes (op n : Int) (s : Bytes) (ps : List Pt) : (joined op n s ps).nodes = 1 + (ps.map Pt.nodes).sum + (if op = 27 then ps.length else 0) := nodes_eq op ps
theorem sjoin_nodes (s : Int × Bool) (p q : Pt) (h : s.1 ≤ 25) : (sjoin s p q).nodes = p.nodes + q.nodes + 1 := by
  unfold sjoin
  split <;> (rw [joined_nodes, if_neg (by omega)]; simp; omega)
theorem foldR_ok : ∀ (ps : List Pt) (ops : List (Int × Bool)), (∀ p ∈ ps, p.ok) → (foldR ps ops).ok
  | p :: ps, o :: os, h => sjoin_ok o p _ (h p (by simp)) (foldR_ok ps os (fun q hq => h q (by simp [hq])))
  | p :: _, [], h => h p (by simp)
  | [], _, _ => zero_ok
theorem foldR_nodes : ∀ (ps : List Pt) (ops : List (Int × Bool)), (∀ s ∈ ops, s.1 ≤ 25) → (foldR ps ops).nodes ≤ (ps.map Pt.nodes).sum + ops.length
  | p :: ps, o :: os, h => by
    have := foldR_nodes ps os (fun q hq => h q (by simp [hq]))
    show (sjoin o p (foldR ps os)).nodes ≤ _
    rw [sjoin_nodes _ _ _ (h o (by simp))]; simp; omega
  | p :: ps, [], h => by show p.nodes ≤ _; simp
  | [], _, _ => by simp [foldR, Pt.zero]

def Task.base : Task → Nat
  | .rl _ ps ops => (ps.map Pt.nodes).sum + ops.length
  | .ll _ p => p.nodes
  | .args _ ps => 1 + (ps.map Pt.nodes).sum + ps.length
  | _ => 0
def Task.wt : Task → Nat
  | .lev n => 4 + (10 - n)
  | .opnd => 4
  | .single => 3
  | .named _ => 2
  | _ => 1
def Task.pre (r : Rd) : Task → Prop
  | .lev n => n ≤ 9
  | .rl n ps ops => n ≤ 8 ∧ (∀ p ∈ ps, p.ok) ∧ ∀ s ∈ ops, s.1 ≤ 25
  | .ll n p => n ≤ 8 ∧ p.ok
  | .named _ => r.next < r.l.length
  | .args _ ps => ∀ p ∈ ps, p.ok
  | _ => True

theorem bind_some {α β : Type} {x : Option α} {f : α → Option β} {b : β} (h : x.bind f = some b) : ∃ a, x = some a ∧ f a = some b := by
  cases x with
  | none => cases h
  | some a => exact ⟨a, rfl, h⟩
theorem map_some {α β : Type} {x : Option α} {f : α → β} {b : β} (h : x.map f = some b) : ∃ a, x = some a ∧ f a = b := by
  cases x with
  | none => cases h
  | some a => exact ⟨a, rfl, by simpa using h⟩

theorem shut_step {r r1 : Rd} (h : Step r.open_ r1) : Step r r1.shut :=
  ⟨h.nxt, h.top, by have := h.beg; simp [Rd.open_] at this; simp [Rd.shut, this], h.st⟩
theorem open_mu (r : Rd) : r.open_.mu = r.mu := rfl
theorem shut_mu (r : Rd) : r.shut.mu = r.mu := rfl

/-- What a run leaves. -/
theorem run_step : ∀ (f : Nat) (t : Task) (r : Rd) (p : Pt) (r' : Rd), run f t r = some (p, r') → r.fine → t.pre r → Step r r' ∧ p.ok ∧ p.nodes + r.mu ≤ t.base + r'.mu := by
  intro f
  induction f with
  | zero => intro t r p r' h; cases h
  | succ f ih =>
    intro t r p r' h hf hp
    cases t with
    | lev n =>
      simp only [run] at h
      split at h
      · have := ih _ _ _ _ h hf trivial; exact this
      · rename_i h9
        obtain ⟨⟨q, r1⟩, h1, h2⟩ := bind_some h
        obtain ⟨s1, o1, b1⟩ := ih _ _ _ _ h1 hf (by simp only [Task.pre] at hp ⊢; omega)
        simp only at h2
        simp only [Task.base] at b1 ⊢
        simp only [Task.pre] at hp
        split at h2
        · obtain ⟨s2, o2, b2⟩ := ih _ _ _ _ h2 (s1.fine hf) ⟨by omega, by simp [o1], by simp⟩
          simp only [Task.base, List.map_cons, List.map_nil, List.sum_cons, List.sum_nil, List.length_nil] at b2
          exact ⟨s1.trans s2, o2, by omega⟩
        · obtain ⟨s2, o2, b2⟩ := ih _ _ _ _ h2 (s1.fine hf) ⟨by omega, o1⟩
          simp only [Task.base] at b2
          exact ⟨s1.trans s2, o2, by omega⟩
    | rl n ps ops =>
      simp only [run] at h
      obtain ⟨hn, hps, hops⟩ := hp
      split at h
      · simp only [Option.some.injEq, Prod.mk.injEq] at h
        obtain ⟨rfl, rfl⟩ := h
        exact ⟨Step.refl _, foldR_ok _ _ hps, by have := foldR_nodes ps ops hops; simp only [Task.base]; omega⟩
      · rename_i s hs
        obtain ⟨⟨q, r1⟩, h1, h2⟩ := bind_some h
        have hl := sign_lt hs
        have hso := sign_ops hs
        have ha := adv_step r hl
        obtain ⟨s1, o1, b1⟩ := ih _ _ _ _ h1 (ha.fine hf) (by simp only [Task.pre]; omega)
        obtain ⟨s2, o2, b2⟩ := ih _ _ _ _ h2 (s1.fine (ha.fine hf)) ⟨hn, by intro x hx; simp at hx; rcases hx with hx | hx; exact hps x hx; subst hx; exact o1, by intro x hx; simp at hx; rcases hx with hx | hx; exact hops x hx; subst hx; exact hso.2⟩
        rw [adv_mu] at b1
        simp only [Task.base, List.map_append, List.map_cons, List.map_nil, List.sum_append, List.sum_cons, List.sum_nil, List.length_append, List.length_cons, List.length_nil] at b1 b2 ⊢
        exact ⟨(ha.trans s1).trans s2, o2, by omega⟩
    | ll n p0 =>
      simp only [run] at h
      obtain ⟨hn, hp0⟩ := hp
      split at h
      · simp only [Option.some.injEq, Prod.mk.injEq] at h
        obtain ⟨rfl, rfl⟩ := h
        exact ⟨Step.refl _, hp0, Nat.le_refl _⟩
      · rename_i s hs
        obtain ⟨⟨q, r1⟩, h1, h2⟩ := bind_some h
        have hl := sign_lt hs
        have hso := sign_ops hs
        have ha := adv_step r hl
        obtain ⟨s1, o1, b1⟩ := ih _ _ _ _ h1 (ha.fine hf) (by simp only [Task.pre]; omega)
        rw [adv_mu] at b1
        have hj := sjoin_nodes s p0 q hso.2
        simp only at h2
        split at h2
        · simp only [Option.some.injEq, Prod.mk.injEq] at h2
          obtain ⟨rfl, rfl⟩ := h2
          simp only [Task.base] at b1 ⊢
          exact ⟨ha.trans s1, sjoin_ok _ _ _ hp0 o1, by omega⟩
        · obtain ⟨s2, o2, b2⟩ := ih _ _ _ _ h2 (s1.fine (ha.fine hf)) ⟨hn, sjoin_ok _ _ _ hp0 o1⟩
          simp only [Task.base] at b1 b2 ⊢
          exact ⟨(ha.trans s1).trans s2, o2, by omega⟩
    | opnd =>
      simp only [run] at h
      split at h
      · simp only [Option.some.injEq, Prod.mk.injEq] at h
        obtain ⟨rfl, rfl⟩ := h
        have s1 := fail_step 6 (by decide) r hf
        exact ⟨s1, zero_ok, by have := s1.mu; simp [Pt.zero, Task.base]; omega⟩
      · split at h
        · obtain ⟨⟨q, r1⟩, h1, h2⟩ := map_some h
          simp only [Prod.mk.injEq] at h2
          obtain ⟨rfl, rfl⟩ := h2
          obtain ⟨s1, o1, b1⟩ := ih _ _ _ _ h1 hf trivial
          exact ⟨shut_step s1, o1, b1⟩
        · rename_i s hs
          obtain ⟨⟨q, r1⟩, h1, h2⟩ := map_some h
          simp only [Prod.mk.injEq] at h2
          obtain ⟨rfl, rfl⟩ := h2
          have hl := sign_lt hs
          have hso := sign_ops hs
          have ha := adv_step r.open_ hl
          have hb : Step r.open_ (if s.1 = 25 then r.open_.adv.numR 1000 else r.open_.adv) := by
            split
            · exact ha.trans (numR_step _ _ (ha.fine hf))
            · exact ha
          have hm : r.mu + 1 ≤ (if s.1 = 25 then r.open_.adv.numR 1000 else r.open_.adv).mu := by
            split
            · have := (numR_step 1000 _ (ha.fine hf)).mu
              rw [adv_mu, open_mu] at this; omega
            · rw [adv_mu, open_mu]; exact Nat.le_refl _
          obtain ⟨s1, o1, b1⟩ := ih _ _ _ _ h1 (hb.fine hf) trivial
          refine ⟨shut_step (hb.trans s1), joined_ok _ _ _ _ (by simp [o1]), ?_⟩
          rw [joined_nodes, if_neg (by omega), shut_mu]
          simp only [Task.base, List.map_cons, List.map_nil, List.sum_cons, List.sum_nil] at b1 ⊢
          omega
    | single =>
      simp only [run] at h
      split at h
      · rename_i hb
        have hl := isB_lt hb
        have ha := adv_step r hl
        obtain ⟨⟨q, r1⟩, h1, h2⟩ := map_some h
        simp only [Prod.mk.injEq] at h2
        obtain ⟨rfl, rfl⟩ := h2
        obtain ⟨s1, o1, b1⟩ := ih _ _ _ _ h1 (ha.fine hf) (by simp [Task.pre])
        have s2 := need_step rp r1 (s1.fine (ha.fine hf))
        have := s2.mu
        rw [adv_mu] at b1
        exact ⟨(ha.trans s1).trans s2, o1, by simp only [Task.base] at b1 ⊢; omega⟩
      · split at h
        · rename_i hb
          have hl := isB_lt hb
          have ha := adv_step r hl
          obtain ⟨⟨a, r1⟩, h1, h⟩ := bind_some h
          obtain ⟨⟨b, r2⟩, h2, h⟩ := bind_some h
          obtain ⟨⟨c, r3⟩, h3, h⟩ := map_some h
          simp only [Prod.mk.injEq] at h
          obtain ⟨rfl, rfl⟩ := h
          obtain ⟨s1, o1, b1⟩ := ih _ _ _ _ h1 (ha.fine hf) (by simp [Task.pre])
          have f1 := s1.fine (ha.fine hf)
          have n1 := need_step [116, 104, 101, 110] r1 f1
          obtain ⟨s2, o2, b2⟩ := ih _ _ _ _ h2 (n1.fine f1) (by simp [Task.pre])
          have f2 := s2.fine (n1.fine f1)
          have n2 := need_step [101, 108, 115, 101] r2 f2
          obtain ⟨s3, o3, b3⟩ := ih _ _ _ _ h3 (n2.fine f2) (by simp [Task.pre])
          have m1 := n1.mu
          have m2 := n2.mu
          rw [adv_mu] at b1
          refine ⟨((((ha.trans s1).trans n1).trans s2).trans n2).trans s3, joined_ok _ _ _ _ (by simp [o1, o2, o3]), ?_⟩
          rw [joined_nodes]
          simp only [Task.base] at b1 b2 b3 ⊢
          simp
          omega
        · split at h
          · rename_i hb
            have ha := adv_step r (isB_lt hb)
            simp only [Option.some.injEq, Prod.mk.injEq] at h
            obtain ⟨rfl, rfl⟩ := h
            exact ⟨ha, joined_ok _ _ _ _ (by simp), by rw [joined_nodes, adv_mu]; simp [Task.base]; omega⟩
          · split at h
            · rename_i hb
              have ha := adv_step r (isB_lt hb)
              simp only [Option.some.injEq, Prod.mk.injEq] at h
              obtain ⟨rfl, rfl⟩ := h
              exact ⟨ha, joined_ok _ _ _ _ (by simp), by rw [joined_nodes, adv_mu]; simp [Task.base]; omega⟩
            · split at h
              · rename_i hk
                have hl := kind_lt (r := r) (by omega)
                simp only [Option.some.injEq, Prod.mk.injEq] at h
                obtain ⟨rfl, rfl⟩ := h
                have := numR_mu 2147483647 r hf hl
                exact ⟨numR_step _ _ hf, joined_ok _ _ _ _ (by simp), by rw [joined_nodes]; simp [Task.base]; omega⟩
              · split at h
                · rename_i hk
                  exact ih (.named r.cur.text) _ _ _ h hf (kind_lt (r := r) (by omega))
                · simp only [Option.some.injEq, Prod.mk.injEq] at h
                  obtain ⟨rfl, rfl⟩ := h
                  have s1 := fail_step 5 (by decide) r hf
                  exact ⟨s1, zero_ok, by have := s1.mu; simp [Pt.zero, Task.base]; omega⟩
    | named s =>
      simp only [run] at h
      have ha := adv_step r hp
      split at h
      · rename_i hb
        have hb1 := adv_step _ (isB_lt hb)
        split at h
        · rename_i hc
          have hc1 := adv_step _ (isB_lt hc)
          simp only [Option.some.injEq, Prod.mk.injEq] at h
          obtain ⟨rfl, rfl⟩ := h
          exact ⟨(ha.trans hb1).trans hc1, joined_ok _ _ _ _ (by simp), by rw [joined_nodes, adv_mu, adv_mu, adv_mu]; simp [Task.base]; omega⟩
        · obtain ⟨⟨q, r1⟩, h1, h2⟩ := bind_some h
          have hab := ha.trans hb1
          obtain ⟨s1, o1, b1⟩ := ih _ _ _ _ h1 (hab.fine hf) (by simp [Task.pre])
          obtain ⟨s2, o2, b2⟩ := ih _ _ _ _ h2 (s1.fine (hab.fine hf)) (by simp [Task.pre, o1])
          rw [adv_mu, adv_mu] at b1
          simp only [Task.base, List.map_cons, List.map_nil, List.sum_cons, List.sum_nil, List.length_cons, List.length_nil] at b1 b2 ⊢
          exact ⟨(hab.trans s1).trans s2, o2, by omega⟩
      · simp only [Option.some.injEq, Prod.mk.injEq] at h
        obtain ⟨rfl, rfl⟩ := h
        exact ⟨ha, joined_ok _ _ _ _ (by simp), by rw [joined_nodes, adv_mu]; simp [Task.base]; omega⟩
    | args s ps =>
      simp only [run] at h
      split at h
      · rename_i hb
        have ha := adv_step r (isB_lt hb)
        obtain ⟨⟨q, r1⟩, h1, h2⟩ := bind_some h
        obtain ⟨s1, o1, b1⟩ := ih _ _ _ _ h1 (ha.fine hf) (by simp [Task.pre])
        obtain ⟨s2, o2, b2⟩ := ih _ _ _ _ h2 (s1.fine (ha.fine hf)) (by intro x hx; simp at hx; rcases hx with hx | hx; exact hp x hx; subst hx; exact o1)
        rw [adv_mu] at b1
        simp only [Task.base, List.map_append, List.map_cons, List.map_nil, List.sum_append, List.sum_cons, List.sum_nil, List.length_append, List.length_cons, List.length_nil] at b1 b2 ⊢
        exact ⟨(ha.trans s1).trans s2, o2, by omega⟩
      · simp only [Option.some.injEq, Prod.mk.injEq] at h
        obtain ⟨rfl, rfl⟩ := h
        have s1 := need_step rp r hf
        exact ⟨s1, joined_ok _ _ _ _ hp, by rw [joined_nodes, if_pos rfl]; have := s1.mu; simp only [Task.base]; omega⟩

/-- A run ends. -/
theorem run_total : ∀ (f : Nat) (t : Task) (r : Rd), r.fine → t.pre r → 24 * r.rem + t.wt ≤ f → ∃ x, run f t r = some x := by
  intro f
  induction f with
  | zero => intro t r _ _ h; cases t <;> simp [Task.wt] at h <;> omega
  | succ f ih =>
    intro t r hf hp hw
    have IH : ∀ (t : Task) (r : Rd), r.fine → t.pre r → 24 * r.rem + t.wt ≤ f → ∃ p r', run f t r = some (p, r') ∧ Step r r' ∧ p.ok := fun t r h1 h2 h3 => by
      obtain ⟨⟨p, r'⟩, h⟩ := ih t r h1 h2 h3
      obtain ⟨a, b, _⟩ := run_step _ _ _ _ _ h h1 h2
      exact ⟨p, r', h, a, b⟩
    cases t with
    | lev n =>
      simp only [run]
      simp only [Task.pre] at hp
      simp only [Task.wt] at hw
      split
      · obtain ⟨p, r', h, _⟩ := IH .opnd r hf trivial (by simp only [Task.wt]; omega)
        exact ⟨_, h⟩
      · obtain ⟨p, r1, h, s1, o1⟩ := IH (.lev (n + 1)) r hf (by simp only [Task.pre]; omega) (by simp only [Task.wt]; omega)
        rw [h]
        have := s1.rem
        simp only [Option.bind_some]
        split
        · obtain ⟨p2, r2, h2, _⟩ := IH (.rl n [p] []) r1 (s1.fine hf) ⟨by omega, by simp [o1], by simp⟩ (by simp only [Task.wt]; omega)
          exact ⟨_, h2⟩
        · obtain ⟨p2, r2, h2, _⟩ := IH (.ll n p) r1 (s1.fine hf) ⟨by omega, o1⟩ (by simp only [Task.wt]; omega)
          exact ⟨_, h2⟩
    | rl n ps ops =>
      simp only [run]
      obtain ⟨hn, hps, hops⟩ := hp
      split
      · exact ⟨_, rfl⟩
      · rename_i s hs
        have hl := sign_lt hs
        have ha := adv_step r hl
        have hr := adv_rem r hl
        simp only [Task.wt] at hw
        obtain ⟨p, r1, h, s1, o1⟩ := IH (.lev (n + 1)) r.adv (ha.fine hf) (by simp only [Task.pre]; omega) (by simp only [Task.wt]; omega)
        rw [h]
        have := s1.rem
        obtain ⟨p2, r2, h2, _⟩ := IH (.rl n (ps ++ [p]) (ops ++ [s])) r1 (s1.fine (ha.fine hf)) ⟨hn, by intro x hx; simp at hx; rcases hx with hx | hx; exact hps x hx; subst hx; exact o1, by intro x hx; simp at hx; rcases hx with hx | hx; exact hops x hx; subst hx; exact (sign_ops hs).2⟩ (by simp only [Task.wt]; omega)
        exact ⟨_, h2⟩
    | ll n p0 =>
      simp only [run]
      obtain ⟨hn, hp0⟩ := hp
      split
      · exact ⟨_, rfl⟩
      · rename_i s hs
        have hl := sign_lt hs
        have ha := adv_step r hl
        have hr := adv_rem r hl
        simp only [Task.wt] at hw
        obtain ⟨p, r1, h, s1, o1⟩ := IH (.lev (n + 1)) r.adv (ha.fine hf) (by simp only [Task.pre]; omega) (by simp only [Task.wt]; omega)
        rw [h]
        have := s1.rem
        simp only [Option.bind_some]
        split
        · exact ⟨_, rfl⟩
        · obtain ⟨p2, r2, h2, _⟩ := IH (.ll n (sjoin s p0 p)) r1 (s1.fine (ha.fine hf)) ⟨hn, sjoin_ok _ _ _ hp0 o1⟩ (by simp only [Task.wt]; omega)
          exact ⟨_, h2⟩
    | opnd =>
      simp only [run]
      simp only [Task.wt] at hw
      split
      · exact ⟨_, rfl⟩
      · split
        · obtain ⟨p, r1, h, _⟩ := IH .single r.open_ hf trivial (by simp only [Task.wt]; have : r.open_.rem = r.rem := rfl; omega)
          rw [h]; exact ⟨_, rfl⟩
        · rename_i s hs
          have hl := sign_lt hs
          have ha := adv_step r.open_ hl
          have hr := adv_rem r.open_ hl
          have : r.open_.rem = r.rem := rfl
          have hb : Step r.open_.adv (if s.1 = 25 then r.open_.adv.numR 1000 else r.open_.adv) := by
            split
            · exact numR_step _ _ (ha.fine hf)
            · exact Step.refl _
          have := hb.rem
          obtain ⟨p, r1, h, _⟩ := IH .opnd _ (hb.fine (ha.fine hf)) trivial (by simp only [Task.wt]; omega)
          rw [h]; exact ⟨_, rfl⟩
    | single =>
      simp only [run]
      simp only [Task.wt] at hw
      split
      · rename_i hb
        have hl := isB_lt hb
        have ha := adv_step r hl
        have hr := adv_rem r hl
        obtain ⟨p, r1, h, _⟩ := IH (.lev 1) r.adv (ha.fine hf) (by simp [Task.pre]) (by simp only [Task.wt]; omega)
        rw [h]; exact ⟨_, rfl⟩
      · split
        · rename_i hb
          have hl := isB_lt hb
          have ha := adv_step r hl
          have hr := adv_rem r hl
          obtain ⟨p, r1, h, s1, o1⟩ := IH (.lev 1) r.adv (ha.fine hf) (by simp [Task.pre]) (by simp only [Task.wt]; omega)
          rw [h]
          have f1 := s1.fine (ha.fine hf)
          have n1 := need_step [116, 104, 101, 110] r1 f1
          have := s1.rem
          have := n1.rem
          simp only [Option.bind_some]
          obtain ⟨p, r2, h, s2, o2⟩ := IH (.lev 1) _ (n1.fine f1) (by simp [Task.pre]) (by simp only [Task.wt]; omega)
          rw [h]
          have f2 := s2.fine (n1.fine f1)
          have n2 := need_step [101, 108, 115, 101] r2 f2
          have := s2.rem
          have := n2.rem
          simp only [Option.bind_some]
          obtain ⟨p, r3, h, s3, o3⟩ := IH (.lev 1) _ (n2.fine f2) (by simp [Task.pre]) (by simp only [Task.wt]; omega)
          rw [h]; exact ⟨_, rfl⟩
        · split
          · exact ⟨_, rfl⟩
          · split
            · exact ⟨_, rfl⟩
            · split
              · exact ⟨_, rfl⟩
              · split
                · rename_i hk
                  exact ih (.named r.cur.text) _ hf (kind_lt (r := r) (by omega)) (by simp only [Task.wt]; omega)
                · exact ⟨_, rfl⟩
    | named s =>
      simp only [run]
      simp only [Task.wt] at hw
      have ha := adv_step r hp
      have hr := adv_rem r hp
      split
      · rename_i hb
        have hb1 := adv_step _ (isB_lt hb)
        have hr2 := adv_rem _ (isB_lt hb)
        split
        · exact ⟨_, rfl⟩
        · have hab := ha.trans hb1
          obtain ⟨p, r1, h, s1, o1⟩ := IH (.lev 1) _ (hab.fine hf) (by simp [Task.pre]) (by simp only [Task.wt]; omega)
          rw [h]
          have := s1.rem
          simp only [Option.bind_some]
          exact ih _ _ (s1.fine (hab.fine hf)) (by simp [Task.pre, o1]) (by simp only [Task.wt]; omega)
      · exact ⟨_, rfl⟩
    | args s ps =>
      simp only [run]
      simp only [Task.wt] at hw
      split
      · rename_i hb
        have ha := adv_step r (isB_lt hb)
        have hr := adv_rem r (isB_lt hb)
        obtain ⟨p, r1, h, s1, o1⟩ := IH (.lev 1) r.adv (ha.fine hf) (by simp [Task.pre]) (by simp only [Task.wt]; omega)
        rw [h]
        have := s1.rem
        simp only [Option.bind_some]
        exact ih _ _ (s1.fine (ha.fine hf)) (by intro x hx; simp at hx; rcases hx with hx | hx; exact hp x hx; subst hx; exact o1) (by simp only [Task.wt]; omega)
      · exact ⟨_, rfl⟩
end Go.Proofs.YtgohhnbdicdenaaGreatDoor.Ex

/- What a reader reads without a fault is a tree. Conditions: none. -/
namespace Go.Proofs.YtgohhnbdicdenaaGreatDoor.Ex
open Go.Proofs.YtgohhnbdicdenaaGreatDoor.Tr Go.RowKit
set_option linter.unusedVariables false
set_option linter.unusedSimpArgs false

theorem wrap_small (k f : Int) (h0 : 0 ≤ k) (h1 : 0 ≤ f) (h : k + f ≤ 1000000000) : wrap64 (k + f) = k + f := by unfold wrap64; omega
theorem on_mkL (f : Nat) (x : Lab) (l : List Int) (hl : l.length ≤ 3) (h : ∀ k ∈ l, 0 ≤ k ∧ k + (f : Int) ≤ 1000000000) : onNd (f : Int) (mkL x l) = mkL x (l.map (· + (f : Int))) := by
  have one : ∀ k ∈ l, onM (f : Int) k = k + (f : Int) := fun k hk => by
    have := h k hk
    unfold onM; rw [if_pos this.1]; exact wrap_small _ _ this.1 (by omega) this.2
  have neg : onM (f : Int) (-1) = -1 := by unfold onM; rw [if_neg (by omega)]
  match l, hl with
  | [], _ => simp [mkL, onNd, neg]
  | [i], _ => simp [mkL, onNd, neg, one i (by simp)]
  | [i, j], _ =>
    have a := one i (by simp); have b := one j (by simp)
    by_cases h28 : x.op = 28 <;> simp [mkL, onNd, neg, a, b, h28]
  | [i, j, k], _ => simp [mkL, onNd, neg, one i (by simp), one j (by simp), one k (by simp)]
theorem flat_shift (t : T) : ∀ (b f : Nat), b + f + t.size ≤ 1000000000 → (t.flat b).map (onNd (f : Int)) = t.flat (b + f) := by
  induction t with
  | l0 x => intro b f h; simp [T.flat, on_mkL f x [] (by simp) (by simp)]
  | l1 x p ih =>
    intro b f h
    have := p.size_pos
    simp only [T.size] at h
    simp only [T.flat, List.map_append, List.map_cons, List.map_nil, ih b f (by omega)]
    rw [on_mkL f x _ (by simp) (by simp; omega)]
    congr 3
    simp; omega
  | l2 x p q ih1 ih2 =>
    intro b f h
    have := p.size_pos; have := q.size_pos
    simp only [T.size] at h
    simp only [T.flat, List.map_append, List.map_cons, List.map_nil, ih1 b f (by omega), ih2 (b + p.size) f (by omega)]
    rw [on_mkL f x _ (by simp) (by simp; omega)]
    have e1 : b + p.size + f = b + f + p.size := by omega
    rw [e1]
    congr 3
    simp; omega
  | l3 x p q r ih1 ih2 ih3 =>
    intro b f h
    have := p.size_pos; have := q.size_pos; have := r.size_pos
    simp only [T.size] at h
    simp only [T.flat, List.map_append, List.map_cons, List.map_nil, ih1 b f (by omega), ih2 (b + p.size) f (by omega), ih3 (b + p.size + q.size) f (by omega)]
    rw [on_mkL f x _ (by simp) (by simp; omega)]
    have e1 : b + p.size + f = b + f + p.size := by omega
    have e2 : b + p.size + q.size + f = b + f + p.size + q.size := by omega
    rw [e1, e2]
    congr 3
    simp; omega
theorem behind_flat (a : List Nd) (t : T) (h : a.length + t.size ≤ 1000000000) : behindM a (t.flat 0) = a ++ t.flat a.length := by
  unfold behindM; rw [flat_shift t 0 a.length (by omega), Nat.zero_add]
theorem flat_ne (t : T) (b : Nat) : t.flat b ≠ [] := fun h => by
  have := T.flat_len t b; rw [h] at this; have := t.size_pos; simp at *; omega

/-- The tree of a Call. -/
def argsC (acc : T) : List T → T
  | [] => acc
  | t :: ts => argsC (.l2 ⟨28, 0, []⟩ acc t) ts
def callT (s : Bytes) : List T → T
  | [] => .l0 ⟨27, 0, s⟩
  | t :: ts => .l1 ⟨27, 0, s⟩ (argsC (.l1 ⟨28, 0, []⟩ t) ts)
theorem argsC_size (ts : List T) : ∀ acc, (argsC acc ts).size = acc.size + (ts.map T.size).sum + ts.length := by
  induction ts with
  | nil => intro acc; rfl
  | cons t r ih => intro acc; rw [argsC, ih]; simp [T.size]; omega
theorem callT_size (s : Bytes) (ts : List T) : (callT s ts).size = 1 + (ts.map T.size).sum + ts.length := by
  cases ts with
  | nil => rfl
  | cons t r => rw [callT, T.size, argsC_size]; simp [T.size]; omega
theorem callF_chain (ts : List T) : ∀ acc : T, acc.size + (ts.map T.size).sum + ts.length ≤ 1000000 →
    (ts.map (fun t => t.flat 0)).foldl callStep (acc.flat 0, (acc.size : Int) - 1) = ((argsC acc ts).flat 0, ((argsC acc ts).size : Int) - 1) := by
  induction ts with
  | nil => intro acc _; rfl
  | cons t r ih =>
    intro acc h
    simp only [List.map_cons, List.sum_cons, List.length_cons] at h
    have := acc.size_pos; have := t.size_pos
    rw [List.map_cons, List.foldl_cons]
    have e : callStep (acc.flat 0, (acc.size : Int) - 1) (t.flat 0) = ((T.l2 ⟨28, 0, []⟩ acc t).flat 0, ((T.l2 ⟨28, 0, []⟩ acc t).size : Int) - 1) := by
      unfold callStep
      simp only
      rw [behind_flat _ _ (by rw [T.flat_len]; omega), List.length_append, T.flat_len, T.flat_len]
      simp only [T.flat, T.size, overM, mkL, Nat.zero_add]
      simp
      omega
    rw [e, ih _ (by simp only [T.size]; omega)]
    rfl
theorem joinM_call (s : Bytes) (ts : List T) (h : (callT s ts).size ≤ 1000000) : joinM 27 0 s (ts.map (fun t => t.flat 0)) = (callT s ts).flat 0 := by
  have hany : (ts.map (fun t => t.flat 0)).any List.isEmpty = false := by
    rw [List.any_map]; simp only [List.any_eq_false]; intro t _; simpa using flat_ne t 0
  unfold joinM
  rw [hany]
  simp only [Bool.false_eq_true, if_false, if_true]
  rw [if_neg (by decide)]
  cases ts with
  | nil => simp [callM, callF, callT, T.flat, overM, mkL]
  | cons t r =>
    rw [callT_size] at h
    simp only [List.map_cons, List.sum_cons, List.length_cons] at h
    have := t.size_pos
    unfold callM callF
    rw [List.map_cons, List.foldl_cons]
    have e : callStep ([], -1) (t.flat 0) = ((T.l1 ⟨28, 0, []⟩ t).flat 0, ((T.l1 ⟨28, 0, []⟩ t).size : Int) - 1) := by
      unfold callStep
      simp only
      rw [behind_flat _ _ (by simp; omega)]
      simp only [List.nil_append, List.length_nil, T.flat_len, T.flat, T.size, overM, mkL, Nat.zero_add]
      simp
      omega
    rw [e, callF_chain _ _ (by simp only [T.size]; omega)]
    simp only [callT, T.flat, T.size, overM, mkL, Nat.zero_add]
    have hp := (argsC (.l1 ⟨28, 0, []⟩ t) r).size_pos
    simp
    omega
theorem lay1 (a : T) (h : a.size ≤ 1000000) : layF [a.flat 0] = (a.flat 0, [(a.size : Int) - 1]) := by
  simp only [layF, List.foldl_cons, List.foldl_nil, layStep]
  rw [behind_flat _ _ (by simp; omega)]
  simp [T.flat_len]
theorem lay2 (a b : T) (h : a.size + b.size ≤ 1000000) : layF [a.flat 0, b.flat 0] = (a.flat 0 ++ b.flat a.size, [(a.size : Int) - 1, (a.size : Int) + (b.size : Int) - 1]) := by
  simp only [layF, List.foldl_cons, List.foldl_nil, layStep]
  rw [behind_flat [] a (by simp; omega)]
  rw [behind_flat _ b (by simp [T.flat_len]; omega)]
  simp [T.flat_len]
theorem lay3 (a b c : T) (h : a.size + b.size + c.size ≤ 1000000) : layF [a.flat 0, b.flat 0, c.flat 0] = (a.flat 0 ++ b.flat a.size ++ c.flat (a.size + b.size), [(a.size : Int) - 1, (a.size : Int) + (b.size : Int) - 1, (a.size : Int) + (b.size : Int) + (c.size : Int) - 1]) := by
  simp only [layF, List.foldl_cons, List.foldl_nil, layStep]
  rw [behind_flat [] a (by simp; omega)]
  rw [behind_flat _ b (by simp [T.flat_len]; omega)]
  rw [behind_flat _ c (by simp [T.flat_len]; omega)]
  simp [T.flat_len]; omega
theorem joinM_eq (o n : Int) (s : Bytes) (ls : List (List Nd)) (h0 : ls.any List.isEmpty = false) (h27 : o ≠ 27) (h28 : o ≠ 28) (hk : (kidsM (overM o n s [])).length = ls.length) :
    joinM o n s ls = (layF ls).1 ++ [overM o n s (layF ls).2] := by
  unfold joinM
  rw [h0, if_neg h28, if_neg h27, if_pos hk]; simp
theorem flat_any (ts : List T) : (ts.map (fun t => t.flat 0)).any List.isEmpty = false := by
  rw [List.any_map]; simp only [List.any_eq_false]; intro t _; simpa using flat_ne t 0
theorem kids_un (o n : Int) (s : Bytes) (h : unaryB o = true) : (kidsM (overM o n s [])).length = 1 := by simp [kidsM, overM, h]
theorem kids_bin (o n : Int) (s : Bytes) (h : binaryB o = true) : (kidsM (overM o n s [])).length = 2 := by
  have hb := h
  simp [binaryB] at hb
  have hu : unaryB o = false := by simp [unaryB]; omega
  have e26 : o ≠ 26 := by omega
  have e27 : o ≠ 27 := by omega
  have e28 : o ≠ 28 := by omega
  simp [kidsM, overM, hu, h, e26, e27, e28]
theorem kids_leaf (o n : Int) (s : Bytes) (h : 1 ≤ o ∧ o ≤ 3) : (kidsM (overM o n s [])).length = 0 := by
  have hu : unaryB o = false := by simp [unaryB]; omega
  have hb : binaryB o = false := by simp [binaryB]; omega
  have e26 : o ≠ 26 := by omega
  have e27 : o ≠ 27 := by omega
  have e28 : o ≠ 28 := by omega
  simp [kidsM, overM, hu, hb, e26, e27, e28]
theorem joinM_leaf (o n : Int) (s : Bytes) (h : 1 ≤ o ∧ o ≤ 3) : joinM o n s [] = (T.l0 ⟨o, n, s⟩).flat 0 := by
  rw [joinM_eq o n s [] rfl (by omega) (by omega) (kids_leaf o n s h)]
  simp [layF, T.flat, overM, mkL]
theorem joinM_un (o n : Int) (s : Bytes) (a : T) (h : unaryB o = true) (hs : a.size ≤ 1000000) : joinM o n s [a.flat 0] = (T.l1 ⟨o, n, s⟩ a).flat 0 := by
  have hu := h
  simp [unaryB] at hu
  rw [joinM_eq o n s [a.flat 0] (by simpa using flat_any [a]) (by omega) (by omega) (kids_un o n s h), lay1 a hs]
  have := a.size_pos
  simp [T.flat, overM, mkL]; omega
theorem joinM_bin (o n : Int) (s : Bytes) (a b : T) (h : binaryB o = true) (hs : a.size + b.size ≤ 1000000) : joinM o n s [a.flat 0, b.flat 0] = (T.l2 ⟨o, n, s⟩ a b).flat 0 := by
  have hu := h
  simp [binaryB] at hu
  rw [joinM_eq o n s [a.flat 0, b.flat 0] (by simpa using flat_any [a, b]) (by omega) (by omega) (kids_bin o n s h), lay2 a b hs]
  have := a.size_pos; have := b.size_pos
  have h28 : o ≠ 28 := by omega
  simp [T.flat, overM, mkL, h28]; omega
theorem joinM_if (n : Int) (s : Bytes) (a b c : T) (hs : a.size + b.size + c.size ≤ 1000000) : joinM 26 n s [a.flat 0, b.flat 0, c.flat 0] = (T.l3 ⟨26, n, s⟩ a b c).flat 0 := by
  rw [joinM_eq 26 n s [a.flat 0, b.flat 0, c.flat 0] (by simpa using flat_any [a, b, c]) (by decide) (by decide) (by simp [kidsM, overM, unaryB]), lay3 a b c hs]
  have := a.size_pos; have := b.size_pos; have := c.size_pos
  simp [T.flat, overM, mkL]; omega

/-- What is told of a tree. -/
def ptOf (t : T) : Pt := ⟨if t.size ≤ 5000 ∧ t.depth ≤ 40 then t.flat 0 else [], t.size, t.depth⟩
theorem ptOf_zero_op (o n : Int) (s : Bytes) (h : 1 ≤ o ∧ o ≤ 3) : joined o n s [] = ptOf (.l0 ⟨o, n, s⟩) := by
  unfold joined ptOf
  have e : nodesOf o [] = 1 := rfl
  have e2 : deepOf o [] = 1 := rfl
  rw [e, e2, if_pos (by omega), List.map_nil, joinM_leaf o n s h]
  simp [T.size, T.depth]
theorem ptOf_un (o n : Int) (s : Bytes) (a : T) (h : unaryB o = true) : joined o n s [ptOf a] = ptOf (.l1 ⟨o, n, s⟩ a) := by
  have hu := h
  simp [unaryB] at hu
  have h27 : o ≠ 27 := by omega
  unfold joined
  have e : nodesOf o [ptOf a] = (T.l1 ⟨o, n, s⟩ a).size := by rw [nodes_eq, if_neg h27]; simp [ptOf, T.size]; omega
  have e2 : deepOf o [ptOf a] = (T.l1 ⟨o, n, s⟩ a).depth := by simp [deepOf, ptOf, h27, T.depth]; omega
  rw [e, e2]
  show Pt.mk _ _ _ = Pt.mk _ _ _
  congr 1
  by_cases hs : (T.l1 ⟨o, n, s⟩ a).size ≤ 5000 ∧ (T.l1 ⟨o, n, s⟩ a).depth ≤ 40
  · rw [if_pos hs, if_pos hs]
    simp only [T.size, T.depth] at hs
    simp only [List.map_cons, List.map_nil, ptOf]
    rw [if_pos (by omega)]
    exact joinM_un o n s a h (by omega)
  · rw [if_neg hs, if_neg hs]
theorem ptOf_bin (o n : Int) (s : Bytes) (a b : T) (h : binaryB o = true) : joined o n s [ptOf a, ptOf b] = ptOf (.l2 ⟨o, n, s⟩ a b) := by
  have hu := h
  simp [binaryB] at hu
  have h27 : o ≠ 27 := by omega
  unfold joined
  have e : nodesOf o [ptOf a, ptOf b] = (T.l2 ⟨o, n, s⟩ a b).size := by rw [nodes_eq, if_neg h27]; simp [ptOf, T.size]; omega
  have e2 : deepOf o [ptOf a, ptOf b] = (T.l2 ⟨o, n, s⟩ a b).depth := by simp [deepOf, ptOf, h27, T.depth]; omega
  rw [e, e2]
  show Pt.mk _ _ _ = Pt.mk _ _ _
  congr 1
  by_cases hs : (T.l2 ⟨o, n, s⟩ a b).size ≤ 5000 ∧ (T.l2 ⟨o, n, s⟩ a b).depth ≤ 40
  · rw [if_pos hs, if_pos hs]
    simp only [T.size, T.depth] at hs
    simp only [List.map_cons, List.map_nil, ptOf]
    rw [if_pos (by omega), if_pos (by omega)]
    exact joinM_bin o n s a b h (by omega)
  · rw [if_neg hs, if_neg hs]
theorem ptOf_if (n : Int) (s : Bytes) (a b c : T) : joined 26 n s [ptOf a, ptOf b, ptOf c] = ptOf (.l3 ⟨26, n, s⟩ a b c) := by
  unfold joined
  have e : nodesOf 26 [ptOf a, ptOf b, ptOf c] = (T.l3 ⟨26, n, s⟩ a b c).size := by rw [nodes_eq, if_neg (by decide)]; simp [ptOf, T.size]; omega
  have e2 : deepOf 26 [ptOf a, ptOf b, ptOf c] = (T.l3 ⟨26, n, s⟩ a b c).depth := by simp [deepOf, ptOf, T.depth]; omega
  rw [e, e2]
  show Pt.mk _ _ _ = Pt.mk _ _ _
  congr 1
  by_cases hs : (T.l3 ⟨26, n, s⟩ a b c).size ≤ 5000 ∧ (T.l3 ⟨26, n, s⟩ a b c).depth ≤ 40
  · rw [if_pos hs, if_pos hs]
    simp only [T.size, T.depth] at hs
    simp only [List.map_cons, List.map_nil, ptOf]
    rw [if_pos (by omega), if_pos (by omega), if_pos (by omega)]
    exact joinM_if n s a b c (by omega)
  · rw [if_neg hs, if_neg hs]
theorem argsC_deep (ts : List T) : ∀ acc : T, (ts.map ptOf).foldl (fun (a : Nat) (p : Pt) => max a (1 + p.deep) + if (27 : Int) = 27 then 1 else 0) (acc.depth + 1) = (argsC acc ts).depth + 1 := by
  induction ts with
  | nil => intro acc; rfl
  | cons t r ih =>
    intro acc
    rw [List.map_cons, List.foldl_cons]
    have e : (max (acc.depth + 1) (1 + (ptOf t).deep) + if (27 : Int) = 27 then 1 else 0) = (T.l2 ⟨28, 0, []⟩ acc t).depth + 1 := by
      simp only [T.depth, ptOf, if_true]; omega
    rw [e, ih]; rfl
theorem callT_deep (s : Bytes) (ts : List T) : deepOf 27 (ts.map ptOf) = (callT s ts).depth := by
  cases ts with
  | nil => rfl
  | cons t r =>
    unfold deepOf
    rw [List.map_cons, List.foldl_cons]
    have e : (max 1 (1 + (ptOf t).deep) + if (27 : Int) = 27 then 1 else 0) = (T.l1 ⟨28, 0, []⟩ t).depth + 1 := by
      simp only [T.depth, ptOf, if_true]; omega
    rw [e, argsC_deep]; rfl
theorem argsC_parts (ts : List T) : ∀ acc : T, acc.depth ≤ (argsC acc ts).depth ∧ ∀ t ∈ ts, t.depth ≤ (argsC acc ts).depth := by
  induction ts with
  | nil => intro acc; exact ⟨Nat.le_refl _, by simp⟩
  | cons t r ih =>
    intro acc
    have := ih (.l2 ⟨28, 0, []⟩ acc t)
    rw [argsC]
    simp only [T.depth] at this
    refine ⟨by omega, fun u hu => ?_⟩
    rcases List.mem_cons.1 hu with rfl | hu
    · omega
    · exact this.2 u hu
theorem callT_parts (s : Bytes) (ts : List T) : ∀ t ∈ ts, t.depth ≤ (callT s ts).depth ∧ t.size ≤ (callT s ts).size := by
  intro u hu
  have h2 : u.size ≤ (ts.map T.size).sum := by
    clear s
    induction ts with
    | nil => simp at hu
    | cons t r ih =>
      rw [List.map_cons, List.sum_cons]
      rcases List.mem_cons.1 hu with rfl | hu
      · omega
      · have := ih hu; omega
  refine ⟨?_, by rw [callT_size]; omega⟩
  cases ts with
  | nil => simp at hu
  | cons t r =>
    have := argsC_parts r (.l1 ⟨28, 0, []⟩ t)
    simp only [T.depth] at this
    rw [callT]
    simp only [T.depth]
    rcases List.mem_cons.1 hu with rfl | hu
    · omega
    · have := this.2 u hu; omega
theorem ptOf_call (s : Bytes) (ts : List T) : joined 27 0 s (ts.map ptOf) = ptOf (callT s ts) := by
  unfold joined
  have e : nodesOf 27 (ts.map ptOf) = (callT s ts).size := by
    rw [nodes_eq, if_pos rfl, callT_size, List.map_map, List.length_map]; rfl
  rw [e, callT_deep s]
  show Pt.mk _ _ _ = Pt.mk _ _ _
  congr 1
  by_cases hs : (callT s ts).size ≤ 5000 ∧ (callT s ts).depth ≤ 40
  · rw [if_pos hs, if_pos hs]
    rw [List.map_map]
    have : ts.map (Pt.e ∘ ptOf) = ts.map (fun t => t.flat 0) := List.map_congr_left fun t ht => by
      have := callT_parts s ts t ht
      simp only [Function.comp, ptOf]
      rw [if_pos (by omega)]
    rw [this]
    exact joinM_call s ts (by omega)
  · rw [if_neg hs, if_neg hs]

/-- A tree that may stand as an operand. -/
def okT (t : T) : Prop := t.okB = true ∧ t.lab.op ≠ 28
def okP (p : Pt) : Prop := ∃ t, okT t ∧ p = ptOf t
theorem ok_leaf (o n : Int) (s : Bytes) (h : 1 ≤ o ∧ o ≤ 3) (hp : plainB ⟨o, n, s⟩ = true) : okP (joined o n s []) := by
  refine ⟨_, ⟨?_, ?_⟩, ptOf_zero_op o n s h⟩
  · simp only [T.okB, hp, Bool.true_and]
    have hu : unaryB o = false := by simp [unaryB]; omega
    have hb : binaryB o = false := by simp [binaryB]; omega
    have e26 : o ≠ 26 := by omega
    have e27 : o ≠ 27 := by omega
    have e28 : o ≠ 28 := by omega
    simp [fitsB, hu, hb, e26, e27, e28]
  · simp [T.lab]; omega
theorem ok_un (o n : Int) (a : Pt) (h : unaryB o = true) (hp : plainB ⟨o, n, []⟩ = true) (ha : okP a) : okP (joined o n [] [a]) := by
  obtain ⟨t, ⟨h1, h2⟩, rfl⟩ := ha
  have hu := h
  simp [unaryB] at hu
  have e27 : o ≠ 27 := by omega
  refine ⟨_, ⟨?_, by simp [T.lab]; omega⟩, ptOf_un o n [] t h⟩
  have b1 : (t.lab.op == 28) = false := by simpa using h2
  have b2 : (o == 27) = false := by simpa using e27
  simp [T.okB, hp, fitsB, h, argsT, argsL, h1, b1, b2]
theorem plain_op (o : Int) (h : 4 ≤ o ∧ o ≤ 24) : plainB ⟨o, 0, []⟩ = true := by
  have e1 : o ≠ 1 := by omega
  have e2 : o ≠ 2 := by omega
  have e3 : o ≠ 3 := by omega
  have e25 : o ≠ 25 := by omega
  have e27 : o ≠ 27 := by omega
  simp [plainB, e1, e2, e3, e25, e27]; omega
theorem ok_bin (o : Int) (a b : Pt) (h : binaryB o = true) (ha : okP a) (hb : okP b) : okP (joined o 0 [] [a, b]) := by
  obtain ⟨t, ⟨h1, h2⟩, rfl⟩ := ha
  obtain ⟨u, ⟨h3, h4⟩, rfl⟩ := hb
  have hu := h
  simp [binaryB] at hu
  have hun : unaryB o = false := by simp [unaryB]; omega
  have e26 : o ≠ 26 := by omega
  have e27 : o ≠ 27 := by omega
  have e28 : o ≠ 28 := by omega
  have hp := plain_op o (by omega)
  refine ⟨_, ⟨?_, by simp [T.lab]; omega⟩, ptOf_bin o 0 [] t u h⟩
  have b1 : (t.lab.op == 28) = false := by simpa using h2
  have b3 : (u.lab.op == 28) = false := by simpa using h4
  have b2 : (o == 27) = false := by simpa using e27
  have b4 : (o == 28) = false := by simpa using e28
  simp [T.okB, hp, fitsB, h, hun, argsT, argsL, h1, h3, b1, b2, b3, b4, e26, e27, e28]
theorem ok_if (a b c : Pt) (ha : okP a) (hb : okP b) (hc : okP c) : okP (joined 26 0 [] [a, b, c]) := by
  obtain ⟨t, ⟨h1, h2⟩, rfl⟩ := ha
  obtain ⟨u, ⟨h3, h4⟩, rfl⟩ := hb
  obtain ⟨v, ⟨h5, h6⟩, rfl⟩ := hc
  refine ⟨_, ⟨?_, by simp [T.lab]⟩, ptOf_if 0 [] t u v⟩
  simp [T.okB, plainB, fitsB, unaryB, argsT, argsL, h1, h2, h3, h4, h5, h6]
theorem argsC_ok (ts : List T) (h : ∀ t ∈ ts, okT t) : ∀ acc : T, acc.okB = true → acc.lab.op = 28 → (argsC acc ts).okB = true ∧ (argsC acc ts).lab.op = 28 := by
  induction ts with
  | nil => intro acc h1 h2; exact ⟨h1, h2⟩
  | cons t r ih =>
    intro acc h1 h2
    have ht := h t (by simp)
    refine ih (fun u hu => h u (by simp [hu])) _ ?_ rfl
    have h3 := ht.1
    have h4 := ht.2
    simp [T.okB, plainB, fitsB, unaryB, argsT, argsL, h1, h2, h3, h4]
theorem ok_call (s : Bytes) (ps : List Pt) (hs : s ≠ []) (h : ∀ p ∈ ps, okP p) : okP (joined 27 0 s ps) := by
  obtain ⟨ts, hts, rfl⟩ : ∃ ts : List T, (∀ t ∈ ts, okT t) ∧ ps = ts.map ptOf := by
    induction ps with
    | nil => exact ⟨[], by simp, rfl⟩
    | cons p r ih =>
      obtain ⟨t, ht, rfl⟩ := h p (by simp)
      obtain ⟨ts, h1, rfl⟩ := ih (fun q hq => h q (by simp [hq]))
      exact ⟨t :: ts, by intro u hu; rcases List.mem_cons.1 hu with rfl | hu; exact ht; exact h1 u hu, rfl⟩
  have hp : plainB ⟨27, 0, s⟩ = true := by simp [plainB, hs]
  refine ⟨_, ⟨?_, ?_⟩, ptOf_call s ts⟩
  · cases ts with
    | nil => simp [callT, T.okB, hp, fitsB, unaryB]
    | cons t r =>
      have ht := hts t (by simp)
      have := argsC_ok r (fun u hu => hts u (by simp [hu])) (.l1 ⟨28, 0, []⟩ t) (by simp [T.okB, plainB, fitsB, unaryB, argsT, argsL, ht.1, ht.2]) rfl
      simp [callT, T.okB, hp, fitsB, unaryB, argsT, argsL, this.1, this.2]
  · cases ts <;> simp [callT, T.lab]
def binB (s : Int × Bool) : Bool := binaryB s.1
theorem signs_bin (n : Nat) (h : n ≤ 8) : ∀ x ∈ signsM n, binB x.2 = true := by
  match n, h with
  | 0, _ => simp [signsM]
  | 1, _ => decide
  | 2, _ => decide
  | 3, _ => decide
  | 4, _ => decide
  | 5, _ => decide
  | 6, _ => decide
  | 7, _ => decide
  | 8, _ => decide
theorem sign_bin {r : Rd} {n : Nat} {s : Int × Bool} (hn : n ≤ 8) (h : r.sign n = some s) : binaryB s.1 = true := by
  unfold Rd.sign at h
  split at h
  · exact signs_bin n hn _ (lookup_mem _ _ _ h)
  · cases h
def unB (s : Int × Bool) : Bool := unaryB s.1 && decide (4 ≤ s.1) && decide (s.1 ≤ 25)
theorem signs_un : ∀ x ∈ signsM 9, unB x.2 = true := by decide
theorem sign_un {r : Rd} {s : Int × Bool} (h : r.sign 9 = some s) : unaryB s.1 = true := by
  unfold Rd.sign at h
  split at h
  · have := signs_un _ (lookup_mem _ _ _ h); simp [unB] at this; exact this.1.1
  · cases h
theorem ok_sjoin (s : Int × Bool) (a b : Pt) (h : binaryB s.1 = true) (ha : okP a) (hb : okP b) : okP (sjoin s a b) := by
  unfold sjoin
  split
  · exact ok_bin _ _ _ h hb ha
  · exact ok_bin _ _ _ h ha hb
theorem ok_foldR : ∀ (ps : List Pt) (ops : List (Int × Bool)), ps.length = ops.length + 1 → (∀ p ∈ ps, okP p) → (∀ s ∈ ops, binaryB s.1 = true) → okP (foldR ps ops)
  | p :: ps, o :: os, h, h1, h2 => ok_sjoin o p _ (h2 o (by simp)) (h1 p (by simp)) (ok_foldR ps os (by simpa using h) (fun q hq => h1 q (by simp [hq])) (fun q hq => h2 q (by simp [hq])))
  | p :: _, [], _, h1, _ => h1 p (by simp)
  | [], _, h, _, _ => by simp at h
def Task.tree (r : Rd) : Task → Prop
  | .lev n => n ≤ 9
  | .rl n ps ops => n ≤ 8 ∧ (∀ p ∈ ps, okP p) ∧ (∀ s ∈ ops, binaryB s.1 = true) ∧ ps.length = ops.length + 1
  | .ll n p => n ≤ 8 ∧ okP p
  | .named s => s ≠ []
  | .args s ps => s ≠ [] ∧ ∀ p ∈ ps, okP p
  | _ => True
theorem fail_code (e : Int) (he : e ≠ 0) (r : Rd) : (r.fail e).code ≠ 0 := by
  unfold Rd.fail; split
  · exact he
  · assumption
/-- Behind a fault there is one. -/
theorem run_code : ∀ (f : Nat) (t : Task) (r : Rd) (p : Pt) (r' : Rd), run f t r = some (p, r') → r.code ≠ 0 → r'.code = r.code ∧ r'.at_ = r.at_ := by
  have fl : ∀ (e : Int) (r : Rd), r.code ≠ 0 → (r.fail e).code = r.code ∧ (r.fail e).at_ = r.at_ := fun e r h => by unfold Rd.fail; rw [if_neg h]; exact ⟨rfl, rfl⟩
  have nd : ∀ (s : Bytes) (r : Rd), r.code ≠ 0 → (r.need s).code = r.code ∧ (r.need s).at_ = r.at_ := fun s r h => by
    unfold Rd.need; split
    · exact ⟨rfl, rfl⟩
    · exact fl 5 r h
  have nm : ∀ (m : Nat) (r : Rd), r.code ≠ 0 → (r.numR m).code = r.code ∧ (r.numR m).at_ = r.at_ := fun m r h => by
    unfold Rd.numR; split
    · exact ⟨rfl, rfl⟩
    · exact fl 5 r h
  intro f
  induction f with
  | zero => intro t r p r' h; cases h
  | succ f ih =>
    intro t r p r' h hc
    have IH : ∀ {t : Task} {r1 : Rd} {p : Pt} {r' : Rd}, run f t r1 = some (p, r') → (r1.code = r.code ∧ r1.at_ = r.at_) → r'.code = r.code ∧ r'.at_ = r.at_ := fun h1 h2 => by
      have := ih _ _ _ _ h1 (by rw [h2.1]; exact hc)
      exact ⟨this.1.trans h2.1, this.2.trans h2.2⟩
    have N : ∀ (s : Bytes) {r1 : Rd}, (r1.code = r.code ∧ r1.at_ = r.at_) → (r1.need s).code = r.code ∧ (r1.need s).at_ = r.at_ := fun s {r1} h2 => by
      have := nd s r1 (by rw [h2.1]; exact hc)
      exact ⟨this.1.trans h2.1, this.2.trans h2.2⟩
    cases t with
    | lev n =>
      simp only [run] at h
      split at h
      · exact IH h ⟨rfl, rfl⟩
      · obtain ⟨⟨q, r1⟩, h1, h2⟩ := bind_some h
        simp only at h2
        split at h2 <;> exact IH h2 (IH h1 ⟨rfl, rfl⟩)
    | rl n ps ops =>
      simp only [run] at h
      split at h
      · simp only [Option.some.injEq, Prod.mk.injEq] at h
        obtain ⟨rfl, rfl⟩ := h; exact ⟨rfl, rfl⟩
      · obtain ⟨⟨q, r1⟩, h1, h2⟩ := bind_some h
        exact IH h2 (IH h1 ⟨rfl, rfl⟩)
    | ll n p0 =>
      simp only [run] at h
      split at h
      · simp only [Option.some.injEq, Prod.mk.injEq] at h
        obtain ⟨rfl, rfl⟩ := h; exact ⟨rfl, rfl⟩
      · obtain ⟨⟨q, r1⟩, h1, h2⟩ := bind_some h
        simp only at h2
        split at h2
        · simp only [Option.some.injEq, Prod.mk.injEq] at h2
          obtain ⟨rfl, rfl⟩ := h2; exact IH h1 ⟨rfl, rfl⟩
        · exact IH h2 (IH h1 ⟨rfl, rfl⟩)
    | opnd =>
      simp only [run] at h
      split at h
      · simp only [Option.some.injEq, Prod.mk.injEq] at h
        obtain ⟨rfl, rfl⟩ := h; exact fl 6 r hc
      · split at h
        · obtain ⟨⟨q, r1⟩, h1, h2⟩ := map_some h
          simp only [Prod.mk.injEq] at h2
          obtain ⟨rfl, rfl⟩ := h2
          exact IH (r' := r1) h1 ⟨rfl, rfl⟩
        · obtain ⟨⟨q, r1⟩, h1, h2⟩ := map_some h
          simp only [Prod.mk.injEq] at h2
          obtain ⟨rfl, rfl⟩ := h2
          refine IH (r' := r1) h1 ?_
          split
          · exact nm 1000 r.open_.adv hc
          · exact ⟨rfl, rfl⟩
    | single =>
      simp only [run] at h
      split at h
      · obtain ⟨⟨q, r1⟩, h1, h2⟩ := map_some h
        simp only [Prod.mk.injEq] at h2
        obtain ⟨rfl, rfl⟩ := h2
        exact N _ (IH h1 ⟨rfl, rfl⟩)
      · split at h
        · obtain ⟨⟨a, r1⟩, h1, h⟩ := bind_some h
          obtain ⟨⟨b, r2⟩, h2, h⟩ := bind_some h
          obtain ⟨⟨c, r3⟩, h3, h⟩ := map_some h
          simp only [Prod.mk.injEq] at h
          obtain ⟨rfl, rfl⟩ := h
          exact IH h3 (N _ (IH h2 (N _ (IH h1 ⟨rfl, rfl⟩))))
        · split at h
          · simp only [Option.some.injEq, Prod.mk.injEq] at h
            obtain ⟨rfl, rfl⟩ := h; exact ⟨rfl, rfl⟩
          · split at h
            · simp only [Option.some.injEq, Prod.mk.injEq] at h
              obtain ⟨rfl, rfl⟩ := h; exact ⟨rfl, rfl⟩
            · split at h
              · simp only [Option.some.injEq, Prod.mk.injEq] at h
                obtain ⟨rfl, rfl⟩ := h; exact nm _ r hc
              · split at h
                · exact IH h ⟨rfl, rfl⟩
                · simp only [Option.some.injEq, Prod.mk.injEq] at h
                  obtain ⟨rfl, rfl⟩ := h; exact fl 5 r hc
    | named s =>
      simp only [run] at h
      split at h
      · split at h
        · simp only [Option.some.injEq, Prod.mk.injEq] at h
          obtain ⟨rfl, rfl⟩ := h; exact ⟨rfl, rfl⟩
        · obtain ⟨⟨q, r1⟩, h1, h2⟩ := bind_some h
          exact IH h2 (IH h1 ⟨rfl, rfl⟩)
      · simp only [Option.some.injEq, Prod.mk.injEq] at h
        obtain ⟨rfl, rfl⟩ := h; exact ⟨rfl, rfl⟩
    | args s ps =>
      simp only [run] at h
      split at h
      · obtain ⟨⟨q, r1⟩, h1, h2⟩ := bind_some h
        exact IH h2 (IH h1 ⟨rfl, rfl⟩)
      · simp only [Option.some.injEq, Prod.mk.injEq] at h
        obtain ⟨rfl, rfl⟩ := h; exact nd rp r hc
theorem run_ok0 {f : Nat} {t : Task} {r : Rd} {p : Pt} {r' : Rd} (h : run f t r = some (p, r')) (hc : r'.code = 0) : r.code = 0 := by
  apply Classical.byContradiction
  intro h0
  exact h0 ((run_code f t r p r' h h0).1.symm.trans hc)
theorem need_ok {s : Bytes} {r : Rd} (h : (r.need s).code = 0) : r.isB s = true ∧ r.need s = r.adv := by
  unfold Rd.need at h ⊢
  split at h
  · rename_i hb; exact ⟨hb, by rw [if_pos hb]⟩
  · exact absurd h (fail_code 5 (by decide) r)
theorem numR_ok {m : Nat} {r : Rd} (h : (r.numR m).code = 0) : numB m r.cur = true ∧ r.numR m = r.adv ∧ r.num m = Lx.val r.cur.text := by
  unfold Rd.numR at h ⊢
  split at h
  · rename_i hb; exact ⟨hb, by rw [if_pos hb], by unfold Rd.num; rw [if_pos hb]⟩
  · exact absurd h (fail_code 5 (by decide) r)
/-- What is read without a fault is a tree. -/
theorem run_tree : ∀ (f : Nat) (t : Task) (r : Rd) (p : Pt) (r' : Rd), run f t r = some (p, r') → r'.code = 0 → t.tree r → okP p := by
  intro f
  induction f with
  | zero => intro t r p r' h; cases h
  | succ f ih =>
    intro t r p r' h hc ht
    cases t with
    | lev n =>
      simp only [run] at h
      simp only [Task.tree] at ht
      split at h
      · exact ih .opnd _ _ _ h hc trivial
      · obtain ⟨⟨q, r1⟩, h1, h2⟩ := bind_some h
        simp only at h2
        split at h2
        · exact ih _ _ _ _ h2 hc ⟨by omega, by simpa using ih _ _ _ _ h1 (run_ok0 h2 hc) (by simp only [Task.tree]; omega), by simp, rfl⟩
        · exact ih _ _ _ _ h2 hc ⟨by omega, ih _ _ _ _ h1 (run_ok0 h2 hc) (by simp only [Task.tree]; omega)⟩
    | rl n ps ops =>
      simp only [run] at h
      obtain ⟨hn, h1, h2, h3⟩ := ht
      split at h
      · simp only [Option.some.injEq, Prod.mk.injEq] at h
        obtain ⟨rfl, rfl⟩ := h; exact ok_foldR _ _ h3 h1 h2
      · rename_i s hs
        obtain ⟨⟨q, r1⟩, k1, k2⟩ := bind_some h
        have hq := ih _ _ _ _ k1 (run_ok0 k2 hc) (by simp only [Task.tree]; omega)
        exact ih _ _ _ _ k2 hc ⟨hn, by intro x hx; simp at hx; rcases hx with hx | hx; exact h1 x hx; subst hx; exact hq, by intro x hx; simp at hx; rcases hx with hx | hx; exact h2 x hx; subst hx; exact sign_bin hn hs, by simp [h3]⟩
    | ll n p0 =>
      simp only [run] at h
      obtain ⟨hn, h1⟩ := ht
      split at h
      · simp only [Option.some.injEq, Prod.mk.injEq] at h
        obtain ⟨rfl, rfl⟩ := h; exact h1
      · rename_i s hs
        obtain ⟨⟨q, r1⟩, k1, k2⟩ := bind_some h
        simp only at k2
        split at k2
        · simp only [Option.some.injEq, Prod.mk.injEq] at k2
          obtain ⟨rfl, rfl⟩ := k2
          exact ok_sjoin _ _ _ (sign_bin hn hs) h1 (ih _ _ _ _ k1 hc (by simp only [Task.tree]; omega))
        · exact ih _ _ _ _ k2 hc ⟨hn, ok_sjoin _ _ _ (sign_bin hn hs) h1 (ih _ _ _ _ k1 (run_ok0 k2 hc) (by simp only [Task.tree]; omega))⟩
    | opnd =>
      simp only [run] at h
      split at h
      · simp only [Option.some.injEq, Prod.mk.injEq] at h
        obtain ⟨rfl, rfl⟩ := h; exact absurd hc (fail_code 6 (by decide) r)
      · split at h
        · obtain ⟨⟨q, r1⟩, h1, h2⟩ := map_some h
          simp only [Prod.mk.injEq] at h2
          obtain ⟨rfl, rfl⟩ := h2
          exact ih .single _ _ _ h1 hc trivial
        · rename_i s hs
          obtain ⟨⟨q, r1⟩, h1, h2⟩ := map_some h
          simp only [Prod.mk.injEq] at h2
          obtain ⟨rfl, rfl⟩ := h2
          have hq := ih .opnd _ _ _ h1 hc trivial
          have hu := sign_un hs
          have hso := sign_ops hs
          refine ok_un _ _ _ hu ?_ hq
          split
          · rename_i h25
            rw [if_pos h25] at h1
            obtain ⟨hb, _, hv⟩ := numR_ok (run_ok0 h1 hc)
            rw [hv]
            simp [numB] at hb
            have := hb.2
            rw [h25]
            simp [plainB]; omega
          · exact plain_op _ (by omega)
    | single =>
      simp only [run] at h
      split at h
      · obtain ⟨⟨q, r1⟩, h1, h2⟩ := map_some h
        simp only [Prod.mk.injEq] at h2
        obtain ⟨rfl, rfl⟩ := h2
        have := need_ok hc
        rw [this.2] at hc
        exact ih _ _ _ _ h1 hc (by simp [Task.tree])
      · split at h
        · obtain ⟨⟨a, r1⟩, h1, h⟩ := bind_some h
          obtain ⟨⟨b, r2⟩, h2, h⟩ := bind_some h
          obtain ⟨⟨c, r3⟩, h3, h⟩ := map_some h
          simp only [Prod.mk.injEq] at h
          obtain ⟨rfl, rfl⟩ := h
          have c2 := run_ok0 h3 hc
          rw [(need_ok c2).2] at c2
          have c1 := run_ok0 h2 c2
          rw [(need_ok c1).2] at c1
          exact ok_if _ _ _ (ih _ _ _ _ h1 c1 (by simp [Task.tree])) (ih _ _ _ _ h2 c2 (by simp [Task.tree])) (ih _ _ _ _ h3 hc (by simp [Task.tree]))
        · split at h
          · simp only [Option.some.injEq, Prod.mk.injEq] at h
            obtain ⟨rfl, rfl⟩ := h; exact ok_leaf 2 1 [] (by decide) (by decide)
          · split at h
            · simp only [Option.some.injEq, Prod.mk.injEq] at h
              obtain ⟨rfl, rfl⟩ := h; exact ok_leaf 2 0 [] (by decide) (by decide)
            · split at h
              · simp only [Option.some.injEq, Prod.mk.injEq] at h
                obtain ⟨rfl, rfl⟩ := h
                obtain ⟨hb, _, hv⟩ := numR_ok hc
                rw [hv]
                simp [numB] at hb
                exact ok_leaf 1 _ [] (by decide) (by simp [plainB]; omega)
              · split at h
                · rename_i hk
                  exact ih (.named r.cur.text) _ _ _ h hc hk.2
                · simp only [Option.some.injEq, Prod.mk.injEq] at h
                  obtain ⟨rfl, rfl⟩ := h; exact absurd hc (fail_code 5 (by decide) r)
    | named s =>
      simp only [run] at h
      simp only [Task.tree] at ht
      split at h
      · split at h
        · simp only [Option.some.injEq, Prod.mk.injEq] at h
          obtain ⟨rfl, rfl⟩ := h; exact ok_call s [] ht (by simp)
        · obtain ⟨⟨q, r1⟩, h1, h2⟩ := bind_some h
          exact ih _ _ _ _ h2 hc ⟨ht, by simpa using ih _ _ _ _ h1 (run_ok0 h2 hc) (by simp [Task.tree])⟩
      · simp only [Option.some.injEq, Prod.mk.injEq] at h
        obtain ⟨rfl, rfl⟩ := h; exact ok_leaf 3 0 s (by decide) (by simp [plainB, ht])
    | args s ps =>
      simp only [run] at h
      obtain ⟨hs, hps⟩ := ht
      split at h
      · obtain ⟨⟨q, r1⟩, h1, h2⟩ := bind_some h
        have hq := ih _ _ _ _ h1 (run_ok0 h2 hc) (by simp [Task.tree])
        exact ih _ _ _ _ h2 hc ⟨hs, by intro x hx; simp at hx; rcases hx with hx | hx; exact hps x hx; subst hx; exact hq⟩
      · simp only [Option.some.injEq, Prod.mk.injEq] at h
        obtain ⟨rfl, rfl⟩ := h; exact ok_call s ps hs hps
end Go.Proofs.YtgohhnbdicdenaaGreatDoor.Ex

/- What a reader reads among other tokens: what stands ahead, behind, and where tokens stand, is of no moment. Conditions: as each says. -/
namespace Go.Proofs.YtgohhnbdicdenaaGreatDoor.Ex
open Go.Proofs.YtgohhnbdicdenaaGreatDoor.Tr
set_option linter.unusedVariables false
set_option linter.unusedSimpArgs false

theorem fine0 {r : Rd} (h : r.code = 0) : r.fine := fun hc => absurd h hc
/-- Whoever reads without a fault has a token to read. -/
theorem run_lt {f : Nat} {t : Task} {r : Rd} {p : Pt} {r' : Rd} (h : run f t r = some (p, r')) (hc : r'.code = 0) (hp : t.pre r) (ht : t.tree r) (hb : t.base = 0) : r.next < r.l.length := by
  obtain ⟨s, _, hm⟩ := run_step f t r p r' h (fine0 (run_ok0 h hc)) hp
  obtain ⟨u, _, rfl⟩ := run_tree f t r p r' h hc ht
  have h1 := u.size_pos
  have h2 : (ptOf u).nodes = u.size := rfl
  have h0 := run_ok0 h hc
  have h3 := s.top
  unfold Rd.mu at hm
  rw [h0, hc, hb, h2] at hm
  simp at hm
  omega

def Task.low : Task → Nat
  | .rl _ ps ops => (ps.map Pt.nodes).sum + ops.length
  | .ll _ p => p.nodes
  | .args _ ps => 1 + (ps.map Pt.nodes).sum + ps.length
  | .named _ => 1
  | _ => 0
def Like (l m : List Tok) : Prop := m.length = l.length ∧ ∀ (i : Nat) t, l[i]? = some t → ∃ u : Tok, m[i]? = some u ∧ u.kind = t.kind ∧ u.text = t.text

structure Sim (pre m x l : List Tok) (d : Nat) (r q : Rd) : Prop where
  rl : r.l = l
  ql : q.l = pre ++ m ++ x
  rc : r.code = 0
  qc : q.code = 0
  nx : q.next = pre.length + r.next
  le : r.next ≤ l.length
  bg : q.begun = r.begun + d
section
variable {pre m x l : List Tok} {d : Nat} {r q : Rd}
theorem Sim.cur (h : Sim pre m x l d r q) (hl : Like l m) (hlt : r.next < l.length) : q.cur.kind = r.cur.kind ∧ q.cur.text = r.cur.text ∧ q.next < q.l.length ∧ r.next < r.l.length := by
  obtain ⟨t, ht⟩ : ∃ t, l[r.next]? = some t := ⟨_, List.getElem?_eq_getElem hlt⟩
  obtain ⟨u, hu, hk, htx⟩ := hl.2 _ _ ht
  have e1 : r.cur = t := by unfold Rd.cur; rw [h.rl, ht]; rfl
  have e2 : q.cur = u := by
    unfold Rd.cur
    rw [h.ql, h.nx, List.append_assoc, List.getElem?_append_right (by omega), List.getElem?_append_left (by rw [hl.1]; omega), Nat.add_sub_cancel_left, hu]; rfl
  rw [e1, e2]
  refine ⟨hk, htx, ?_, by rw [h.rl]; exact hlt⟩
  rw [h.ql, h.nx, List.length_append, List.length_append, hl.1]; omega
theorem Sim.ws (h : Sim pre m x l d r q) (hl : Like l m) (hlt : r.next < l.length) : q.ws = r.ws := by
  obtain ⟨h1, h2, h3, h4⟩ := h.cur hl hlt
  unfold Rd.ws
  rw [h1]; simp [h3, h4]
theorem Sim.sign (h : Sim pre m x l d r q) (hl : Like l m) (hlt : r.next < l.length) (n : Nat) : q.sign n = r.sign n := by
  unfold Rd.sign
  rw [h.ws hl hlt, (h.cur hl hlt).2.1]
theorem Sim.numB (h : Sim pre m x l d r q) (hl : Like l m) (hlt : r.next < l.length) (k : Nat) : numB k q.cur = numB k r.cur := by
  unfold Ex.numB
  rw [(h.cur hl hlt).1, (h.cur hl hlt).2.1]
theorem Sim.adv (h : Sim pre m x l d r q) (hlt : r.next < l.length) : Sim pre m x l d r.adv q.adv :=
  ⟨h.rl, h.ql, h.rc, h.qc, by simp [Rd.adv, h.nx]; omega, by simp [Rd.adv]; omega, h.bg⟩
theorem Sim.shut (h : Sim pre m x l d r q) (hb : 1 ≤ r.begun) : Sim pre m x l d r.shut q.shut := ⟨h.rl, h.ql, h.rc, h.qc, h.nx, h.le, by simp [Rd.shut, h.bg]; omega⟩
end
end Go.Proofs.YtgohhnbdicdenaaGreatDoor.Ex

/- What reading tells of round signs, of what stands behind, of faults: plain facts. Conditions: none. -/
namespace Go.Proofs.YtgohhnbdicdenaaGreatDoor.Ex
open Go.Proofs.YtgohhnbdicdenaaGreatDoor.Tr
set_option linter.unusedVariables false
set_option linter.unusedSimpArgs false

def rd0 (l : List Tok) : Rd := ⟨l, 0, 0, 0, 0⟩
/-- What is parsed without a fault. -/
structure Parsed (l : List Tok) (p : Pt) (r : Rd) : Prop where
  eq : run (fuelOf l 0) (.lev 1) (rd0 l) = some (p, r)
  code : r.code = 0
  nodes : p.nodes ≤ 5000
  deep : p.deep ≤ 40
theorem Parsed.val {l : List Tok} {p : Pt} {r : Rd} (h : Parsed l p r) : parseM l 0 = (p.e, r.next, 0, 0) := by
  have e := h.eq
  unfold rd0 at e
  unfold parseM
  rw [e]
  simp only [parseOf]
  rw [if_neg (by simp [h.code]), if_neg (by have := h.nodes; omega), if_neg (by have := h.deep; omega)]
theorem Parsed.step {l : List Tok} {p : Pt} {r : Rd} (h : Parsed l p r) : Step (rd0 l) r := (run_step _ _ _ _ _ h.eq (fun hc => absurd rfl hc) (by simp [Task.pre])).1
theorem Parsed.pos {l : List Tok} {p : Pt} {r : Rd} (h : Parsed l p r) : 0 < l.length := by
  have := run_lt h.eq h.code (by simp [Task.pre]) (by simp [Task.tree]) rfl
  exact this
theorem Parsed.ok {l : List Tok} {p : Pt} {r : Rd} (h : Parsed l p r) : ∃ t, okT t ∧ p = ptOf t ∧ p.e = t.flat 0 ∧ t.size ≤ 5000 ∧ t.depth ≤ 40 := by
  obtain ⟨t, ht, rfl⟩ := run_tree _ _ _ _ _ h.eq h.code (by simp [Task.tree])
  have h1 := h.nodes
  have h2 := h.deep
  simp only [ptOf] at h1 h2
  exact ⟨t, ht, rfl, by simp only [ptOf]; rw [if_pos ⟨h1, h2⟩], h1, h2⟩
theorem Parsed.len {l : List Tok} {p : Pt} {r : Rd} (h : Parsed l p r) : p.e.length = p.nodes := by
  obtain ⟨t, ht, rfl, he, _⟩ := h.ok
  rw [he, T.flat_len]; rfl
theorem Parsed.may {l : List Tok} {p : Pt} {r : Rd} (h : Parsed l p r) : May p.e := by
  obtain ⟨t, ht, rfl, he, h1, h2⟩ := h.ok
  rw [he]; exact may_flat t ht.1 ht.2 h1 h2
end Go.Proofs.YtgohhnbdicdenaaGreatDoor.Ex

/- A fault of reading is at a token, or at the end: plain facts. Conditions: none. -/
namespace Go.Proofs.YtgohhnbdicdenaaGreatDoor.Ex
open Go.Proofs.YtgohhnbdicdenaaGreatDoor.Tr
set_option linter.unusedVariables false
set_option linter.unusedSimpArgs false

/-- A reader of these tokens, or one that has failed at one. -/
def Inv (L : List Tok) (r : Rd) : Prop := (r.code = 0 ∧ r.l = L) ∨ (r.code ≠ 0 ∧ ∃ i, r.at_ = atM L i)
variable {L : List Tok} {r : Rd}
theorem Inv.adv (h : Inv L r) : Inv L r.adv := h
theorem Inv.open_ (h : Inv L r) : Inv L r.open_ := h
theorem Inv.shut (h : Inv L r) : Inv L r.shut := h
theorem Inv.fail (h : Inv L r) {e : Int} (he : e ≠ 0) : Inv L (r.fail e) := by
  unfold Rd.fail
  rcases h with ⟨h1, h2⟩ | ⟨h1, h2⟩
  · rw [if_pos h1]; exact .inr ⟨he, r.next, by rw [h2]⟩
  · rw [if_neg h1]; exact .inr ⟨h1, h2⟩
theorem Inv.need (h : Inv L r) (s : Bytes) : Inv L (r.need s) := by
  unfold Rd.need
  split
  · exact h.adv
  · exact h.fail (by decide)
theorem Inv.num (h : Inv L r) (m : Nat) : Inv L (r.numR m) := by
  unfold Rd.numR
  split
  · exact h.adv
  · exact h.fail (by decide)
theorem run_inv : ∀ (f : Nat) (t : Task) (r : Rd) (p : Pt) (r' : Rd), run f t r = some (p, r') → Inv L r → Inv L r' := by
  intro f
  induction f with
  | zero => intro t r p r' h; cases h
  | succ f ih =>
    intro t r p r' h hI
    cases t with
    | lev n =>
      simp only [run] at h
      split at h
      · exact ih _ _ _ _ h hI
      · obtain ⟨⟨a, r1⟩, h1, h2⟩ := bind_some h
        have := ih _ _ _ _ h1 hI
        simp only at h2
        split at h2 <;> exact ih _ _ _ _ h2 this
    | rl n ps ops =>
      simp only [run] at h
      split at h
      · simp only [Option.some.injEq, Prod.mk.injEq] at h; rw [← h.2]; exact hI
      · obtain ⟨⟨a, r1⟩, h1, h2⟩ := bind_some h
        exact ih _ _ _ _ h2 (ih _ _ _ _ h1 hI.adv)
    | ll n p0 =>
      simp only [run] at h
      split at h
      · simp only [Option.some.injEq, Prod.mk.injEq] at h; rw [← h.2]; exact hI
      · obtain ⟨⟨a, r1⟩, h1, h2⟩ := bind_some h
        have := ih _ _ _ _ h1 hI.adv
        simp only at h2
        split at h2
        · simp only [Option.some.injEq, Prod.mk.injEq] at h2; rw [← h2.2]; exact this
        · exact ih _ _ _ _ h2 this
    | opnd =>
      simp only [run] at h
      split at h
      · simp only [Option.some.injEq, Prod.mk.injEq] at h; rw [← h.2]; exact hI.fail (by decide)
      · split at h
        · obtain ⟨⟨a, r1⟩, h1, h2⟩ := map_some h
          simp only [Prod.mk.injEq] at h2
          rw [← h2.2]; exact (ih _ _ _ _ h1 hI.open_).shut
        · obtain ⟨⟨a, r1⟩, h1, h2⟩ := map_some h
          simp only [Prod.mk.injEq] at h2
          rw [← h2.2]
          refine (ih _ _ _ _ h1 ?_).shut
          split
          · exact (hI.open_.adv).num _
          · exact hI.open_.adv
    | single =>
      simp only [run] at h
      split at h
      · obtain ⟨⟨a, r1⟩, h1, h2⟩ := map_some h
        simp only [Prod.mk.injEq] at h2
        rw [← h2.2]; exact (ih _ _ _ _ h1 hI.adv).need _
      · split at h
        · obtain ⟨⟨a, r1⟩, h1, h⟩ := bind_some h
          obtain ⟨⟨b, r2⟩, h2, h⟩ := bind_some h
          obtain ⟨⟨c, r3⟩, h3, h⟩ := map_some h
          simp only [Prod.mk.injEq] at h
          rw [← h.2]
          exact ih _ _ _ _ h3 ((ih _ _ _ _ h2 ((ih _ _ _ _ h1 hI.adv).need _)).need _)
        · split at h
          · simp only [Option.some.injEq, Prod.mk.injEq] at h; rw [← h.2]; exact hI.adv
          · split at h
            · simp only [Option.some.injEq, Prod.mk.injEq] at h; rw [← h.2]; exact hI.adv
            · split at h
              · simp only [Option.some.injEq, Prod.mk.injEq] at h; rw [← h.2]; exact hI.num _
              · split at h
                · exact ih _ _ _ _ h hI
                · simp only [Option.some.injEq, Prod.mk.injEq] at h; rw [← h.2]; exact hI.fail (by decide)
    | named s =>
      simp only [run] at h
      split at h
      · split at h
        · simp only [Option.some.injEq, Prod.mk.injEq] at h; rw [← h.2]; exact hI.adv.adv.adv
        · obtain ⟨⟨a, r1⟩, h1, h2⟩ := bind_some h
          exact ih _ _ _ _ h2 (ih _ _ _ _ h1 hI.adv.adv)
      · simp only [Option.some.injEq, Prod.mk.injEq] at h; rw [← h.2]; exact hI.adv
    | args s ps =>
      simp only [run] at h
      split at h
      · obtain ⟨⟨a, r1⟩, h1, h2⟩ := bind_some h
        exact ih _ _ _ _ h2 (ih _ _ _ _ h1 hI.adv)
      · simp only [Option.some.injEq, Prod.mk.injEq] at h; rw [← h.2]; exact hI.need _

end Go.Proofs.YtgohhnbdicdenaaGreatDoor.Ex

/- What layer prog reads of tokens, as plain functions. Conditions: none. -/
namespace Go.Proofs.YtgohhnbdicdenaaGreatDoor.Pg
open Go.Proofs.YtgohhnbdicdenaaGreatDoor.Tr Go.Proofs.YtgohhnbdicdenaaGreatDoor.Ex
set_option linter.unusedVariables false
set_option linter.unusedSimpArgs false

/-- A stream that is told, an equation, an item, a unit, a program. -/
structure Prm where
  name : Bytes
  ty : Int
deriving DecidableEq
structure Eqn where
  name : Bytes
  e : List Nd
deriving DecidableEq
structure Itm where
  kind : Int
  name : Bytes
  ty : Int
  e : List Nd
  f : List Nd
  args : List (List Nd)
deriving DecidableEq
structure Unt where
  contract : Bool
  name : Bytes
  ins : List Prm
  out : Prm
  vars : List Prm
  eqs : List Eqn
  items : List Itm
deriving DecidableEq
structure Prg where
  units : List Unt
  main : Bytes
  back : Bytes
deriving DecidableEq
def Prg.none : Prg := ⟨[], [], []⟩

/-- What reads: a reader in, what is read and a reader out. -/
abbrev PM (α : Type) := Rd → α × Rd
def pBind {α β : Type} (f : PM α) (g : α → PM β) : PM β := fun r => g (f r).1 (f r).2
def pPure {α : Type} (a : α) : PM α := fun r => (a, r)
def txt (r : Rd) : Bytes := r.cur.text
def Rd.stop (C A : Int) (r : Rd) : Rd := if r.code = 0 then ⟨[], r.next, r.begun, C, A⟩ else ⟨[], r.next, r.begun, r.code, r.at_⟩
def Rd.to (n : Nat) (r : Rd) : Rd := ⟨r.l, n, r.begun, r.code, r.at_⟩
def needP (s : Bytes) : PM Unit := fun r => ((), if txt r = s then r.adv else r.fail 5)
def takeP (s : Bytes) : PM Bool := fun r => if txt r = s then (true, r.adv) else (false, r)
def atNameB (r : Rd) : Bool := decide (r.next < r.l.length) && r.cur.kind == 1
def nameP : PM Bytes := fun r => if atNameB r then (txt r, r.adv) else ([], r.fail 5)
def failP (e : Int) : PM Unit := fun r => ((), r.fail e)
def advP : PM Unit := fun r => ((), r.adv)
def exprP : PM (List Nd) := fun r => if (parseM r.l r.next).2.2.1 ≠ 0 then ([], Rd.stop (parseM r.l r.next).2.2.1 (parseM r.l r.next).2.2.2 r) else ((parseM r.l r.next).1, Rd.to (parseM r.l r.next).2.1 r)
def rowMax : Nat := 202
/-- Things one behind the other; a row of more than 200 is none. -/
def rowF {α : Type} (b : Rd → Bool) (one : PM α) : Nat → List α → PM (List α)
  | 0, acc => pPure acc
  | k + 1, acc => fun r => if b r then (if acc.length = 200 then ([], r.fail 7) else pBind one (fun x => rowF b one k (acc ++ [x])) r) else (acc, r)
def rowP {α : Type} (b : Rd → Bool) (one : PM α) : PM (List α) := rowF b one rowMax []
/-- Things in round signs, a sign between any two. -/
def encF {α : Type} (sep : Bytes) (one : PM α) : Nat → List α → PM (List α)
  | 0, acc => pPure acc
  | k + 1, acc => pBind (takeP sep) fun b => if b then (if acc.length = 200 then pBind (failP 7) fun _ => pPure [] else pBind one fun x => encF sep one k (acc ++ [x])) else pBind (needP [41]) fun _ => pPure acc
def encP {α : Type} (sep : Bytes) (one : PM α) : PM (List α) := pBind (needP [40]) fun _ => pBind (takeP [41]) fun b => if b then pPure [] else pBind one fun x => encF sep one rowMax [x]

def wBool : Bytes := [98, 111, 111, 108]
def wInt : Bytes := [105, 110, 116]
def wNode : Bytes := [110, 111, 100, 101]
def wContract : Bytes := [99, 111, 110, 116, 114, 97, 99, 116]
def wMain : Bytes := [109, 97, 105, 110]
def wFallback : Bytes := [102, 97, 108, 108, 98, 97, 99, 107]
def wReturns : Bytes := [114, 101, 116, 117, 114, 110, 115]
def wVar : Bytes := [118, 97, 114]
def wLet : Bytes := [108, 101, 116]
def wTel : Bytes := [116, 101, 108]
def wEnd : Bytes := [101, 110, 100]
def wAssume : Bytes := [97, 115, 115, 117, 109, 101]
def wGuarantee : Bytes := [103, 117, 97, 114, 97, 110, 116, 101, 101]
def wGhost : Bytes := [103, 104, 111, 115, 116]
def wMode : Bytes := [109, 111, 100, 101]
def wImport : Bytes := [105, 109, 112, 111, 114, 116]
def wRequire : Bytes := [114, 101, 113, 117, 105, 114, 101]
def wEnsure : Bytes := [101, 110, 115, 117, 114, 101]
def sSemi : Bytes := [59]
def sColon : Bytes := [58]
def sEq : Bytes := [61]
def sComma : Bytes := [44]

def paramP : PM Prm := pBind nameP fun n => pBind (needP sColon) fun _ => pBind (takeP wBool) fun b => if b then pPure ⟨n, 1⟩ else pBind (takeP wInt) fun i => if i then pPure ⟨n, 2⟩ else pBind (failP 5) fun _ => pPure ⟨n, 0⟩
def streamP : PM Prm := pBind paramP fun p => pBind (needP sSemi) fun _ => pPure p
def streamsP : PM (List Prm) := fun r => if atNameB r then rowP atNameB streamP r else rowP atNameB streamP (r.fail 5)
def eqnP : PM Eqn := pBind nameP fun n => pBind (needP sEq) fun _ => pBind exprP fun e => pBind (needP sSemi) fun _ => pPure ⟨n, e⟩
def kindM (s : Bytes) : Int := if s = wAssume then 1 else if s = wGuarantee then 2 else if s = wGhost then 3 else if s = wMode then 4 else if s = wImport then 5 else 0
def atItemB (r : Rd) : Bool := kindM (txt r) != 0
def itemOf (k : Int) : PM Itm :=
  if k = 3 then pBind paramP fun p => pBind (needP sEq) fun _ => pBind exprP fun e => pPure ⟨k, p.name, p.ty, e, [], []⟩
  else if k = 4 then pBind nameP fun n => pBind (needP wRequire) fun _ => pBind exprP fun e => pBind (needP wEnsure) fun _ => pBind exprP fun f => pPure ⟨k, n, 0, e, f, []⟩
  else if k = 5 then pBind nameP fun n => pBind (encP sComma exprP) fun l => pPure ⟨k, n, 0, [], [], l⟩
  else pBind exprP fun e => pPure ⟨k, [], 0, e, [], []⟩
def itemP : PM Itm := fun r => pBind advP (fun _ => pBind (itemOf (kindM (txt r))) fun i => pBind (needP sSemi) fun _ => pPure i) r
def itemsP : PM (List Itm) := pBind (rowP atItemB itemP) fun l => pBind (needP wEnd) fun _ => pPure l
def contractP : PM Unt := pBind nameP fun n => pBind (encP sSemi paramP) fun i => pBind itemsP fun l => pPure ⟨true, n, i, ⟨[], 0⟩, [], [], l⟩
def nodeP : PM Unt := pBind nameP fun n => pBind (encP sSemi paramP) fun i => pBind (needP wReturns) fun _ => pBind (needP [40]) fun _ => pBind paramP fun o => pBind (needP [41]) fun _ =>
  pBind (takeP wContract) fun c => pBind (if c then itemsP else pPure []) fun l => pBind (takeP wVar) fun v => pBind (if v then streamsP else pPure []) fun vs => pBind (needP wLet) fun _ => pBind (rowP atNameB eqnP) fun es => pBind (needP wTel) fun _ => pPure ⟨false, n, i, o, vs, es, l⟩
def unitP : PM Unt := pBind (takeP wContract) fun c => if c then contractP else pBind (needP wNode) fun _ => nodeP
def atUnitB (r : Rd) : Bool := txt r == wNode || txt r == wContract
def endP : PM Unit := fun r => if r.next < r.l.length then ((), r.fail 5) else ((), r)
def backP (b : Bool) : PM Bytes := if b then pBind nameP fun n => pBind (needP sSemi) fun _ => pPure n else pPure []
def progG (f : PM (List Unt)) : PM Prg := pBind f fun us => pBind (needP wMain) fun _ => pBind nameP fun m => pBind (needP sSemi) fun _ => pBind (takeP wFallback) fun b => pBind (backP b) fun k => pBind endP fun _ => pPure ⟨us, m, k⟩
def progP : PM Prg := progG (rowP atUnitB unitP)
/-- What Parse answers: a program, a fault. -/
def progM (s : Bytes) : Prg × Int × Int :=
  match Lx.lexM s with
  | .bad c a => (.none, c, a)
  | .ok l => if (progP ⟨l, 0, 0, 0, 0⟩).2.code ≠ 0 then (.none, (progP ⟨l, 0, 0, 0, 0⟩).2.code, (progP ⟨l, 0, 0, 0, 0⟩).2.at_) else ((progP ⟨l, 0, 0, 0, 0⟩).1, 0, 0)
end Go.Proofs.YtgohhnbdicdenaaGreatDoor.Pg

/- The small functions of layer lex return what the plain functions of LexM say, and leave memory alone. Conditions: lengths within a machine's; a row of digits is not empty. -/
namespace Go.Proofs.YtgohhnbdicdenaaGreatDoor.Lx
open Go.ChangeShapes Go.WideShapes Go.ChangeAt Go.RowKit
set_option linter.unusedVariables false

theorem ret_bool {a b : Bool} (h : a = b) : Ending.returned (.bool a) = .returned (.bool b) := by rw [h]

theorem le_cast (a b : UInt8) : (a ≤ b) ↔ ((a.toNat : Int) ≤ (b.toNat : Int)) := by rw [UInt8.le_iff_toNat_le]; omega
theorem eq_cast (a b : UInt8) : (a = b) ↔ ((a.toNat : Int) = (b.toNat : Int)) := by rw [← UInt8.toNat_inj]; omega

theorem isDigit_any (c : UInt8) (w : World) :
    Calls Tryz.prog 46 #[.int .u8 c.toNat] w fun e w' => e = .returned (.bool (digitB c)) ∧ w = w' := by
  by_cases h : (48 : Int) ≤ c.toNat
  · have e : digitB c = decide ((c.toNat : Int) ≤ 57) := by
      have h1 : (48 : UInt8) ≤ c := (le_cast _ _).2 h
      simp only [digitB, h1, decide_true, Bool.true_and, decide_eq_decide]; exact le_cast _ _
    rw [e]
    go_enter Tryz.func46, Tryz.ntmps46
    go_wp2
    go_ret
    exact ⟨rfl, rfl⟩
  · have e : digitB c = false := by
      have h1 : ¬ (48 : UInt8) ≤ c := fun h' => h ((le_cast _ _).1 h')
      simp [digitB, h1]
    rw [e]
    go_enter Tryz.func46, Tryz.ntmps46
    go_wp2
    go_ret
    exact ⟨rfl, rfl⟩

theorem isOfName_any (c : UInt8) (w : World) :
    Calls Tryz.prog 48 #[.int .u8 c.toNat] w fun e w' => e = .returned (.bool (ofNameB c)) ∧ w = w' := by
  have hb : ofNameB c = (decide ((97 : Int) ≤ c.toNat) && decide ((c.toNat : Int) ≤ 122) || ((c.toNat : Int) == 95) || digitB c) := by
    unfold ofNameB
    have e1 : decide ((97 : UInt8) ≤ c) = decide ((97 : Int) ≤ c.toNat) := decide_eq_decide.2 (le_cast _ _)
    have e2 : decide (c ≤ (122 : UInt8)) = decide ((c.toNat : Int) ≤ 122) := decide_eq_decide.2 (le_cast _ _)
    have e3 : (c == (95 : UInt8)) = ((c.toNat : Int) == 95) := by
      rw [Bool.eq_iff_iff, beq_iff_eq, beq_iff_eq]; exact eq_cast _ _
    rw [e1, e2, e3]
  rw [hb]
  clear hb
  by_cases h1 : (97 : Int) ≤ c.toNat <;> by_cases h2 : (c.toNat : Int) ≤ 122 <;> rcases Bool.eq_false_or_eq_true ((c.toNat : Int) == 95) with h3 | h3
  all_goals
    go_enter Tryz.func48, Tryz.ntmps48
    go_wp2_with (go_at_call 46; refine (isDigit_any _ _).mono ?_; rintro e w' ⟨rfl, rfl⟩)
  all_goals
    go_ret
    exact ⟨ret_bool (by first | (simp [h1, h2, h3]; done) | (simp [h1, h2, h3]; intros; omega)), rfl⟩

theorem isBlank_any (c : UInt8) (w : World) :
    Calls Tryz.prog 90 #[.int .u8 c.toNat] w fun e w' => e = .returned (.bool (blankB c)) ∧ w = w' := by
  have q : ∀ k : UInt8, (c == k) = ((c.toNat : Int) == (k.toNat : Int)) := fun k => by
    rw [Bool.eq_iff_iff, beq_iff_eq, beq_iff_eq]; exact eq_cast _ _
  have hb : blankB c = (((c.toNat : Int) == 32) || ((c.toNat : Int) == 9) || ((c.toNat : Int) == 10) || ((c.toNat : Int) == 13)) := by
    unfold blankB; rw [q 32, q 9, q 10, q 13]; rfl
  rw [hb]
  clear hb q
  rcases Bool.eq_false_or_eq_true ((c.toNat : Int) == 32) with h1 | h1 <;> rcases Bool.eq_false_or_eq_true ((c.toNat : Int) == 9) with h2 | h2 <;> rcases Bool.eq_false_or_eq_true ((c.toNat : Int) == 10) with h3 | h3
  all_goals
    go_enter Tryz.func90, Tryz.ntmps90
    go_wp2
  all_goals
    go_ret
    exact ⟨ret_bool (by simp [h1, h2, h3]), rfl⟩

set_option maxRecDepth 100000 in
set_option maxHeartbeats 1000000 in
theorem isWord_any (s : ByteArray) (w : World) :
    Calls Tryz.prog 47 #[.string s] w fun e w' => e = .returned (.bool (wordB s.toList)) ∧ w = w' := by
  go_enter Tryz.func47, Tryz.ntmps47
  go_wp2
  all_goals
    go_ret
    go_light
    refine ⟨ret_bool ?_, rfl⟩
    simp_all [wordB, words]
end Go.Proofs.YtgohhnbdicdenaaGreatDoor.Lx

/- Further functions of layer lex return what the plain functions of LexM say, and leave memory alone. Conditions: lengths within a machine's; a row of digits, a text with a sign are not empty. -/
namespace Go.Proofs.YtgohhnbdicdenaaGreatDoor.Lx
open Go.ChangeShapes Go.WideShapes Go.ChangeAt Go.RowKit
set_option linter.unusedVariables false

/-- A text of bytes. -/
def str (l : Bytes) : ByteArray := ⟨l.toArray⟩
theorem str_toList (l : Bytes) : (str l).toList = l := by unfold str; rw [ByteArray.toList_eq]
theorem str_size (l : Bytes) : (str l).size = l.length := by show l.toArray.size = _; simp
theorem toList_len (s : ByteArray) : s.toList.length = s.size := by rw [ByteArray.toList_eq]; exact Array.length_toList
theorem ext_toList {a b : ByteArray} (h : a.toList = b.toList) : a = b := by
  rw [ByteArray.toList_eq, ByteArray.toList_eq] at h
  obtain ⟨⟨a⟩⟩ := a; obtain ⟨⟨b⟩⟩ := b
  simp at h; rw [h]
theorem str_of (s : ByteArray) : str s.toList = s := ext_toList (str_toList _)
theorem ret_str {a b : ByteArray} (h : a.toList = b.toList) : Ending.returned (.string a) = .returned (.string b) := by rw [ext_toList h]
theorem toList_get (s : ByteArray) (i : Nat) (h : i < s.size) : s.toList[i]? = some s[i] := by
  rw [ByteArray.toList_eq]; obtain ⟨⟨l⟩⟩ := s
  simp [ByteArray.size] at h
  simp [h]; rfl
theorem head_get (s : ByteArray) (h : 0 < s.size) : s.toList.headD 0 = s[0] := by
  have := toList_get s 0 h
  cases hl : s.toList with
  | nil => rw [hl] at this; simp at this
  | cons a l => rw [hl] at this; simpa using this
theorem extract_toList (s : ByteArray) (a b : Nat) : (s.extract a b).toList = (s.toList.drop a).take (b - a) := by
  rw [ByteArray.toList_eq, ByteArray.toList_eq]
  obtain ⟨⟨l⟩⟩ := s
  rw [ByteArray.extract_mk]
theorem extract_end (s : ByteArray) (a : Nat) : (s.extract a s.size).toList = s.toList.drop a := by
  rw [extract_toList, List.take_of_length_le]; rw [List.length_drop, toList_len]; omega

set_option maxHeartbeats 800000 in
theorem digits_any (s : ByteArray) (w : World) (h : s.size ≤ maxLen) (hp : 0 < s.size) :
    Calls Tryz.prog 66 #[.string s] w fun e w' => e = .returned (.tuple #[.int .i64 (digM s.toList).1, .int .i64 (digM s.toList).2]) ∧ w = w' := by
  unfold maxLen at h
  have hl := toList_len s
  have hh := head_get s hp
  have hz : (s.toList.headD 0 = 48) ↔ ((s[0].toNat : Int) == 48) = true := by rw [hh, beq_iff_eq]; exact eq_cast _ _
  have hn : s.size = 1 ∨ (1 < s.size ∧ s.size < 10) ∨ s.size = 10 ∨ 10 < s.size := by omega
  rcases hn with hn | ⟨hn1, hn2⟩ | hn | hn
  · have e : digM s.toList = (2, 0) := by unfold digM; rw [hl, if_neg (by omega), if_neg (by omega)]
    rw [e]
    have a1 : (s.size : Int) ≤ 1 := by omega
    have a2 : ((s.size : Int) == 10) = false := by rw [beq_eq_false_iff_ne]; omega
    clear hl hh hz hn e
    go_enter Tryz.func66, Tryz.ntmps66
    go_wp2
    go_ret2
    exact ⟨rfl, rfl⟩
  · rcases Bool.eq_false_or_eq_true ((s[0].toNat : Int) == 48) with z | z
    · have e : digM s.toList = (0, 2) := by unfold digM; rw [hl, if_pos (.inl ⟨hn1, hz.2 z⟩)]
      rw [e]
      clear hl hh hz e
      go_enter Tryz.func66, Tryz.ntmps66
      go_wp2
      go_ret2
      exact ⟨rfl, rfl⟩
    · have e : digM s.toList = (2, 0) := by
        unfold digM; rw [hl, if_neg (by rintro (⟨_, k⟩ | k); exact absurd (hz.1 k) (by rw [z]; decide); omega), if_neg (by omega)]
      rw [e]
      have a2 : ((s.size : Int) == 10) = false := by rw [beq_eq_false_iff_ne]; omega
      clear hl hh hz e
      go_enter Tryz.func66, Tryz.ntmps66
      go_wp2
      go_ret2
      exact ⟨rfl, rfl⟩
  · rcases Bool.eq_false_or_eq_true ((s[0].toNat : Int) == 48) with z | z
    · have e : digM s.toList = (0, 2) := by unfold digM; rw [hl, if_pos (.inl ⟨by omega, hz.2 z⟩)]
      rw [e]
      have a1 : 1 < s.size := by omega
      clear hl hh hz e hn
      go_enter Tryz.func66, Tryz.ntmps66
      go_wp2
      go_ret2
      exact ⟨rfl, rfl⟩
    · have hno : ¬ (1 < s.size ∧ s.toList.headD 0 = 48 ∨ 10 < s.size) := by
        rintro (⟨_, k⟩ | k)
        · exact absurd (hz.1 k) (by rw [z]; decide)
        · omega
      have a1 : 1 < s.size := by omega
      have a2 : (s.size : Int) ≤ 10 := by omega
      have a3 : ((s.size : Int) == 10) = true := by rw [beq_iff_eq]; omega
      rcases Bool.eq_false_or_eq_true (gtB s.toList) with g | g
      · have e : digM s.toList = (0, 2) := by unfold digM; rw [hl, if_neg hno, if_pos ⟨hn, g⟩]
        rw [e]
        have g' : (!(Op.bytesLess s.toList [50, 49, 52, 55, 52, 56, 51, 54, 52, 55] || s.toList == [50, 49, 52, 55, 52, 56, 51, 54, 52, 55])) = true := g
        rw [Bool.not_eq_true', Bool.or_eq_false_iff] at g'
        obtain ⟨g1, g2⟩ := g'
        clear hl hh hz e hn hno g
        go_enter Tryz.func66, Tryz.ntmps66
        go_wp2
        go_ret2
        exact ⟨rfl, rfl⟩
      · have e : digM s.toList = (2, 0) := by unfold digM; rw [hl, if_neg hno, if_neg (by rw [g]; simp)]
        rw [e]
        have g' : (!(Op.bytesLess s.toList [50, 49, 52, 55, 52, 56, 51, 54, 52, 55] || s.toList == [50, 49, 52, 55, 52, 56, 51, 54, 52, 55])) = false := g
        rw [Bool.not_eq_false', Bool.or_eq_true] at g'
        rcases g' with g1 | g1
        all_goals
          clear hl hh hz e hn hno g
          go_enter Tryz.func66, Tryz.ntmps66
          go_wp2
          go_ret2
          exact ⟨rfl, rfl⟩
  · have e : digM s.toList = (0, 2) := by unfold digM; rw [hl, if_pos (.inr hn)]
    rw [e]
    have a1 : 1 < s.size := by omega
    rcases Bool.eq_false_or_eq_true ((s[0].toNat : Int) == 48) with z | z
    all_goals
      clear hl hh hz e
      go_enter Tryz.func66, Tryz.ntmps66
      go_wp2
      go_ret2
      exact ⟨rfl, rfl⟩

theorem sign_any (s : ByteArray) (w : World) :
    Calls Tryz.prog 69 #[.string s] w fun e w' => e = .returned (.tuple #[.int .i64 (sigM s.toList).1, .int .i64 (sigM s.toList).2]) ∧ w = w' := by
  rcases Bool.eq_false_or_eq_true s.toList.isEmpty with h | h
  · have e : sigM s.toList = (0, 5) := by unfold sigM; rw [if_pos (by simpa using h)]
    rw [e]
    go_enter Tryz.func69, Tryz.ntmps69
    go_wp2
    go_ret2
    exact ⟨rfl, rfl⟩
  · have e : sigM s.toList = (4, 0) := by unfold sigM; rw [if_neg (by intro h'; rw [h'] at h; cases h)]
    rw [e]
    go_enter Tryz.func69, Tryz.ntmps69
    go_wp2
    go_ret2
    exact ⟨rfl, rfl⟩

theorem IsName_any (s : ByteArray) (w : World) (h : s.size ≤ maxLen) :
    Calls Tryz.prog 28 #[.string s] w fun e w' => e = .returned (.bool (nameB s.toList)) ∧ w = w' := by
  unfold maxLen at h
  have hl := toList_len s
  rcases Bool.eq_false_or_eq_true s.toList.isEmpty with h0 | h0
  · have e : nameB s.toList = false := by unfold nameB; rw [h0]; rfl
    rw [e]
    clear hl
    go_enter Tryz.func28, Tryz.ntmps28
    go_wp2
    go_ret
    exact ⟨rfl, rfl⟩
  · have hp : 0 < s.size := by
      rw [← hl]; cases hs : s.toList with
      | nil => rw [hs] at h0; cases h0
      | cons a l => simp
    have hh := head_get s hp
    by_cases h40 : 40 < s.size
    · have e : nameB s.toList = false := by
        have k : decide (s.toList.length ≤ 40) = false := by rw [hl]; simpa using h40
        unfold nameB; rw [k]; simp
      rw [e]
      clear hl hh
      go_enter Tryz.func28, Tryz.ntmps28
      go_wp2
      go_ret
      exact ⟨rfl, rfl⟩
    · rcases Bool.eq_false_or_eq_true (digitB s[0]) with hd | hd
      · have e : nameB s.toList = false := by unfold nameB; rw [hh, hd]; simp
        rw [e]
        clear hl hh
        go_enter Tryz.func28, Tryz.ntmps28
        go_wp2_with (first | (go_at_call 46; refine (isDigit_any _ _).mono ?_; rintro e w' ⟨rfl, rfl⟩) | (go_at_call 47; refine (isWord_any _ _).mono ?_; rintro e w' ⟨rfl, rfl⟩))
        go_ret
        exact ⟨rfl, rfl⟩
      · rcases Bool.eq_false_or_eq_true (wordB s.toList) with hw | hw
        · have e : nameB s.toList = false := by unfold nameB; rw [hw]; simp
          rw [e]
          clear hl hh
          go_enter Tryz.func28, Tryz.ntmps28
          go_wp2_with (first | (go_at_call 46; refine (isDigit_any _ _).mono ?_; rintro e w' ⟨rfl, rfl⟩) | (go_at_call 47; refine (isWord_any _ _).mono ?_; rintro e w' ⟨rfl, rfl⟩))
          go_ret
          exact ⟨rfl, rfl⟩
        · have e : nameB s.toList = s.toList.all ofNameB := by
            have k : decide (s.toList.length ≤ 40) = true := by rw [hl]; simpa using h40
            unfold nameB; rw [hw, hh, hd, h0, k]; simp
          rw [e]
          have HL := Lib.hid hl
          clear hl hh e
          go_enter Tryz.func28, Tryz.ntmps28
          go_wp2_with (first | (go_at_call 46; refine (isDigit_any _ _).mono ?_; rintro e w' ⟨rfl, rfl⟩) | (go_at_call 47; refine (isWord_any _ _).mono ?_; rintro e w' ⟨rfl, rfl⟩))
          go_loop [22] (fun i => ∃ k : Nat, k ≤ s.size ∧ i = .int .i64 k ∧ (s.toList.take k).all ofNameB = true) (fun i => s.size - (intOf i).toNat)
          case atStart => exact ⟨0, Nat.zero_le _, rfl, by simp⟩
          case round =>
            obtain ⟨k, hk, rfl, hall⟩ := hrel
            have HA := Lib.hid hall
            clear hall
            by_cases hlt : k < s.size
            · have hg := toList_get s k hlt
              have hsn : s.toList.take (k + 1) = s.toList.take k ++ [s[k]] := by rw [List.take_add_one, hg]; rfl
              rcases Bool.eq_false_or_eq_true (ofNameB s[k]) with ho | ho
              · have HS := Lib.hid (show (s.toList.take (k + 1)).all ofNameB = true by rw [hsn, List.all_append, HA.out]; simp [ho])
                clear hg hsn
                go_wp2_with (first | (go_at_call 48; refine (isOfName_any _ _).mono ?_; rintro e w' ⟨rfl, rfl⟩))
                go_round
                case rel => exact ⟨k + 1, by omega, by go_num, HS.out⟩
                case measure => simp [intOf]; omega
              · have HS := Lib.hid (show s.toList.all ofNameB = false by
                  rw [List.all_eq_false]
                  exact ⟨s[k], List.mem_of_getElem? hg, by simp [ho]⟩)
                clear hg hsn
                go_wp2_with (first | (go_at_call 48; refine (isOfName_any _ _).mono ?_; rintro e w' ⟨rfl, rfl⟩))
                go_ret
                exact ⟨ret_bool HS.out.symm, rfl⟩
            · go_wp2
              go_ret
              exact ⟨ret_bool (by rw [← HA.out, List.take_of_length_le (by rw [HL.out]; omega)]), rfl⟩
end Go.Proofs.YtgohhnbdicdenaaGreatDoor.Lx

