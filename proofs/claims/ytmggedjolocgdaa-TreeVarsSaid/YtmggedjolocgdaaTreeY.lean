/- The functions laid and behind lay an expression's nodes behind others. Conditions: the slices are read as lists of nodes; what is laid stands apart from what it is laid of. -/
import Derived.Test.YtmggedjolocgdaaTreeW
namespace Go.Proofs.Ytmggedjolocgdaa.Tr
open Go.ChangeShapes Go.WideShapes Go.ChangeAt Go.RowKit
set_option linter.unusedVariables false
set_option linter.unusedSimpArgs false

/-- A node, its operands counted on. -/
def onNd (f : Int) (x : Nd) : Nd := ⟨x.op, onM f x.a, onM f x.b, onM f x.c, x.n, x.name⟩
/-- Nodes behind others, counted on by how many stand ahead. -/
def behindM (a p : List Nd) : List Nd := a ++ p.map (onNd (a.length : Int))
/-- The loop's relation: the first nodes are laid behind. -/
structure BehRel (w : World) (b : Nat) (av : Value) (a p : List Nd) (k : Nat) (wr : World) (ov : Value) : Prop where
  le : k ≤ p.length
  own : wr.ownsRow b 30 6 ov (a.length + k) (ndsOf (a ++ (p.map (onNd (a.length : Int))).take k))
  grown : w.grownBy wr av.ownBlock
  blk : ∀ j, ov.ownBlock = some j → av.ownBlock = some j ∨ w.heap.size ≤ j
theorem grown_chain {w wr w3 w4 : World} {row row2 : Option Nat} {o : Obj} (g1 : w.grownBy wr row) (hb : Below wr.heap.size wr w3) (hg : (w3.alloc o).grownBy w4 row2) (hr : ∀ k, row2 = some k → row = some k ∨ w.heap.size ≤ k) : w.grownBy w4 row := by
  have hs := g1.size
  have hs3 := hb.size
  have hs4 := hg.size
  simp at hs4
  refine ⟨?_, ?_, ?_, by omega, fun k hk hn => ?_⟩
  · exact hg.os.trans ((show (w3.alloc o).os = w3.os from rfl).trans (hb.os.trans g1.os))
  · exact hg.tape.trans ((show (w3.alloc o).tape = w3.tape from rfl).trans (hb.tape.trans g1.tape))
  · exact hg.output.trans ((show (w3.alloc o).output = w3.output from rfl).trans (hb.output.trans g1.output))
  · rw [hg.block k (by simp; omega) (fun h2 => by
      rcases hr k h2.symm with h3 | h3
      · exact hn h3.symm
      · omega), Below.heap_alloc _ _ _ (by omega), hb.block k (by omega)]
    exact g1.block k hk hn
theorem beh_step {w wr w3 w4 : World} {b : Nat} {av ov : Value} {a p : List Nd} {k gg cap : Nat} {x : Nd} {o : Obj} (hx : p[k]? = some x) (h : BehRel w b av a p k wr ov) (hb : Below wr.heap.size wr w3) (hg : (w3.alloc o).grownBy w4 ov.ownBlock)
    (hown : w4.ownsRow b 30 6 (.slice (some ⟨gg, 0, none⟩) (a.length + k + 1) cap) (a.length + k + 1) (ndsOf (a ++ (p.map (onNd (a.length : Int))).take k) ++ ndCells (onNd (a.length : Int) x))) (hat : ov.ownBlock = some gg ∨ gg = w3.heap.size + 1) :
    BehRel w b av a p (k + 1) w4 (.slice (some ⟨gg, 0, none⟩) (a.length + k + 1) cap) := by
  have hk := (List.getElem?_eq_some_iff.1 hx).1
  have hs := h.grown.size
  have hs3 := hb.size
  refine ⟨by omega, ?_, grown_chain h.grown hb hg h.blk, fun j hj => ?_⟩
  · rw [List.take_add_one, List.getElem?_map, hx, show (Option.map (onNd (a.length : Int)) (some x)).toList = [onNd (a.length : Int) x] from rfl, ← List.append_assoc, nds_snoc]
    exact hown
  · have hj' : gg = j := by simpa [Value.ownBlock] using hj
    subst hj'
    rcases hat with h1 | h1
    · exact h.blk _ h1
    · exact .inr (by omega)

set_option maxRecDepth 100000 in
set_option maxHeartbeats 1000000 in
theorem behind_own (av pv : Value) (a p : List Nd) (b : Nat) (w : World) (hown : w.ownsRow b 30 6 av a.length (ndsOf a)) (hb : b ≤ w.heap.size) (hp : Nodes w pv p) (hlow : 0 < p.length → ∀ g o n c, pv = .slice (some ⟨g, o, none⟩) n c → av.ownBlock ≠ some g) (hn : a.length + p.length ≤ 100000) :
    Calls Try.prog 48 #[av, pv] w (OrderPost w b av a (p.map (onNd (a.length : Int)))) := by
  obtain ⟨A, c, rfl, h1, h2, hA⟩ := hp
  unfold maxLen at h2
  have HA := Lib.hid hA
  have HLOW := Lib.hid hlow
  have HOB := Lib.hid (show ∀ k, av.ownBlock = some k → b ≤ k from fun k hk => (hown.lt k hk).1)
  have HREL0 : Hid (BehRel w b av a p 0 w av) := Lib.hid ⟨Nat.zero_le _, by simpa using hown, World.grownBy.refl _ _, fun j hj => .inl hj⟩
  obtain ⟨A1, c1, rfl, y1, y2, _⟩ := Nodes.of_own hown
  unfold maxLen at y2
  obtain ⟨i1, hi', hz0', hz1', hz2'⟩ := info_parts info30
  clear hA hown hlow
  go_enter Try.func48, Try.ntmps48
  go_wp2
  go_loopw [0, 6] (fun s0 i wr => ∃ (k : Nat) (ov : Value), ov = s0 ∧ i = .int .i64 k ∧ BehRel w b (.slice A1 a.length c1) a p k wr ov) (fun _ i _ => p.length - (intOf i).toNat)
  case atStart => exact ⟨0, _, rfl, rfl, HREL0.out⟩
  case round =>
    obtain ⟨k, ov, rfl, rfl, hrel⟩ := hrel
    have hk := hrel.le
    have HREL := Lib.hid hrel
    have hs := hrel.grown.size
    by_cases hlt : k < p.length
    · obtain ⟨x, hx⟩ : ∃ x, p[k]? = some x := ⟨_, List.getElem?_eq_getElem hlt⟩
      obtain ⟨g, o, rfl, hg, a0, a1, a2, a3, a4, a5⟩ := HA.out k x hx
      have hgb := HLOW.out (by omega) g o _ _ rfl
      have HGB := Lib.hid (hrel.grown.block g hg (fun h => hgb h.symm))
      have b0 := (World.cell?_of_block (w := w) (a := ⟨g, o + k * 6, none⟩) HGB.out).trans a0
      have b1 := (World.cell?_of_block (w := w) (a := ⟨g, o + k * 6 + 1, none⟩) HGB.out).trans a1
      have b2 := (World.cell?_of_block (w := w) (a := ⟨g, o + k * 6 + 2, none⟩) HGB.out).trans a2
      have b3 := (World.cell?_of_block (w := w) (a := ⟨g, o + k * 6 + 3, none⟩) HGB.out).trans a3
      have b4 := (World.cell?_of_block (w := w) (a := ⟨g, o + k * 6 + 4, none⟩) HGB.out).trans a4
      have b5 := (World.cell?_of_block (w := w) (a := ⟨g, o + k * 6 + 5, none⟩) HGB.out).trans a5
      have HX := Lib.hid hx
      clear hx a0 a1 a2 a3 a4 a5 hrel
      go_wp2_with fail
      refine (move_any _ _ _ _ _ _ _ _).mono ?_
      rintro r w3 ⟨rfl, hb3⟩
      have hs3 := hb3.size
      have HB3 := Lib.hid hb3
      have HO3 := Lib.hid (own_below HREL.out.own hb3)
      clear hb3 b0 b1 b2 b3 b4 b5
      go_wp2_with (at_builtin; refine wpList_append_lies _ rfl (.tmp 15) (.tmp 22) 23 rfl b 30 i1 _ 6 56 Try.underlying23 hi' hz0' hz1' hz2' rfl (by decide) ov (a.length + k) _ rfl (HO3.out.alloc _) ⟨w3.heap.size, 0, none⟩ 1 1 (ndCells (onNd (a.length : Int) x)) rfl rfl ?a2 ?b2 (by omega) ?c2 ?d2 ?e2 (w3.heap.size + 1) ?f2 ?_)
      case a2 => exact World.news_of_block (t := 30) (fr := (0, 0)) (heap_alloc_new _ _)
      case b2 => simp [ndCells, Value.oneCell']
      case c2 => unfold maxLen; omega
      case d2 => omega
      case e2 => simp; omega
      case f2 => simp
      intro gg cap w4 hown4 hg4 hat _
      have R := Lib.hid (beh_step HX.out HREL.out HB3.out hg4 hown4 hat)
      clear hown4 hg4 hat
      go_wp2
      refine ⟨⟨k + 1, _, rfl, by go_num, R.out⟩, by simp [intOf]; omega⟩
    · have hkl : k = p.length := by omega
      subst hkl
      clear hrel
      go_wp2
      go_ret
      refine ⟨_, rfl, ?_, HREL.out.grown, HREL.out.blk⟩
      have := HREL.out.own
      rw [List.take_of_length_le (by simp)] at this
      rw [List.length_append, List.length_map]; exact this
theorem behind_any (av pv : Value) (a p : List Nd) (b : Nat) (w : World) (hown : w.ownsRow b 30 6 av a.length (ndsOf a)) (hb : b ≤ w.heap.size) (hp : Nodes w pv p) (hlow : 0 < p.length → ∀ g o n c, pv = .slice (some ⟨g, o, none⟩) n c → g < b) (hn : a.length + p.length ≤ 100000) :
    Calls Try.prog 48 #[av, pv] w (OrderPost w b av a (p.map (onNd (a.length : Int)))) :=
  behind_own av pv a p b w hown hb hp (fun h g o n c hh hk => by have := hlow h g o n c hh; have := (hown.lt g hk).1; omega) hn
end Go.Proofs.Ytmggedjolocgdaa.Tr
