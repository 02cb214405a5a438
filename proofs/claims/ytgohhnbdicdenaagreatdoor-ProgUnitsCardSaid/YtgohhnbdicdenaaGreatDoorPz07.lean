/- Contracts of layer expr's functions joined and join: parts put together. Conditions: the parts lie in memory. -/
import Derived.Test.YtgohhnbdicdenaaGreatDoorPz06
namespace Go.Proofs.YtgohhnbdicdenaaGreatDoor.Ex
open Go.ChangeShapes Go.WideShapes Go.ChangeAt Go.RowKit
open Go.Proofs.YtgohhnbdicdenaaGreatDoor.Tr (str ret_bool ret_int Bytes Nd joinM roomM)
set_option linter.unusedVariables false
set_option linter.unusedSimpArgs false

theorem info24 : (Tryz.prog.info? 23).map (fun i => (i.zero, i.size, i.bytes)) = some (some (.slice none 0 0), 1, 24) := by kernel_rfl
/-- A slice reads as a list of parts. -/
def PartsAt (w : World) (v : Value) (ps : List Pt) : Prop :=
  ∃ A c, v = .slice A ps.length c ∧ ps.length ≤ c ∧ c ≤ maxLen ∧ ∀ i p, ps[i]? = some p → ∃ g ev, A = some ⟨g, 0, none⟩ ∧ g < w.heap.size ∧
    w.cell? ⟨g, i * 3, none⟩ = some ev ∧ w.cell? ⟨g, i * 3 + 1, none⟩ = some (.int .i64 (p.nodes : Int)) ∧ w.cell? ⟨g, i * 3 + 2, none⟩ = some (.int .i64 (p.deep : Int)) ∧
    Tr.Nodes w ev p.e ∧ (0 < p.e.length → ∀ g o n c, ev = .slice (some ⟨g, o, none⟩) n c → g < w.heap.size)
/-- The expressions of parts, as slices of nodes. -/
def ExprsAt (w : World) (b : Nat) (ps : List Pt) (evs : List Value) : Prop :=
  evs.length = ps.length ∧ ∀ (i : Nat) ev p, evs[i]? = some ev → ps[i]? = some p → Tr.Nodes w ev p.e ∧ (0 < p.e.length → ∀ g o n c, ev = .slice (some ⟨g, o, none⟩) n c → g < b)
theorem ExprsAt.keep {w w' : World} {b : Nat} {ps : List Pt} {evs : List Value} (h : ExprsAt w b ps evs) (hs : w.heap.size ≤ w'.heap.size) (hk : ∀ g, g < b → g < w.heap.size → w'.heap[g]? = w.heap[g]?) : ExprsAt w' b ps evs := by
  refine ⟨h.1, fun i ev p h1 h2 => ?_⟩
  obtain ⟨a, c⟩ := h.2 i ev p h1 h2
  exact ⟨a.low c hs hk, c⟩
/-- The loop's relation. -/
structure JRel (w : World) (op : Int) (ps : List Pt) (k : Nat) (wr : World) (lv : Value) (evs : List Value) : Prop where
  le : k ≤ ps.length
  out : wr.heap[w.heap.size]? = some (.cells #[.slice none 0 0, .int .i64 0, .int .i64 0] 167 (0, 0))
  whole : wr.heap[w.heap.size + 1]? = some (.cells #[.slice none 0 0, .int .i64 (nodesOf op (ps.take k) : Int), .int .i64 (deepOf op (ps.take k) : Int)] 167 (0, 0))
  own : wr.ownsRow (w.heap.size + 2) 23 1 lv k evs
  exprs : ExprsAt wr w.heap.size (ps.take k) evs
  below : Below w.heap.size w wr
theorem take_next {α : Type} (l : List α) (k : Nat) (a : α) (h : l[k]? = some a) : l.take (k + 1) = l.take k ++ [a] := by
  rw [List.take_add_one, h]; rfl
theorem nodes_next (op : Int) (ps : List Pt) (k : Nat) (p : Pt) (h : ps[k]? = some p) : nodesOf op (ps.take (k + 1)) = nodesOf op (ps.take k) + p.nodes + if op = 27 then 1 else 0 := by
  unfold nodesOf; rw [take_next ps k p h, List.foldl_append]; rfl
theorem deep_next (op : Int) (ps : List Pt) (k : Nat) (p : Pt) (h : ps[k]? = some p) : deepOf op (ps.take (k + 1)) = max (deepOf op (ps.take k)) (1 + p.deep) + if op = 27 then 1 else 0 := by
  unfold deepOf; rw [take_next ps k p h, List.foldl_append]; rfl
theorem nodes_mono (op : Int) (ps : List Pt) (k : Nat) : nodesOf op (ps.take k) ≤ nodesOf op ps := by
  rw [nodes_eq, nodes_eq]
  have h1 : ((ps.take k).map Pt.nodes).sum ≤ (ps.map Pt.nodes).sum := by
    conv => rhs; rw [← List.take_append_drop k ps]
    rw [List.map_append, List.sum_append]; omega
  have h2 : (ps.take k).length ≤ ps.length := by rw [List.length_take]; omega
  split <;> omega
theorem JRel.step {w wr W w3 : World} {op : Int} {ps : List Pt} {k : Nat} {p : Pt} {lv lv' ev : Value} {evs : List Value} {o : Obj} (h : JRel w op ps k wr lv evs) (hp : ps[k]? = some p)
    (hev : Tr.Nodes w ev p.e) (hlow : 0 < p.e.length → ∀ g o n c, ev = .slice (some ⟨g, o, none⟩) n c → g < w.heap.size)
    (hs : wr.heap.size ≤ W.heap.size) (hk : ∀ g, g < wr.heap.size → g ≠ w.heap.size + 1 → W.heap[g]? = wr.heap[g]?) (hos : W.os = wr.os) (htp : W.tape = wr.tape) (hou : W.output = wr.output)
    (hw : W.heap[w.heap.size + 1]? = some (.cells #[.slice none 0 0, .int .i64 (nodesOf op (ps.take (k + 1)) : Int), .int .i64 (deepOf op (ps.take (k + 1)) : Int)] 167 (0, 0)))
    (hown : w3.ownsRow (w.heap.size + 2) 23 1 lv' (k + 1) (evs ++ [ev])) (hg : (W.alloc o).grownBy w3 lv.ownBlock) : JRel w op ps (k + 1) w3 lv' (evs ++ [ev]) := by
  have hkl := (List.getElem?_eq_some_iff.1 hp).1
  have l0 := lt_of_block h.out
  have l1 := lt_of_block h.whole
  have hbs := h.below.size
  have hne : ∀ g, g < w.heap.size + 2 → some g ≠ lv.ownBlock := fun g hg e => by have := (h.own.lt g e.symm).1; omega
  have hgs := hg.size
  simp at hgs
  have hB : ∀ g, g < w.heap.size + 2 → g < wr.heap.size → w3.heap[g]? = W.heap[g]? := fun g h1 h2 => by
    rw [hg.block g (by simp; omega) (hne g h1), Below.heap_alloc _ _ _ (by omega)]
  have hbel : Below w.heap.size w w3 := ⟨(hg.os.trans hos).trans h.below.os, (hg.tape.trans htp).trans h.below.tape, (hg.output.trans hou).trans h.below.output, by omega,
    fun i hi => (hB i (by omega) (by omega)).trans ((hk i (by omega) (by omega)).trans (h.below.block i hi))⟩
  refine ⟨by omega, ?_, ?_, hown, ?_, hbel⟩
  · rw [hB _ (by omega) l0, hk _ l0 (by omega)]; exact h.out
  · rw [hB _ (by omega) l1]; exact hw
  · rw [take_next ps k p hp]
    have he := h.exprs.keep (w' := w3) (by omega) (fun g h1 h2 => (hB g (by omega) h2).trans (hk g h2 (by omega)))
    have hlen := he.1
    refine ⟨by simp [hlen], fun i v q hv hq => ?_⟩
    by_cases hi : i < evs.length
    · rw [List.getElem?_append_left hi] at hv
      rw [List.getElem?_append_left (by omega)] at hq
      exact he.2 i v q hv hq
    · rw [List.getElem?_append_right (by omega)] at hv
      rw [List.getElem?_append_right (by omega)] at hq
      have e0 : i - evs.length = 0 := by
        have := (List.getElem?_eq_some_iff.1 hv).1
        simp at this; omega
      rw [e0] at hv
      rw [show i - (ps.take k).length = 0 by omega] at hq
      simp at hv hq
      subst hv; subst hq
      exact ⟨hev.low hlow (by omega) (fun g h1 h2 => hbel.block g h2), hlow⟩
theorem parts_of {w : World} {b : Nat} {n : Nat} {lv : Value} {evs : List Value} {ps : List Pt} (h : w.ownsRow b 23 1 lv n evs) (he : ExprsAt w w.heap.size ps evs) (hn : n = ps.length) : Tr.Parts w w.heap.size lv (ps.map Pt.e) := by
  obtain ⟨hl, h0 | ⟨g, cap, cur, rfl, hb, hh, hnc, hcm, hcs, hct⟩⟩ := h
  · obtain ⟨rfl, h0⟩ := h0
    have : ps = [] := List.length_eq_zero_iff.1 (by omega)
    subst this
    exact ⟨none, 0, rfl, by simp, by unfold maxLen; omega, fun i t h => by simp at h⟩
  · have h : w.ownsRow b 23 1 (.slice (some ⟨g, 0, none⟩) n cap) n evs := ⟨hl, .inr ⟨g, cap, cur, rfl, hb, hh, hnc, hcm, hcs, hct⟩⟩
    refine ⟨some ⟨g, 0, none⟩, cap, by rw [List.length_map, hn], by rw [List.length_map]; omega, hcm, fun i l hi => ?_⟩
    rw [List.getElem?_map] at hi
    obtain ⟨p, hp, rfl⟩ := Option.map_eq_some_iff.1 hi
    have hil : i < evs.length := by have := (List.getElem?_eq_some_iff.1 hp).1; have := he.1; omega
    have hv : evs[i]? = some (evs[i]'hil) := List.getElem?_eq_getElem hil
    obtain ⟨a, c⟩ := he.2 i _ p hv hp
    have hlg := lt_of_block hh
    exact ⟨g, 0, evs[i]'hil, rfl, hlg, hlg, by rw [Nat.zero_add, h.cellAt _ (by omega)]; exact hv, a, c⟩
end Go.Proofs.YtgohhnbdicdenaaGreatDoor.Ex

/- The function joined of layer expr puts parts together. Conditions: the parts lie in memory; they are not too many. -/
namespace Go.Proofs.YtgohhnbdicdenaaGreatDoor.Ex
open Go.ChangeShapes Go.WideShapes Go.ChangeAt Go.RowKit
open Go.Proofs.YtgohhnbdicdenaaGreatDoor.Tr (str ret_bool ret_int Bytes Nd joinM roomM)
set_option linter.unusedVariables false
set_option linter.unusedSimpArgs false

/-- What is told of a part that was put together. -/
def JoinPost (w : World) (p : Pt) (e : Ending) (w' : World) : Prop :=
  ∃ ev, e = .returned (.agg #[ev, .int .i64 (p.nodes : Int), .int .i64 (p.deep : Int)]) ∧ PtW w' (ev, p) ∧ Below w.heap.size w w'
theorem deep_le (op : Int) (ps : List Pt) (h : ∀ p ∈ ps, p.ok) : deepOf op ps ≤ nodesOf op ps := deep_fold op ps (fun p hp => (h p hp).deep) 1 1 (Nat.le_refl _) (Nat.le_refl _)
theorem ExprsAt.wide {w : World} {b : Nat} {ps : List Pt} {evs : List Value} (h : ExprsAt w b ps evs) (hb : b ≤ w.heap.size) : ExprsAt w w.heap.size ps evs :=
  ⟨h.1, fun i ev p h1 h2 => ⟨(h.2 i ev p h1 h2).1, fun h0 g o n c e => Nat.lt_of_lt_of_le ((h.2 i ev p h1 h2).2 h0 g o n c e) hb⟩⟩
theorem JoinPost.of {w w' : World} {p : Pt} {ev : Value} {N D : Nat} (h1 : p.nodes = N) (h2 : p.deep = D) (h3 : PtW w' (ev, p)) (h5 : Below w.heap.size w w') :
    JoinPost w p (.returned (.agg #[ev, .int .i64 (N : Int), .int .i64 (D : Int)])) w' := by subst h1; subst h2; exact ⟨ev, rfl, h3, h5⟩
theorem trip_cells {w1 : World} {B : Nat} {u0 u1 u2 : Value} (v0 v1 v2 : Value) {T : TypeId} (hh : w1.heap[B]? = some (.cells #[u0, u1, u2] T (0, 0))) :
    (((w1.setCell ⟨B, 0, none⟩ v0).setCell ⟨B, 1, none⟩ v1).setCell ⟨B, 2, none⟩ v2).cell? ⟨B, 0, none⟩ = some v0 ∧ (((w1.setCell ⟨B, 0, none⟩ v0).setCell ⟨B, 1, none⟩ v1).setCell ⟨B, 2, none⟩ v2).cell? ⟨B, 1, none⟩ = some v1 ∧ (((w1.setCell ⟨B, 0, none⟩ v0).setCell ⟨B, 1, none⟩ v1).setCell ⟨B, 2, none⟩ v2).cell? ⟨B, 2, none⟩ = some v2 := by
  have h2 := setObj_heap (v := v2) (setObj_heap (v := v1) (setObj_heap (v := v0) hh (k := 0) (by simp)) (k := 1) (by simp)) (k := 2) (by simp)
  refine ⟨?_, ?_, ?_⟩ <;> simp [World.cell?, h2]
set_option maxRecDepth 100000 in
set_option maxHeartbeats 1000000 in
theorem joined_any (pv : Value) (ps : List Pt) (op n : Int) (s : Bytes) (w : World) (hp : PartsAt w pv ps) (hok : ∀ p ∈ ps, p.ok) (hn : nodesOf op ps ≤ 1000000) (hl : ps.length ≤ 1000000)
    (hroom : nodesOf op ps ≤ 5000 → roomM (ps.map Pt.e) ≤ 80000) :
    Calls Tryz.prog 159 #[.int .i64 op, .int .i64 n, .string (str s), pv] w (JoinPost w (joined op n s ps)) := by
  obtain ⟨A, c, rfl, h1, h2, hA⟩ := hp
  unfold maxLen at h2
  have HA := Lib.hid hA
  have HNM := Lib.hid (fun k => nodes_mono op ps k)
  have HDL := Lib.hid (fun k => Nat.le_trans (deep_le op (ps.take k) (fun p hp => hok p (List.mem_of_mem_take hp))) (nodes_mono op ps k))
  have HOK := Lib.hid hok
  have HROOM := Lib.hid hroom
  obtain ⟨i0, hi, hz0, hz1, hz2⟩ := info_parts info24
  clear hA hok hroom
  go_enter Tryz.func159, Tryz.ntmps159
  go_wp2
  go_loopw [10, 16] (fun u i wr => ∃ (k : Nat) (evs : List Value) (v : Value), v = u ∧ i = .int .i64 k ∧ JRel w op ps k wr v evs) (fun _ i _ => ps.length - (intOf i).toNat)
  case atStart =>
    refine ⟨0, [], _, rfl, rfl, ⟨Nat.zero_le _, ?_, ?_, World.ownsRow_nil _ _ _ _, ⟨rfl, fun i ev p h => by simp at h⟩, ((Below.refl _ _).alloc (Nat.le_refl _) _).alloc (by simp) _⟩⟩
    · rw [Below.heap_alloc _ _ _ (by simp)]; exact heap_alloc_new w _
    · exact (congrArg (fun i => ((w.alloc (.cells #[.slice none 0 0, .int .i64 0, .int .i64 0] 167)).alloc (.cells #[.slice none 0 0, .int .i64 1, .int .i64 1] 167)).heap[i]?) (show w.heap.size + 1 = (w.alloc (.cells #[.slice none 0 0, .int .i64 0, .int .i64 0] 167)).heap.size by simp)).trans (heap_alloc_new _ _)
  case round =>
    obtain ⟨k, evs, v, rfl, rfl, hrel⟩ := hrel
    have hk := hrel.le
    have HREL := Lib.hid hrel
    have hsz := hrel.below.size
    have hz1' := lt_of_block hrel.whole
    have hz0' := lt_of_block hrel.out
    have hne9 : w.heap.size + 1 ≠ wr.heap.size := by omega
    have HKEEP := Lib.hid (fun g (hg : g < w.heap.size) => hrel.below.block g hg)
    clear hrel
    by_cases hlt : k < ps.length
    · obtain ⟨p, hpk⟩ : ∃ p, ps[k]? = some p := ⟨_, List.getElem?_eq_getElem hlt⟩
      obtain ⟨g, ev, rfl, hg, c0, c1, c2, hnd, hlow⟩ := HA.out k p hpk
      have q : ∀ j, wr.cell? ⟨g, j, none⟩ = w.cell? ⟨g, j, none⟩ := fun j => World.cell?_of_block (w := w) (a := ⟨g, j, none⟩) (HKEEP.out g hg)
      have c0 := (q _).trans c0
      have c1 := (q _).trans c1
      have c2 := (q _).trans c2
      have HQ := Lib.hid q
      have hNn := HNM.out (k + 1)
      have hDn := HDL.out (k + 1)
      have e1 := nodes_next op ps k p hpk
      have e2 := deep_next op ps k p hpk
      have HW := Lib.hid HREL.out.whole
      have HPK := Lib.hid hpk
      have HND := Lib.hid hnd
      obtain ⟨Ae, ce, rfl, y1, y2, _⟩ := hnd
      unfold maxLen at y2
      have HLOW := Lib.hid hlow
      have HE1 := Lib.hid e1
      have HE2 := Lib.hid e2
      obtain ⟨N, hN⟩ : ∃ N, nodesOf op (ps.take k) = N := ⟨_, rfl⟩
      obtain ⟨D, hD⟩ : ∃ D, deepOf op (ps.take k) = D := ⟨_, rfl⟩
      rw [hN, hD] at HW
      rw [hN] at HE1
      rw [hD] at HE2
      have hN6 : N + p.nodes + 1 ≤ 1000001 := by rw [hN] at e1; split at e1 <;> omega
      have hD6 : D ≤ 1000000 ∧ p.deep ≤ 1000000 := by rw [hD] at e2; split at e2 <;> omega
      obtain ⟨hD6, hP6⟩ := hD6
      have d0 : wr.cell? ⟨w.heap.size + 1, 0, none⟩ = some (.slice none 0 0) := by simp [World.cell?, HW.out]
      have d1 : wr.cell? ⟨w.heap.size + 1, 1, none⟩ = some (.int .i64 (N : Int)) := by simp [World.cell?, HW.out]
      have d2 : wr.cell? ⟨w.heap.size + 1, 2, none⟩ = some (.int .i64 (D : Int)) := by simp [World.cell?, HW.out]
      have f1 : wr.frozen? ⟨w.heap.size + 1, 1, none⟩ = false := by simp [World.frozen?, HW.out]
      have f2 : wr.frozen? ⟨w.heap.size + 1, 2, none⟩ = false := by simp [World.frozen?, HW.out]
      clear q hN hD hlow hpk e1 e2 hNn hDn
      obtain ⟨pe, X, Y⟩ := p
      simp only at c0 c1 c2 y1 y2 hN6 hP6
      obtain ⟨L, hL⟩ : ∃ L, pe.length = L := ⟨_, rfl⟩
      rw [hL] at c0 y1
      have HL := Lib.hid hL
      clear hL
      by_cases h27 : op = 27
      · have hd : (op == 27) = true := by simpa using h27
        have H27 := Lib.hid h27
        clear h27
        go_wp2_with (at_builtin; refine wpList_append_own _ rfl (.tmp 43) (.tmp 46) 70 rfl (w.heap.size + 2) 23 i0 _ 1 24 Tryz.underlying70 hi hz0 hz1 hz2 rfl (by decide) v k evs rfl ?owna ⟨wr.heap.size + 1, 0, none⟩ 1 1 [.slice Ae L ce] rfl rfl ?newa ?onea ?lena ?byta ?basa ?_)
        case owna =>
          refine World.ownsRow.alloc ?_ _
          refine World.ownsRow.alloc ?_ _
          repeat refine ownsRow_setCell_below ?_ (by simp) _
          exact HREL.out.own
        case onea => rfl
        case lena => unfold maxLen; omega
        case byta => omega
        intro v' w3 hown hgrow _
        have R : JRel w op ps (k + 1) w3 v' (evs ++ [.slice Ae L ce]) := by
          refine HREL.out.step HPK.out (by rw [← HL.out]; exact HND.out) (by rw [← HL.out]; exact HLOW.out) ?_ ?_ ?_ ?_ ?_ ?_ hown hgrow
          · simp [World.setCell]
          · intro g1 hg1 hne1
            rw [Below.heap_alloc _ _ _ (by simp [World.setCell]; omega)]
            repeat rw [Below.heap_setCell _ _ _ _ (by simpa using hne1)]
          · rfl
          · rfl
          · rfl
          · rw [HE1.out, HE2.out, Below.heap_alloc _ _ _ (by simp [World.setCell]; omega)]
            rw [setObj_heap (setObj_heap (setObj_heap (setObj_heap HW.out (k := 1) (by simp)) (k := 2) (by simp)) (k := 1) (by simp)) (k := 2) (by simp)]
            simp [H27.out]
            omega
        have HR := Lib.hid R
        clear R hown hgrow
        go_wp2
        refine ⟨⟨k + 1, _, _, rfl, by go_num, HR.out⟩, by simp [intOf]; omega⟩
      · have hd : (op == 27) = false := by simpa using h27
        have H27 := Lib.hid h27
        clear h27
        go_wp2_with (at_builtin; refine wpList_append_own _ rfl (.tmp 43) (.tmp 46) 70 rfl (w.heap.size + 2) 23 i0 _ 1 24 Tryz.underlying70 hi hz0 hz1 hz2 rfl (by decide) v k evs rfl ?ownb ⟨wr.heap.size + 1, 0, none⟩ 1 1 [.slice Ae L ce] rfl rfl ?newb ?oneb ?lenb ?bytb ?basb ?_)
        case ownb =>
          refine World.ownsRow.alloc ?_ _
          refine World.ownsRow.alloc ?_ _
          repeat refine ownsRow_setCell_below ?_ (by simp) _
          exact HREL.out.own
        case oneb => rfl
        case lenb => unfold maxLen; omega
        case bytb => omega
        intro v' w3 hown hgrow _
        have R : JRel w op ps (k + 1) w3 v' (evs ++ [.slice Ae L ce]) := by
          refine HREL.out.step HPK.out (by rw [← HL.out]; exact HND.out) (by rw [← HL.out]; exact HLOW.out) ?_ ?_ ?_ ?_ ?_ ?_ hown hgrow
          · simp [World.setCell]
          · intro g1 hg1 hne1
            rw [Below.heap_alloc _ _ _ (by simp [World.setCell]; omega)]
            repeat rw [Below.heap_setCell _ _ _ _ (by simpa using hne1)]
          · rfl
          · rfl
          · rfl
          · rw [HE1.out, HE2.out, Below.heap_alloc _ _ _ (by simp [World.setCell]; omega)]
            rw [setObj_heap (setObj_heap HW.out (k := 1) (by simp)) (k := 2) (by simp)]
            simp [H27.out]
            omega
        have HR := Lib.hid R
        clear R hown hgrow
        go_wp2
        refine ⟨⟨k + 1, _, _, rfl, by go_num, HR.out⟩, by simp [intOf]; omega⟩
    · have hkl : k = ps.length := by omega
      subst hkl
      have HTK := Lib.hid (show ps.take ps.length = ps from List.take_length)
      have hW := HREL.out.whole
      rw [HTK.out] at hW
      have HNODES : Hid ((joined op n s ps).nodes = nodesOf op ps ∧ (joined op n s ps).deep = deepOf op ps ∧ (joined op n s ps).e = if nodesOf op ps ≤ 5000 ∧ deepOf op ps ≤ 40 then joinM op n s (ps.map Pt.e) else []) := Lib.hid ⟨rfl, rfl, rfl⟩
      have HEX := HREL.out.exprs
      rw [HTK.out] at HEX
      have hpt := parts_of (HREL.out.own) (HEX.wide hsz) rfl
      have HPT := Lib.hid hpt
      have hD0 := HDL.out ps.length
      rw [HTK.out] at hD0
      obtain ⟨N, hN⟩ : ∃ N, nodesOf op ps = N := ⟨_, rfl⟩
      obtain ⟨D, hD⟩ : ∃ D, deepOf op ps = D := ⟨_, rfl⟩
      rw [hN, hD] at hW
      rw [hN] at hn HROOM
      rw [hN, hD] at hD0
      rw [hN, hD] at HNODES
      have HW := Lib.hid hW
      have HO := Lib.hid HREL.out.out
      have HB := Lib.hid HREL.out.below
      obtain ⟨Av, cv, hv, _⟩ := hpt
      rw [List.length_map] at hv
      subst hv
      clear hW HEX hN hD
      have HCL : Hid (∀ w2 : World, Below wr.heap.size wr w2 → w2.heap[w.heap.size]? = some (.cells #[.slice none 0 0, .int .i64 0, .int .i64 0] 167 (0, 0)) ∧ w2.heap[w.heap.size + 1]? = some (.cells #[.slice none 0 0, .int .i64 (N : Int), .int .i64 (D : Int)] 167 (0, 0)) ∧ Below w.heap.size w w2) :=
        Lib.hid (fun w2 hb => ⟨(hb.block _ hz0').trans HO.out, (hb.block _ hz1').trans HW.out, HB.out.trans (hb.mono hsz)⟩)
      by_cases hsm : N ≤ 5000 ∧ D ≤ 40
      · have hs1 : decide ((N : Int) ≤ 5000) = true := by simp; omega
        have hs2 : decide ((D : Int) ≤ 40) = true := by simp; omega
        have hrm := HROOM.out hsm.1
        have HSM := Lib.hid hsm
        clear hsm
        obtain ⟨x0, x1, -⟩ := HCL.out wr (Below.refl _ _)
        have d1 : wr.cell? ⟨w.heap.size + 1, 1, none⟩ = some (.int .i64 (N : Int)) := by simp [World.cell?, x1]
        have d2 : wr.cell? ⟨w.heap.size + 1, 2, none⟩ = some (.int .i64 (D : Int)) := by simp [World.cell?, x1]
        clear x0 x1
        go_wp2_with fail
        refine (Tr.join_any _ _ op n s _ HPT.out hrm).mono ?_
        rintro r w2 ⟨ev, rfl, hown2, hb2⟩
        have HOW := Lib.hid hown2
        obtain ⟨Ae, ce, rfl, y1, y2, _⟩ := Tr.Nodes.of_own hown2
        unfold maxLen at y2
        obtain ⟨x0, x1, hbw⟩ := HCL.out w2 hb2
        have hz2 := hb2.size
        have HBW := Lib.hid hbw
        have X0 := Lib.hid x0
        have X1 := Lib.hid x1
        clear hown2 hb2 hbw d1 d2
        have g0 : w2.cell? ⟨w.heap.size, 0, none⟩ = some (.slice none 0 0) := by simp [World.cell?, x0]
        have g1 : w2.cell? ⟨w.heap.size, 1, none⟩ = some (.int .i64 0) := by simp [World.cell?, x0]
        have g2 : w2.cell? ⟨w.heap.size, 2, none⟩ = some (.int .i64 0) := by simp [World.cell?, x0]
        have e0 : w2.frozen? ⟨w.heap.size, 0, none⟩ = false := by simp [World.frozen?, x0]
        have e1 : w2.frozen? ⟨w.heap.size, 1, none⟩ = false := by simp [World.frozen?, x0]
        have e2 : w2.frozen? ⟨w.heap.size, 2, none⟩ = false := by simp [World.frozen?, x0]
        have g3 : w2.cell? ⟨w.heap.size + 1, 0, none⟩ = some (.slice none 0 0) := by simp [World.cell?, x1]
        have d1 : w2.cell? ⟨w.heap.size + 1, 1, none⟩ = some (.int .i64 (N : Int)) := by simp [World.cell?, x1]
        have d2 : w2.cell? ⟨w.heap.size + 1, 2, none⟩ = some (.int .i64 (D : Int)) := by simp [World.cell?, x1]
        have e3 : w2.frozen? ⟨w.heap.size + 1, 0, none⟩ = false := by simp [World.frozen?, x1]
        clear x0 x1
        go_wp2
        refine bodyPost_ret (v := .agg #[.slice Ae (joinM op n s (ps.map Pt.e)).length ce, .int .i64 (N : Int), .int .i64 (D : Int)]) ?_ rfl (JoinPost.of HNODES.out.1 HNODES.out.2.1 ?_ ?_)
        · obtain ⟨k0, k1, k2⟩ := trip_cells (.slice Ae (joinM op n s (ps.map Pt.e)).length ce) (.int .i64 (N : Int)) (.int .i64 (D : Int))
            ((Below.heap_setCell w2 ⟨w.heap.size + 1, 0, none⟩ (.slice Ae (joinM op n s (ps.map Pt.e)).length ce) w.heap.size (by simp)).trans X0.out)
          clear g0 g1 g2 g3 e0 e1 e2 e3 d1 d2 HOW
          simp [results, Tryz.results159, go_sem, k0, k1, k2]
        · refine PtW.own (b := wr.heap.size) ?_
          rw [HNODES.out.2.2, if_pos HSM.out]
          repeat refine ownsRow_setCell_below ?_ (by simp; omega) _
          exact HOW.out
        · repeat refine Below.setCell ?_ (by simp) _
          exact HBW.out
      · have HNO := Lib.hid (show (joined op n s ps).e = [] by rw [HNODES.out.2.2, if_neg hsm])
        by_cases hs1 : N ≤ 5000
        · have hs1d : decide ((N : Int) ≤ 5000) = true := by simp; omega
          have hs2 : decide ((D : Int) ≤ 40) = false := by simp; omega
          clear hsm hs1
          obtain ⟨x0, x1, -⟩ := HCL.out wr (Below.refl _ _)
          have g0 : wr.cell? ⟨w.heap.size, 0, none⟩ = some (.slice none 0 0) := by simp [World.cell?, x0]
          have g1 : wr.cell? ⟨w.heap.size, 1, none⟩ = some (.int .i64 0) := by simp [World.cell?, x0]
          have g2 : wr.cell? ⟨w.heap.size, 2, none⟩ = some (.int .i64 0) := by simp [World.cell?, x0]
          have e0 : wr.frozen? ⟨w.heap.size, 0, none⟩ = false := by simp [World.frozen?, x0]
          have e1 : wr.frozen? ⟨w.heap.size, 1, none⟩ = false := by simp [World.frozen?, x0]
          have e2 : wr.frozen? ⟨w.heap.size, 2, none⟩ = false := by simp [World.frozen?, x0]
          have g3 : wr.cell? ⟨w.heap.size + 1, 0, none⟩ = some (.slice none 0 0) := by simp [World.cell?, x1]
          have d1 : wr.cell? ⟨w.heap.size + 1, 1, none⟩ = some (.int .i64 (N : Int)) := by simp [World.cell?, x1]
          have d2 : wr.cell? ⟨w.heap.size + 1, 2, none⟩ = some (.int .i64 (D : Int)) := by simp [World.cell?, x1]
          have X0 := Lib.hid x0
          clear x0 x1
          go_wp2
          refine bodyPost_ret (v := .agg #[.slice none 0 0, .int .i64 (N : Int), .int .i64 (D : Int)]) ?_ rfl (JoinPost.of HNODES.out.1 HNODES.out.2.1 ?_ ?_)
          · obtain ⟨k0, k1, k2⟩ := trip_cells (.slice none 0 0) (.int .i64 (N : Int)) (.int .i64 (D : Int)) X0.out
            clear g0 g1 g2 g3 e0 e1 e2 d1 d2
            simp [results, Tryz.results159, go_sem, k0, k1, k2]
          · exact PtW.nil _ _ HNO.out
          · repeat refine Below.setCell ?_ (by simp) _
            exact HB.out
        · have hs1d : decide ((N : Int) ≤ 5000) = false := by simp; omega
          clear hsm hs1
          obtain ⟨x0, x1, -⟩ := HCL.out wr (Below.refl _ _)
          have g0 : wr.cell? ⟨w.heap.size, 0, none⟩ = some (.slice none 0 0) := by simp [World.cell?, x0]
          have g1 : wr.cell? ⟨w.heap.size, 1, none⟩ = some (.int .i64 0) := by simp [World.cell?, x0]
          have g2 : wr.cell? ⟨w.heap.size, 2, none⟩ = some (.int .i64 0) := by simp [World.cell?, x0]
          have e0 : wr.frozen? ⟨w.heap.size, 0, none⟩ = false := by simp [World.frozen?, x0]
          have e1 : wr.frozen? ⟨w.heap.size, 1, none⟩ = false := by simp [World.frozen?, x0]
          have e2 : wr.frozen? ⟨w.heap.size, 2, none⟩ = false := by simp [World.frozen?, x0]
          have g3 : wr.cell? ⟨w.heap.size + 1, 0, none⟩ = some (.slice none 0 0) := by simp [World.cell?, x1]
          have d1 : wr.cell? ⟨w.heap.size + 1, 1, none⟩ = some (.int .i64 (N : Int)) := by simp [World.cell?, x1]
          have d2 : wr.cell? ⟨w.heap.size + 1, 2, none⟩ = some (.int .i64 (D : Int)) := by simp [World.cell?, x1]
          have X0 := Lib.hid x0
          clear x0 x1
          go_wp2
          refine bodyPost_ret (v := .agg #[.slice none 0 0, .int .i64 (N : Int), .int .i64 (D : Int)]) ?_ rfl (JoinPost.of HNODES.out.1 HNODES.out.2.1 ?_ ?_)
          · obtain ⟨k0, k1, k2⟩ := trip_cells (.slice none 0 0) (.int .i64 (N : Int)) (.int .i64 (D : Int)) X0.out
            clear g0 g1 g2 g3 e0 e1 e2 d1 d2
            simp [results, Tryz.results159, go_sem, k0, k1, k2]
          · exact PtW.nil _ _ HNO.out
          · repeat refine Below.setCell ?_ (by simp) _
            exact HB.out
end Go.Proofs.YtgohhnbdicdenaaGreatDoor.Ex

/- Lists of parts in memory; the method join of a sign. Conditions: the parts lie in memory; they are not too many. -/
namespace Go.Proofs.YtgohhnbdicdenaaGreatDoor.Ex
open Go.ChangeShapes Go.WideShapes Go.ChangeAt Go.RowKit
open Go.Proofs.YtgohhnbdicdenaaGreatDoor.Tr (str ret_bool ret_int Bytes Nd joinM roomM)
set_option linter.unusedVariables false
set_option linter.unusedSimpArgs false

def ptCells (x : Value × Pt) : List Value := [x.1, .int .i64 (x.2.nodes : Int), .int .i64 (x.2.deep : Int)]
def ptsOf (L : List (Value × Pt)) : List Value := L.flatMap ptCells
theorem pts_snoc (L : List (Value × Pt)) (x : Value × Pt) : ptsOf (L ++ [x]) = ptsOf L ++ ptCells x := by simp [ptsOf]
theorem pts_at (L : List (Value × Pt)) (i : Nat) (x : Value × Pt) (h : L[i]? = some x) (k : Nat) (hk : k < 3) : (ptsOf L)[i * 3 + k]? = (ptCells x)[k]? := by
  induction L generalizing i with
  | nil => simp at h
  | cons a r ih =>
    cases i with
    | zero =>
      simp at h; subst h
      show (ptCells a ++ ptsOf r)[0 * 3 + k]? = _
      rw [List.getElem?_append_left (by simp [ptCells]; omega)]; congr 1; omega
    | succ i =>
      simp at h
      show (ptCells a ++ ptsOf r)[(i + 1) * 3 + k]? = _
      rw [List.getElem?_append_right (by simp [ptCells]; omega), ← ih i h]
      congr 1; simp [ptCells]; omega
/-- A part's nodes lie below a block. -/
def PtIn (w : World) (b : Nat) (x : Value × Pt) : Prop := Tr.Nodes w x.1 x.2.e ∧ (0 < x.2.e.length → ∀ g o n c, x.1 = .slice (some ⟨g, o, none⟩) n c → g < b)
theorem PtIn.keep {w w' : World} {b : Nat} {x : Value × Pt} (h : PtIn w b x) (hs : w.heap.size ≤ w'.heap.size) (hk : ∀ g, g < b → g < w.heap.size → w'.heap[g]? = w.heap[g]?) : PtIn w' b x := ⟨h.1.low h.2 hs hk, h.2⟩
theorem PtIn.wide {w : World} {b b' : Nat} {x : Value × Pt} (h : PtIn w b x) (hb : b ≤ b') : PtIn w b' x := ⟨h.1, fun h0 g o n c e => Nat.lt_of_lt_of_le (h.2 h0 g o n c e) hb⟩
theorem PtIn.below {w w' : World} {x : Value × Pt} (h : PtIn w w.heap.size x) (hb : Below w.heap.size w w') : PtIn w' w'.heap.size x :=
  (h.keep hb.size (fun g _ hg => hb.block g hg)).wide hb.size
theorem parts_own {w : World} {b : Nat} {v : Value} {L : List (Value × Pt)} (h : w.ownsRow b 167 3 v L.length (ptsOf L)) (hL : ∀ x ∈ L, PtIn w w.heap.size x) : PartsAt w v (L.map Prod.snd) := by
  obtain ⟨hl, h0 | ⟨g, cap, cur, rfl, hb, hh, hnc, hcm, hcs, hct⟩⟩ := h
  · obtain ⟨rfl, h0⟩ := h0
    have : L = [] := List.length_eq_zero_iff.1 h0
    subst this
    exact ⟨none, 0, rfl, by simp, by unfold maxLen; omega, fun i t h => by simp at h⟩
  · have h : w.ownsRow b 167 3 (.slice (some ⟨g, 0, none⟩) L.length cap) L.length (ptsOf L) := ⟨hl, .inr ⟨g, cap, cur, rfl, hb, hh, hnc, hcm, hcs, hct⟩⟩
    refine ⟨some ⟨g, 0, none⟩, cap, by rw [List.length_map], by rw [List.length_map]; exact hnc, hcm, fun i p hi => ?_⟩
    rw [List.getElem?_map] at hi
    obtain ⟨x, hx, rfl⟩ := Option.map_eq_some_iff.1 hi
    have hil : i < L.length := (List.getElem?_eq_some_iff.1 hx).1
    have q : ∀ k, k < 3 → w.cell? ⟨g, i * 3 + k, none⟩ = (ptCells x)[k]? := fun k hk => by
      rw [h.cellAt _ (by omega), pts_at L i x hx k hk]
    have hin := hL x (List.mem_of_getElem? hx)
    exact ⟨g, x.1, rfl, lt_of_block hh, q 0 (by omega), q 1 (by omega), q 2 (by omega), hin.1, hin.2⟩
theorem parts_block {w : World} {B : Nat} {L : List (Value × Pt)} {cs : Array Value} {T : TypeId} {n : Nat} (h : w.heap[B]? = some (.cells cs T (0, 0))) (hc : cs = (ptsOf L).toArray) (hL : ∀ x ∈ L, PtIn w w.heap.size x) (hn : n = L.length) (hm : L.length ≤ 1000000) : PartsAt w (.slice (some ⟨B, 0, none⟩) n n) (L.map Prod.snd) := by
  subst hn
  refine ⟨some ⟨B, 0, none⟩, L.length, by rw [List.length_map], by rw [List.length_map]; exact Nat.le_refl _, by unfold maxLen; omega, fun i p hi => ?_⟩
  rw [List.getElem?_map] at hi
  obtain ⟨x, hx, rfl⟩ := Option.map_eq_some_iff.1 hi
  have q : ∀ k, k < 3 → w.cell? ⟨B, i * 3 + k, none⟩ = (ptCells x)[k]? := fun k hk => by
    rw [← pts_at L i x hx k hk]
    simp [World.cell?, h, hc]
  have hin := hL x (List.mem_of_getElem? hx)
  exact ⟨B, x.1, rfl, lt_of_block h, q 0 (by omega), q 1 (by omega), q 2 (by omega), hin.1, hin.2⟩
theorem room_of (op : Int) (ps : List Pt) (hok : ∀ p ∈ ps, p.ok) (h : op = 27 ∨ ps.length ≤ 3) : nodesOf op ps ≤ 5000 → roomM (ps.map Pt.e) ≤ 80000 := fun hn => by
  have h1 := lens_le ps (fun p hp => (hok p hp).len)
  rw [nodes_eq] at hn
  rw [Tr.room_sum, List.length_map]
  split at hn <;> omega
theorem new_blk {W : World} {o : Obj} {G : Nat} (h : W.heap.size = G) : (W.alloc o).heap[G]? = some o := by subst h; exact heap_alloc_new W o
/-- A part laid into the result's block. -/
theorem JoinPost.laid {w W w2 : World} {p : Pt} {gv : Value} {B : Nat} {u0 u1 u2 : Value} (hb : Below w.heap.size w W) (hB : w.heap.size ≤ B) (hBW : W.heap[B]? = some (.cells #[u0, u1, u2] 167 (0, 0)))
    (hnd : PtW w2 (gv, p)) (hb2 : Below W.heap.size W w2) :
    JoinPost w p (.returned (.agg #[gv, .int .i64 (p.nodes : Int), .int .i64 (p.deep : Int)])) (((w2.setCell ⟨B, 0, none⟩ gv).setCell ⟨B, 1, none⟩ (.int .i64 (p.nodes : Int))).setCell ⟨B, 2, none⟩ (.int .i64 (p.deep : Int))) := by
  have hlt := lt_of_block hBW
  have hs := hb.size
  have h0 := (hb2.block B hlt).trans hBW
  have h1 := setObj_heap (v := gv) h0 (k := 0) (by simp)
  have h2 := setObj_heap (v := .int .i64 (p.nodes : Int)) h1 (k := 1) (by simp)
  refine JoinPost.of rfl rfl (((hnd.set h0 (by decide) _).set h1 (by decide) _).set h2 (by decide) _) ?_
  exact (((hb.trans (hb2.mono hs)).setCell (by exact hB) _).setCell (by exact hB) _).setCell (by exact hB) _
set_option maxRecDepth 100000 in
set_option maxHeartbeats 1000000 in
theorem sjoin_any (s : Int × Bool) (ev fv : Value) (p q : Pt) (w : World) (hp : PtIn w w.heap.size (ev, p)) (hq : PtIn w w.heap.size (fv, q)) (h1 : p.ok) (h2 : q.ok) (h3 : p.nodes + q.nodes ≤ 900000) (h27 : s.1 ≤ 25) :
    Calls Tryz.prog 160 #[.agg #[.int .i64 s.1, .bool s.2], .agg #[ev, .int .i64 (p.nodes : Int), .int .i64 (p.deep : Int)], .agg #[fv, .int .i64 (q.nodes : Int), .int .i64 (q.deep : Int)]] w (JoinPost w (sjoin s p q)) := by
  obtain ⟨op, tu⟩ := s
  have HP := Lib.hid hp
  have HQ := Lib.hid hq
  obtain ⟨⟨Ae, ce, hev, y1, y2, _⟩, _⟩ := hp
  obtain ⟨⟨Af, cf, hfv, y3, y4, _⟩, _⟩ := hq
  simp only at hev hfv y1 y2 y3 y4 h27
  subst hev; subst hfv
  unfold maxLen at y2 y4
  have H1 := Lib.hid h1
  have H2 := Lib.hid h2
  clear h1 h2
  cases tu with
  | false =>
    have HS := Lib.hid (show sjoin (op, false) p q = joined op 0 [] [p, q] from rfl)
    rw [HS.out]
    go_enter Tryz.func160, Tryz.ntmps160
    go_wp2_with fail
    have hbW : Below w.heap.size w (((((w.alloc (.cells #[.int .i64 op, .bool false] 171)).alloc (.cells #[.slice Ae p.e.length ce, .int .i64 (p.nodes : Int), .int .i64 (p.deep : Int)] 167)).alloc (.cells #[.slice Af q.e.length cf, .int .i64 (q.nodes : Int), .int .i64 (q.deep : Int)] 167)).alloc (.cells #[.slice none 0 0, .int .i64 0, .int .i64 0] 167)).alloc (.cells (ptsOf [(.slice Ae p.e.length ce, p), (.slice Af q.e.length cf, q)]).toArray 167)) := by
      repeat (first | exact Below.refl _ _ | refine Below.alloc ?_ (by simp; try omega) _)
    have HBW := Lib.hid hbW
    have hpa := parts_block (L := [(.slice Ae p.e.length ce, p), (.slice Af q.e.length cf, q)]) (n := 2) (new_blk (W := ((((w.alloc (.cells #[.int .i64 op, .bool false] 171)).alloc (.cells #[.slice Ae p.e.length ce, .int .i64 (p.nodes : Int), .int .i64 (p.deep : Int)] 167)).alloc (.cells #[.slice Af q.e.length cf, .int .i64 (q.nodes : Int), .int .i64 (q.deep : Int)] 167)).alloc (.cells #[.slice none 0 0, .int .i64 0, .int .i64 0] 167))) (G := w.heap.size + 1 + 1 + 1 + 1) (by simp)) rfl (by
      intro x hx
      simp at hx
      rcases hx with rfl | rfl
      · exact HP.out.below HBW.out
      · exact HQ.out.below HBW.out) rfl (by simp)
    have hB3 : (((((w.alloc (.cells #[.int .i64 op, .bool false] 171)).alloc (.cells #[.slice Ae p.e.length ce, .int .i64 (p.nodes : Int), .int .i64 (p.deep : Int)] 167)).alloc (.cells #[.slice Af q.e.length cf, .int .i64 (q.nodes : Int), .int .i64 (q.deep : Int)] 167)).alloc (.cells #[.slice none 0 0, .int .i64 0, .int .i64 0] 167)).alloc (.cells (ptsOf [(.slice Ae p.e.length ce, p), (.slice Af q.e.length cf, q)]).toArray 167)).heap[w.heap.size + 1 + 1 + 1]? = some (.cells #[.slice none 0 0, .int .i64 0, .int .i64 0] 167 (0, 0)) := by
      rw [Below.heap_alloc _ _ _ (by simp)]; exact new_blk (by simp)
    have HB3 := Lib.hid hB3
    clear hbW hB3
    refine (joined_any _ [p, q] op 0 [] _ hpa (by simp [H1.out, H2.out]) (by rw [nodes_eq, if_neg (by omega)]; simp; omega) (by simp) (room_of op _ (by simp [H1.out, H2.out]) (.inr (by simp)))).mono ?_
    rintro r w2 ⟨gv, rfl, hnd, hb2⟩
    have HND := Lib.hid hnd
    have HB2 := Lib.hid hb2
    have hs2 := hb2.size
    simp at hs2
    have x0 := (hb2.block (w.heap.size + 1 + 1 + 1) (by simp)).trans HB3.out
    have X0 := Lib.hid x0
    obtain ⟨⟨Ag, cg, hgv, z1, z2, _⟩, _⟩ := hnd
    simp only at hgv z1
    subst hgv
    unfold maxLen at z2
    have g0 : w2.cell? ⟨w.heap.size + 1 + 1 + 1, 0, none⟩ = some (.slice none 0 0) := by simp [World.cell?, x0]
    have g1 : w2.cell? ⟨w.heap.size + 1 + 1 + 1, 1, none⟩ = some (.int .i64 0) := by simp [World.cell?, x0]
    have g2 : w2.cell? ⟨w.heap.size + 1 + 1 + 1, 2, none⟩ = some (.int .i64 0) := by simp [World.cell?, x0]
    have e0 : w2.frozen? ⟨w.heap.size + 1 + 1 + 1, 0, none⟩ = false := by simp [World.frozen?, x0]
    have e1 : w2.frozen? ⟨w.heap.size + 1 + 1 + 1, 1, none⟩ = false := by simp [World.frozen?, x0]
    have e2 : w2.frozen? ⟨w.heap.size + 1 + 1 + 1, 2, none⟩ = false := by simp [World.frozen?, x0]
    clear hb2 x0 hpa
    go_wp2
    refine bodyPost_ret (v := .agg #[.slice Ag (joined op 0 [] [p, q]).e.length cg, .int .i64 ((joined op 0 [] [p, q]).nodes : Int), .int .i64 ((joined op 0 [] [p, q]).deep : Int)]) ?_ rfl (JoinPost.laid HBW.out (by omega) HB3.out HND.out HB2.out)
    obtain ⟨k0, k1, k2⟩ := trip_cells (.slice Ag (joined op 0 [] [p, q]).e.length cg) (.int .i64 ((joined op 0 [] [p, q]).nodes : Int)) (.int .i64 ((joined op 0 [] [p, q]).deep : Int)) X0.out
    clear g0 g1 g2 e0 e1 e2
    simp [results, Tryz.results160, go_sem, k0, k1, k2]
  | true =>
    have HS := Lib.hid (show sjoin (op, true) p q = joined op 0 [] [q, p] from rfl)
    rw [HS.out]
    go_enter Tryz.func160, Tryz.ntmps160
    go_wp2_with fail
    have hbW : Below w.heap.size w (((((w.alloc (.cells #[.int .i64 op, .bool true] 171)).alloc (.cells #[.slice Af q.e.length cf, .int .i64 (q.nodes : Int), .int .i64 (q.deep : Int)] 167)).alloc (.cells #[.slice Ae p.e.length ce, .int .i64 (p.nodes : Int), .int .i64 (p.deep : Int)] 167)).alloc (.cells #[.slice none 0 0, .int .i64 0, .int .i64 0] 167)).alloc (.cells (ptsOf [(.slice Af q.e.length cf, q), (.slice Ae p.e.length ce, p)]).toArray 167)) := by
      repeat (first | exact Below.refl _ _ | refine Below.alloc ?_ (by simp; try omega) _)
    have HBW := Lib.hid hbW
    have hpa := parts_block (L := [(.slice Af q.e.length cf, q), (.slice Ae p.e.length ce, p)]) (n := 2) (new_blk (W := ((((w.alloc (.cells #[.int .i64 op, .bool true] 171)).alloc (.cells #[.slice Af q.e.length cf, .int .i64 (q.nodes : Int), .int .i64 (q.deep : Int)] 167)).alloc (.cells #[.slice Ae p.e.length ce, .int .i64 (p.nodes : Int), .int .i64 (p.deep : Int)] 167)).alloc (.cells #[.slice none 0 0, .int .i64 0, .int .i64 0] 167))) (G := w.heap.size + 1 + 1 + 1 + 1) (by simp)) rfl (by
      intro x hx
      simp at hx
      rcases hx with rfl | rfl
      · exact HQ.out.below HBW.out
      · exact HP.out.below HBW.out) rfl (by simp)
    have hB3 : (((((w.alloc (.cells #[.int .i64 op, .bool true] 171)).alloc (.cells #[.slice Af q.e.length cf, .int .i64 (q.nodes : Int), .int .i64 (q.deep : Int)] 167)).alloc (.cells #[.slice Ae p.e.length ce, .int .i64 (p.nodes : Int), .int .i64 (p.deep : Int)] 167)).alloc (.cells #[.slice none 0 0, .int .i64 0, .int .i64 0] 167)).alloc (.cells (ptsOf [(.slice Af q.e.length cf, q), (.slice Ae p.e.length ce, p)]).toArray 167)).heap[w.heap.size + 1 + 1 + 1]? = some (.cells #[.slice none 0 0, .int .i64 0, .int .i64 0] 167 (0, 0)) := by
      rw [Below.heap_alloc _ _ _ (by simp)]; exact new_blk (by simp)
    have HB3 := Lib.hid hB3
    clear hbW hB3
    refine (joined_any _ [q, p] op 0 [] _ hpa (by simp [H1.out, H2.out]) (by rw [nodes_eq, if_neg (by omega)]; simp; omega) (by simp) (room_of op _ (by simp [H1.out, H2.out]) (.inr (by simp)))).mono ?_
    rintro r w2 ⟨gv, rfl, hnd, hb2⟩
    have HND := Lib.hid hnd
    have HB2 := Lib.hid hb2
    have hs2 := hb2.size
    simp at hs2
    have x0 := (hb2.block (w.heap.size + 1 + 1 + 1) (by simp)).trans HB3.out
    have X0 := Lib.hid x0
    obtain ⟨⟨Ag, cg, hgv, z1, z2, _⟩, _⟩ := hnd
    simp only at hgv z1
    subst hgv
    unfold maxLen at z2
    have g0 : w2.cell? ⟨w.heap.size + 1 + 1 + 1, 0, none⟩ = some (.slice none 0 0) := by simp [World.cell?, x0]
    have g1 : w2.cell? ⟨w.heap.size + 1 + 1 + 1, 1, none⟩ = some (.int .i64 0) := by simp [World.cell?, x0]
    have g2 : w2.cell? ⟨w.heap.size + 1 + 1 + 1, 2, none⟩ = some (.int .i64 0) := by simp [World.cell?, x0]
    have e0 : w2.frozen? ⟨w.heap.size + 1 + 1 + 1, 0, none⟩ = false := by simp [World.frozen?, x0]
    have e1 : w2.frozen? ⟨w.heap.size + 1 + 1 + 1, 1, none⟩ = false := by simp [World.frozen?, x0]
    have e2 : w2.frozen? ⟨w.heap.size + 1 + 1 + 1, 2, none⟩ = false := by simp [World.frozen?, x0]
    clear hb2 x0 hpa
    go_wp2
    refine bodyPost_ret (v := .agg #[.slice Ag (joined op 0 [] [q, p]).e.length cg, .int .i64 ((joined op 0 [] [q, p]).nodes : Int), .int .i64 ((joined op 0 [] [q, p]).deep : Int)]) ?_ rfl (JoinPost.laid HBW.out (by omega) HB3.out HND.out HB2.out)
    obtain ⟨k0, k1, k2⟩ := trip_cells (.slice Ag (joined op 0 [] [q, p]).e.length cg) (.int .i64 ((joined op 0 [] [q, p]).nodes : Int)) (.int .i64 ((joined op 0 [] [q, p]).deep : Int)) X0.out
    clear g0 g1 g2 e0 e1 e2
    simp [results, Tryz.results160, go_sem, k0, k1, k2]
end Go.Proofs.YtgohhnbdicdenaaGreatDoor.Ex

