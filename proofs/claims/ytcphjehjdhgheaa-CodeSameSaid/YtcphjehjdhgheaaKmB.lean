/- What lays instructions, in memory. Conditions: none. What lays instructions: the registers of operands, which are free. Conditions: few of all. -/
import Derived.Test.YtcphjehjdhgheaaKaA
import Derived.Test.YtcphjehjdhgheaaNkQ
import Derived.Test.YtcphjehjdhgheaaNkC
import Derived.Test.YtcphjehjdhgheaaNhA
import Derived.Deep.AppendLies
import Derived.Deep.RegionLaw
namespace Go.Proofs.Ytcphjehjdhgheaa.Nt
open Go.ChangeShapes Go.WideShapes Go.ChangeAt Go.RowKit Go.Proofs.Ytcphjehjdhgheaa.Tr
set_option linter.unusedVariables false
set_option linter.unusedSimpArgs false

/-- Rows of numbers of one's own that are apart. -/
structure Aparts (a b c d : Value) : Prop where
  ab : ∀ g, a.ownBlock = some g → b.ownBlock ≠ some g
  ac : ∀ g, a.ownBlock = some g → c.ownBlock ≠ some g
  ad : ∀ g, a.ownBlock = some g → d.ownBlock ≠ some g
  bc : ∀ g, b.ownBlock = some g → c.ownBlock ≠ some g
  bd : ∀ g, b.ownBlock = some g → d.ownBlock ≠ some g
  cd : ∀ g, c.ownBlock = some g → d.ownBlock ≠ some g
abbrev mkCells (iv ov pv qv ev lv fv : Value) (m : Mk) : Array Value := #[iv, .int .i64 (m.regs : Int), .int .i64 (m.slots : Int), ov, pv, qv, ev, lv, fv]
/-- The maker: its box, and its rows: instructions, ends, registers, those that are free, outs. -/
structure MkS (w0 : World) (B b : Nat) (S : Net) (pv qv : Value) (W : World) (iv ov ev lv fv : Value) (m : Mk) (outs : List Int) : Prop where
  box : W.heap[b]? = some (.cells (mkCells iv ov pv qv ev lv fv m) 121 (0, 0))
  hb : B ≤ b
  lo : w0.heap.size ≤ B
  old : Below B w0 W
  ins : W.ownsRow B 109 6 iv m.ins.length (insOfL m.ins)
  outs : W.ownsRow B 3 1 ov outs.length (intsOf outs)
  ends : W.ownsRow B 3 1 ev m.ends.length (intsOf m.ends)
  loc : W.ownsRow B 3 1 lv m.loc.length (intsOf m.loc)
  free : W.ownsRow B 3 1 fv m.free.length (intsOf m.free)
  sep : Aparts ov ev lv fv
  ops : OpsR w0 qv S.ops
  inp : Ints w0 pv S.ins
variable {w0 W W' : World} {B b : Nat} {S : Net} {pv qv iv ov ev lv fv : Value} {m : Mk} {outs : List Int}
theorem MkS.lt (h : MkS w0 B b S pv qv W iv ov ev lv fv m outs) : b < W.heap.size := lt_of_block h.box
theorem MkS.size (h : MkS w0 B b S pv qv W iv ov ev lv fv m outs) : B ≤ W.heap.size := by have := h.hb; have := lt_of_block h.box; omega
theorem MkS.ats (h : MkS w0 B b S pv qv W iv ov ev lv fv m outs) : W.cell? ⟨b, 0, none⟩ = some iv ∧ W.cell? ⟨b, 1, none⟩ = some (.int .i64 (m.regs : Int)) ∧ W.cell? ⟨b, 2, none⟩ = some (.int .i64 (m.slots : Int)) ∧ W.cell? ⟨b, 3, none⟩ = some ov ∧ W.cell? ⟨b, 4, none⟩ = some pv ∧ W.cell? ⟨b, 5, none⟩ = some qv ∧ W.cell? ⟨b, 6, none⟩ = some ev ∧ W.cell? ⟨b, 7, none⟩ = some lv ∧ W.cell? ⟨b, 8, none⟩ = some fv := by
  have := h.box
  refine ⟨?_, ?_, ?_, ?_, ?_, ?_, ?_, ?_, ?_⟩ <;> simp [World.cell?, this]
theorem MkS.fzs (h : MkS w0 B b S pv qv W iv ov ev lv fv m outs) : W.frozen? ⟨b, 0, none⟩ = false ∧ W.frozen? ⟨b, 1, none⟩ = false ∧ W.frozen? ⟨b, 2, none⟩ = false ∧ W.frozen? ⟨b, 3, none⟩ = false ∧ W.frozen? ⟨b, 7, none⟩ = false ∧ W.frozen? ⟨b, 8, none⟩ = false := by
  have := h.box
  refine ⟨?_, ?_, ?_, ?_, ?_, ?_⟩ <;> simp [World.frozen?, this]
theorem not_box {w : World} {b B n s : Nat} {T : TypeId} {v : Value} {xs : List Value} {cs : Array Value} (h : w.ownsRow B T s v n xs) (hb : w.heap[b]? = some (.cells cs 121 (0, 0))) (hT : T ≠ 121) : v.ownBlock ≠ some b := fun e => by
  obtain ⟨cs', hc⟩ := own_cells h e
  rw [hb] at hc; simp at hc; exact hT hc.2.symm
theorem MkS.keep (h : MkS w0 B b S pv qv W iv ov ev lv fv m outs) (ho : Below B w0 W') (hk : ∀ g, g < W.heap.size → B ≤ g → W'.heap[g]? = W.heap[g]?) : MkS w0 B b S pv qv W' iv ov ev lv fv m outs := by
  have o := fun {T n s v xs} (r : W.ownsRow B T s v n xs) => own_block (w' := W') r (fun g hg => hk g (r.lt g hg).2 (r.lt g hg).1)
  exact ⟨(hk b h.lt h.hb).trans h.box, h.hb, h.lo, ho, o h.ins, o h.outs, o h.ends, o h.loc, o h.free, h.sep, h.ops, h.inp⟩
theorem MkS.below (h : MkS w0 B b S pv qv W iv ov ev lv fv m outs) (hb : Below W.heap.size W W') : MkS w0 B b S pv qv W' iv ov ev lv fv m outs :=
  h.keep (h.old.trans (hb.mono h.size)) (fun g hg _ => hb.block g hg)
/-- Rows keep where a block of another row, or the box, turns. -/
theorem row_keep {T n s : Nat} {v : Value} {xs : List Value} (r : W.ownsRow B T s v n xs) {A : Nat → Prop} (hk : ∀ g, g < W.heap.size → ¬ A g → W'.heap[g]? = W.heap[g]?) (hA : ∀ g, v.ownBlock = some g → ¬ A g) : W'.ownsRow B T s v n xs :=
  own_block r (fun g hg => hk g (r.lt g hg).2 (hA g hg))
/-- A cell of the box. -/
theorem MkS.setBox (h : MkS w0 B b S pv qv W iv ov ev lv fv m outs) (k : Nat) (x : Value) : Below B w0 (W.setCell ⟨b, k, none⟩ x) ∧ ∀ g, g < W.heap.size → ¬ g = b → (W.setCell ⟨b, k, none⟩ x).heap[g]? = W.heap[g]? :=
  ⟨h.old.setCell (p := ⟨b, k, none⟩) h.hb _, fun g _ hg => Below.heap_setCell _ _ _ _ hg⟩
theorem MkS.setRegs (h : MkS w0 B b S pv qv W iv ov ev lv fv m outs) (r : Nat) : MkS w0 B b S pv qv (W.setCell ⟨b, 1, none⟩ (.int .i64 (r : Int))) iv ov ev lv fv { m with regs := r } outs := by
  obtain ⟨h1, h2⟩ := h.setBox 1 (.int .i64 (r : Int))
  refine ⟨?_, h.hb, h.lo, h1, row_keep h.ins h2 ?_, row_keep h.outs h2 ?_, row_keep h.ends h2 ?_, row_keep h.loc h2 ?_, row_keep h.free h2 ?_, h.sep, h.ops, h.inp⟩
  · have := h.box
    simp [World.setCell, Array.getElem?_modify, this, mkCells]
  all_goals rintro g hg rfl
  · exact not_box h.ins h.box (by decide) hg
  · exact not_box h.outs h.box (by decide) hg
  · exact not_box h.ends h.box (by decide) hg
  · exact not_box h.loc h.box (by decide) hg
  · exact not_box h.free h.box (by decide) hg
theorem MkS.setSlots (h : MkS w0 B b S pv qv W iv ov ev lv fv m outs) (r : Nat) : MkS w0 B b S pv qv (W.setCell ⟨b, 2, none⟩ (.int .i64 (r : Int))) iv ov ev lv fv { m with slots := r } outs := by
  obtain ⟨h1, h2⟩ := h.setBox 2 (.int .i64 (r : Int))
  refine ⟨?_, h.hb, h.lo, h1, row_keep h.ins h2 ?_, row_keep h.outs h2 ?_, row_keep h.ends h2 ?_, row_keep h.loc h2 ?_, row_keep h.free h2 ?_, h.sep, h.ops, h.inp⟩
  · have := h.box
    simp [World.setCell, Array.getElem?_modify, this, mkCells]
  all_goals rintro g hg rfl
  · exact not_box h.ins h.box (by decide) hg
  · exact not_box h.outs h.box (by decide) hg
  · exact not_box h.ends h.box (by decide) hg
  · exact not_box h.loc h.box (by decide) hg
  · exact not_box h.free h.box (by decide) hg
/-- A number of the ends. -/
theorem MkS.setEnds {eg n ec : Nat} (h : MkS w0 B b S pv qv W iv ov (.slice (some ⟨eg, 0, none⟩) n ec) lv fv m outs) (k : Nat) (x : Int) (hk : k < m.ends.length) :
    MkS w0 B b S pv qv (W.setCell ⟨eg, k, none⟩ (.int .i64 x)) iv ov (.slice (some ⟨eg, 0, none⟩) n ec) lv fv { m with ends := m.ends.set k x } outs := by
  obtain rfl := own_form h.ends
  have hg : (Value.slice (some ⟨eg, 0, none⟩) m.ends.length ec).ownBlock = some eg := rfl
  have hlt := h.ends.lt eg hg
  have h2 : ∀ g, g < W.heap.size → ¬ g = eg → (W.setCell ⟨eg, k, none⟩ (.int .i64 x)).heap[g]? = W.heap[g]? := fun g _ hne => Below.heap_setCell _ _ _ _ hne
  have hbe : b ≠ eg := fun e => not_box h.ends h.box (by decide) (by rw [hg, e])
  have hst := (h.ends.stored k (.int .i64 x)).1
  rw [← intsOf_set] at hst
  refine ⟨(h2 b h.lt hbe).trans h.box, h.hb, h.lo, h.old.setCell (p := ⟨eg, k, none⟩) hlt.1 _, row_keep h.ins h2 ?_, row_keep h.outs h2 ?_, by rw [List.length_set]; exact hst, row_keep h.loc h2 ?_, row_keep h.free h2 ?_, h.sep, h.ops, h.inp⟩
  all_goals rintro g hg' rfl
  · exact own_two h.ins h.ends (by decide) hg' hg
  · exact h.sep.ab g hg' hg
  · exact h.sep.bc g hg hg'
  · exact h.sep.bd g hg hg'
/-- A row of the maker grows, and a cell of the box is turned. -/
theorem MkS.grow (h : MkS w0 B b S pv qv W iv ov ev lv fv m outs) {Wa w7 : World} (ha : Below W.heap.size W Wa) {v : Value} (hg : Wa.grownBy w7 v.ownBlock) (hvB : ∀ g, v.ownBlock = some g → B ≤ g) (hvb : v.ownBlock ≠ some b) (k : Nat) (u : Value) :
    Below B w0 (w7.setCell ⟨b, k, none⟩ u) ∧ (∀ g, g < W.heap.size → ¬ (g = b ∨ v.ownBlock = some g) → (w7.setCell ⟨b, k, none⟩ u).heap[g]? = W.heap[g]?) ∧ w7.heap[b]? = some (.cells (mkCells iv ov pv qv ev lv fv m) 121 (0, 0)) := by
  have hz := ha.size
  have hl := h.lt
  refine ⟨?_, fun g hgl hne => ?_, ?_⟩
  · have h1 : Below B w0 Wa := h.old.trans (ha.mono h.old.size |> fun x => by exact { os := ha.os, tape := ha.tape, output := ha.output, size := ha.size, block := fun g hg => ha.block g (by have := h.size; omega) })
    exact (h1.grown hg (by have := h.size; omega) hvB).setCell (p := ⟨b, k, none⟩) h.hb _
  · rw [Below.heap_setCell _ _ _ _ (show g ≠ b from fun e => hne (.inl e)), hg.block g (by omega) (fun e => hne (.inr e.symm)), ha.block g hgl]
  · rw [hg.block b (by omega) (fun e => hvb e.symm), ha.block b hl]; exact h.box
/-- The new row is apart from the others. -/
theorem new_apart {v u : Value} {gg n c n' s : Nat} {T : TypeId} {xs : List Value} (hu : W.ownsRow B T s u n' xs) (hat : v.ownBlock = some gg ∨ W.heap.size ≤ gg) (hs : ∀ g, v.ownBlock = some g → u.ownBlock ≠ some g) :
    ∀ g, (Value.slice (some ⟨gg, 0, none⟩) n c).ownBlock = some g → u.ownBlock ≠ some g := fun g hg e => by
  have e1 : some gg = some g := hg
  injection e1 with e1
  subst e1
  rcases hat with h | h
  · exact hs gg h e
  · have := (hu.lt gg e).2; omega
theorem sym_apart {a b : Value} (h : ∀ g, a.ownBlock = some g → b.ownBlock ≠ some g) : ∀ g, b.ownBlock = some g → a.ownBlock ≠ some g := fun g hg e => h g e hg
theorem MkS.addLoc (h : MkS w0 B b S pv qv W iv ov ev lv fv m outs) {Wa w7 : World} (ha : Below W.heap.size W Wa) (hg : Wa.grownBy w7 lv.ownBlock) {gg cap : Nat} {x : Int}
    (hown : w7.ownsRow B 3 1 (.slice (some ⟨gg, 0, none⟩) (m.loc.length + 1) cap) (m.loc.length + 1) (intsOf m.loc ++ [.int .i64 x])) (hat : lv.ownBlock = some gg ∨ W.heap.size ≤ gg) :
    MkS w0 B b S pv qv (w7.setCell ⟨b, 7, none⟩ (.slice (some ⟨gg, 0, none⟩) (m.loc.length + 1) cap)) iv ov ev (.slice (some ⟨gg, 0, none⟩) (m.loc.length + 1) cap) fv { m with loc := m.loc ++ [x] } outs := by
  obtain ⟨h1, h2, h3⟩ := h.grow ha hg (fun g hg => (h.loc.lt g hg).1) (not_box h.loc h.box (by decide)) 7 (.slice (some ⟨gg, 0, none⟩) (m.loc.length + 1) cap)
  have hgb : gg ≠ b := by
    rcases hat with e | e
    · exact fun c => not_box h.loc h.box (by decide) (by rw [e, c])
    · have := h.lt; omega
  refine ⟨?_, h.hb, h.lo, h1, row_keep h.ins h2 ?_, row_keep h.outs h2 ?_, row_keep h.ends h2 ?_, ?_, row_keep h.free h2 ?_, ⟨h.sep.ab, sym_apart (new_apart h.outs hat (sym_apart h.sep.ac)), h.sep.ad, sym_apart (new_apart h.ends hat (sym_apart h.sep.bc)), h.sep.bd, new_apart h.free hat h.sep.cd⟩, h.ops, h.inp⟩
  · simp [World.setCell, Array.getElem?_modify, h3, mkCells]
  · rintro g hg' (rfl | e)
    · exact not_box h.ins h.box (by decide) hg'
    · exact own_two h.ins h.loc (by decide) hg' e
  · rintro g hg' (rfl | e)
    · exact not_box h.outs h.box (by decide) hg'
    · exact h.sep.ac g hg' e
  · rintro g hg' (rfl | e)
    · exact not_box h.ends h.box (by decide) hg'
    · exact h.sep.bc g hg' e
  · rw [List.length_append, ints_snoc]
    exact own_block hown (fun g hg' => Below.heap_setCell _ _ _ _ (fun e => by
      have e1 : some gg = some g := hg'
      injection e1 with e1
      exact hgb (e1.trans e)))
  · rintro g hg' (rfl | e)
    · exact not_box h.free h.box (by decide) hg'
    · exact h.sep.cd g e hg'
theorem MkS.addFree (h : MkS w0 B b S pv qv W iv ov ev lv fv m outs) {Wa w7 : World} (ha : Below W.heap.size W Wa) (hg : Wa.grownBy w7 fv.ownBlock) {gg cap : Nat} {x : Int}
    (hown : w7.ownsRow B 3 1 (.slice (some ⟨gg, 0, none⟩) (m.free.length + 1) cap) (m.free.length + 1) (intsOf m.free ++ [.int .i64 x])) (hat : fv.ownBlock = some gg ∨ W.heap.size ≤ gg) :
    MkS w0 B b S pv qv (w7.setCell ⟨b, 8, none⟩ (.slice (some ⟨gg, 0, none⟩) (m.free.length + 1) cap)) iv ov ev lv (.slice (some ⟨gg, 0, none⟩) (m.free.length + 1) cap) { m with free := m.free ++ [x] } outs := by
  obtain ⟨h1, h2, h3⟩ := h.grow ha hg (fun g hg => (h.free.lt g hg).1) (not_box h.free h.box (by decide)) 8 (.slice (some ⟨gg, 0, none⟩) (m.free.length + 1) cap)
  have hgb : gg ≠ b := by
    rcases hat with e | e
    · exact fun c => not_box h.free h.box (by decide) (by rw [e, c])
    · have := h.lt; omega
  refine ⟨?_, h.hb, h.lo, h1, row_keep h.ins h2 ?_, row_keep h.outs h2 ?_, row_keep h.ends h2 ?_, row_keep h.loc h2 ?_, ?_, ⟨h.sep.ab, h.sep.ac, sym_apart (new_apart h.outs hat (sym_apart h.sep.ad)), h.sep.bc, sym_apart (new_apart h.ends hat (sym_apart h.sep.bd)), sym_apart (new_apart h.loc hat (sym_apart h.sep.cd))⟩, h.ops, h.inp⟩
  · simp [World.setCell, Array.getElem?_modify, h3, mkCells]
  · rintro g hg' (rfl | e)
    · exact not_box h.ins h.box (by decide) hg'
    · exact own_two h.ins h.free (by decide) hg' e
  · rintro g hg' (rfl | e)
    · exact not_box h.outs h.box (by decide) hg'
    · exact h.sep.ad g hg' e
  · rintro g hg' (rfl | e)
    · exact not_box h.ends h.box (by decide) hg'
    · exact h.sep.bd g hg' e
  · rintro g hg' (rfl | e)
    · exact not_box h.loc h.box (by decide) hg'
    · exact h.sep.cd g hg' e
  · rw [List.length_append, ints_snoc]
    exact own_block hown (fun g hg' => Below.heap_setCell _ _ _ _ (fun e => by
      have e1 : some gg = some g := hg'
      injection e1 with e1
      exact hgb (e1.trans e)))
theorem MkS.addOuts (h : MkS w0 B b S pv qv W iv ov ev lv fv m outs) {Wa w7 : World} (ha : Below W.heap.size W Wa) (hg : Wa.grownBy w7 ov.ownBlock) {gg cap : Nat} {x : Int}
    (hown : w7.ownsRow B 3 1 (.slice (some ⟨gg, 0, none⟩) (outs.length + 1) cap) (outs.length + 1) (intsOf outs ++ [.int .i64 x])) (hat : ov.ownBlock = some gg ∨ W.heap.size ≤ gg) :
    MkS w0 B b S pv qv (w7.setCell ⟨b, 3, none⟩ (.slice (some ⟨gg, 0, none⟩) (outs.length + 1) cap)) iv (.slice (some ⟨gg, 0, none⟩) (outs.length + 1) cap) ev lv fv m (outs ++ [x]) := by
  obtain ⟨h1, h2, h3⟩ := h.grow ha hg (fun g hg => (h.outs.lt g hg).1) (not_box h.outs h.box (by decide)) 3 (.slice (some ⟨gg, 0, none⟩) (outs.length + 1) cap)
  have hgb : gg ≠ b := by
    rcases hat with e | e
    · exact fun c => not_box h.outs h.box (by decide) (by rw [e, c])
    · have := h.lt; omega
  refine ⟨?_, h.hb, h.lo, h1, row_keep h.ins h2 ?_, ?_, row_keep h.ends h2 ?_, row_keep h.loc h2 ?_, row_keep h.free h2 ?_, ⟨new_apart h.ends hat h.sep.ab, new_apart h.loc hat h.sep.ac, new_apart h.free hat h.sep.ad, h.sep.bc, h.sep.bd, h.sep.cd⟩, h.ops, h.inp⟩
  · simp [World.setCell, Array.getElem?_modify, h3, mkCells]
  · rintro g hg' (rfl | e)
    · exact not_box h.ins h.box (by decide) hg'
    · exact own_two h.ins h.outs (by decide) hg' e
  · rw [List.length_append, ints_snoc]
    exact own_block hown (fun g hg' => Below.heap_setCell _ _ _ _ (fun e => by
      have e1 : some gg = some g := hg'
      injection e1 with e1
      exact hgb (e1.trans e)))
  · rintro g hg' (rfl | e)
    · exact not_box h.ends h.box (by decide) hg'
    · exact h.sep.ab g e hg'
  · rintro g hg' (rfl | e)
    · exact not_box h.loc h.box (by decide) hg'
    · exact h.sep.ac g e hg'
  · rintro g hg' (rfl | e)
    · exact not_box h.free h.box (by decide) hg'
    · exact h.sep.ad g e hg'
theorem MkS.addIns (h : MkS w0 B b S pv qv W iv ov ev lv fv m outs) {Wa w7 : World} (ha : Below W.heap.size W Wa) (hg : Wa.grownBy w7 iv.ownBlock) {gg cap : Nat} {x : Ins6}
    (hown : w7.ownsRow B 109 6 (.slice (some ⟨gg, 0, none⟩) (m.ins.length + 1) cap) (m.ins.length + 1) (insOfL m.ins ++ insCells x)) (hat : iv.ownBlock = some gg ∨ W.heap.size ≤ gg) :
    MkS w0 B b S pv qv (w7.setCell ⟨b, 0, none⟩ (.slice (some ⟨gg, 0, none⟩) (m.ins.length + 1) cap)) (.slice (some ⟨gg, 0, none⟩) (m.ins.length + 1) cap) ov ev lv fv { m with ins := m.ins ++ [x] } outs := by
  obtain ⟨h1, h2, h3⟩ := h.grow ha hg (fun g hg => (h.ins.lt g hg).1) (not_box h.ins h.box (by decide)) 0 (.slice (some ⟨gg, 0, none⟩) (m.ins.length + 1) cap)
  have hgb : gg ≠ b := by
    rcases hat with e | e
    · exact fun c => not_box h.ins h.box (by decide) (by rw [e, c])
    · have := h.lt; omega
  have key : ∀ {u : Value} {xs : List Value} {n : Nat}, W.ownsRow B 3 1 u n xs → ∀ g, u.ownBlock = some g → ¬ (g = b ∨ iv.ownBlock = some g) := fun r g hg' hc => by
    rcases hc with rfl | e
    · exact not_box r h.box (by decide) hg'
    · exact own_two r h.ins (by decide) hg' e
  refine ⟨?_, h.hb, h.lo, h1, ?_, row_keep h.outs h2 (key h.outs), row_keep h.ends h2 (key h.ends), row_keep h.loc h2 (key h.loc), row_keep h.free h2 (key h.free), h.sep, h.ops, h.inp⟩
  · simp [World.setCell, Array.getElem?_modify, h3, mkCells]
  · rw [List.length_append, ins_snoc]
    exact own_block hown (fun g hg' => Below.heap_setCell _ _ _ _ (fun e => by
      have e1 : some gg = some g := hg'
      injection e1 with e1
      exact hgb (e1.trans e)))
/-- The free ones without the last one. -/
theorem MkS.cutFree {fg n c : Nat} (h : MkS w0 B b S pv qv W iv ov ev lv (.slice (some ⟨fg, 0, none⟩) n c) m outs) (k : Nat) (hk : k ≤ m.free.length) :
    MkS w0 B b S pv qv (W.setCell ⟨b, 8, none⟩ (.slice (some ⟨fg, 0, none⟩) k c)) iv ov ev lv (.slice (some ⟨fg, 0, none⟩) k c) { m with free := m.free.take k } outs := by
  obtain ⟨h1, h2⟩ := h.setBox 8 (.slice (some ⟨fg, 0, none⟩) k c)
  have hob : ∀ {n c : Nat}, (Value.slice (some ⟨fg, 0, none⟩) n c).ownBlock = some fg := rfl
  have hcut : W.ownsRow B 3 1 (.slice (some ⟨fg, 0, none⟩) k c) (m.free.take k).length (intsOf (m.free.take k)) := by
    rw [List.length_take, Nat.min_eq_left hk]
    obtain ⟨hl, h0 | ⟨g, cap, cur, e, hb, hh, hnc, hcm, hcs, hct⟩⟩ := h.free
    · have := h0.1; simp at this
    · simp only [Value.slice.injEq, Option.some.injEq, Addr.mk.injEq] at e
      obtain ⟨⟨rfl, -⟩, -, rfl⟩ := e
      refine ⟨by unfold intsOf; simp; omega, .inr ⟨_, _, cur, rfl, hb, hh, by omega, hcm, hcs, ?_⟩⟩
      have e2 : intsOf (m.free.take k) = (intsOf m.free).take k := by unfold intsOf; rw [List.map_take]
      rw [e2, ← hct, List.take_take]
      congr 1; omega
  refine ⟨?_, h.hb, h.lo, h1, row_keep h.ins h2 ?_, row_keep h.outs h2 ?_, row_keep h.ends h2 ?_, row_keep h.loc h2 ?_, own_block hcut ?_, ⟨h.sep.ab, h.sep.ac, h.sep.ad, h.sep.bc, h.sep.bd, h.sep.cd⟩, h.ops, h.inp⟩
  · have := h.box
    simp [World.setCell, Array.getElem?_modify, this, mkCells]
  · rintro g hg rfl
    exact not_box h.ins h.box (by decide) hg
  · rintro g hg rfl
    exact not_box h.outs h.box (by decide) hg
  · rintro g hg rfl
    exact not_box h.ends h.box (by decide) hg
  · rintro g hg rfl
    exact not_box h.loc h.box (by decide) hg
  · intro g hg
    exact Below.heap_setCell _ _ _ _ (fun e => not_box h.free h.box (by decide) ((show some fg = some g from hg).trans (congrArg some e)))
end Go.Proofs.Ytcphjehjdhgheaa.Nt

namespace Go.Proofs.Ytcphjehjdhgheaa.Nt
open Go.ChangeShapes Go.WideShapes Go.ChangeAt Go.RowKit Go.Proofs.Ytcphjehjdhgheaa.Tr
set_option linter.unusedVariables false
set_option linter.unusedSimpArgs false

variable {w0 W W' : World} {B b : Nat} {S : Net} {pv qv iv ov ev lv fv : Value} {m : Mk} {outs : List Int}
theorem own_slice {w : World} {b n s : Nat} {T : TypeId} {v : Value} {xs : List Value} (h : w.ownsRow b T s v n xs) : ∃ A c, v = .slice A n c ∧ n ≤ c ∧ c ≤ maxLen := by
  obtain ⟨-, h1 | ⟨g, cap, cur, e, -, -, h2, h3, -⟩⟩ := h
  · have := h1.2; rw [h1.1]; exact ⟨none, 0, by rw [this], by omega, by unfold maxLen; omega⟩
  · exact ⟨_, _, e, h2, h3⟩
theorem row_at {w : World} {b n : Nat} {A : Option Addr} {c : Nat} {l : List Int} (h : w.ownsRow b 3 1 (.slice A n c) n (intsOf l)) {k : Nat} {x : Int} (hk : l[k]? = some x) (hn : k < n) : ∃ g, A = some ⟨g, 0, none⟩ ∧ b ≤ g ∧ g < w.heap.size ∧ w.cell? ⟨g, k, none⟩ = some (.int .i64 x) ∧ w.frozen? ⟨g, k, none⟩ = false := by
  have hh := h
  obtain ⟨-, h1 | ⟨g, cap, cur, e, hb, hg, -⟩⟩ := h
  · have := h1.2; omega
  · have e' := e
    simp only [Value.slice.injEq] at e
    obtain ⟨rfl, -, rfl⟩ := e
    refine ⟨g, rfl, hb, lt_of_block hg, ?_, hh.frozenAt k⟩
    have := hh.cellAt k (by omega)
    rw [this]; exact intsOf_get l k x hk
set_option maxHeartbeats 1600000 in
theorem reg_any (h : MkS w0 B b S pv qv W iv ov ev lv fv m outs) (k : Int) (hk : k < 0 ∨ (0 ≤ k ∧ k < (m.loc.length : Int))) : Calls Try.prog 107 #[.pointer (some ⟨b, 0, none⟩), .int .i64 k] W (fun e w' => e = .returned (.int .i64 (regI m.loc k)) ∧ w' = W) := by
  obtain ⟨p0, p1, p2, p3, p4, p5, p6, p7, p8⟩ := h.ats
  have HL := Lib.hid h.loc
  by_cases h0 : k < 0
  · have d0 : decide (k < 0) = true := decide_eq_true h0
    have HE : Hid (regI m.loc k = 0) := Lib.hid (by unfold regI; rw [if_pos h0])
    rw [HE.out]
    clear h
    go_enter Try.func107, Try.ntmps107
    go_wp2
    go_ret
    exact ⟨rfl, rfl⟩
  · have d0 : decide (k < 0) = false := decide_eq_false h0
    obtain ⟨q, rfl⟩ : ∃ q : Nat, k = (q : Int) := ⟨k.toNat, by omega⟩
    have hql : q < m.loc.length := by omega
    obtain ⟨x, hx⟩ : ∃ x, m.loc[q]? = some x := ⟨_, List.getElem?_eq_getElem hql⟩
    obtain ⟨A, c, rfl, z1, z2⟩ := own_slice h.loc
    obtain ⟨g, rfl, -, hg, ct, -⟩ := row_at h.loc hx hql
    have HE : Hid (regI m.loc (q : Int) = x) := Lib.hid (by unfold regI; rw [if_neg h0]; exact at0_of hx)
    rw [HE.out]
    unfold maxLen at z2
    generalize m.loc.length = n at *
    clear h HL HE hx
    go_enter Try.func107, Try.ntmps107
    go_wp2
    go_ret
    exact ⟨rfl, rfl⟩
/-- Which register is taken. -/
def TakePost (W w0 : World) (B b : Nat) (S : Net) (pv qv iv ov ev lv : Value) (m : Mk) (outs : List Int) (e : Ending) (w' : World) : Prop :=
  e = .returned (.int .i64 (takeM m.regs m.free).1) ∧ ∃ fv', MkS w0 B b S pv qv w' iv ov ev lv fv' { m with regs := (takeM m.regs m.free).2.1, free := (takeM m.regs m.free).2.2 } outs ∧ Kp (fun g => g = b) W w'
set_option maxRecDepth 100000 in
set_option maxHeartbeats 4000000 in
theorem take_any (h : MkS w0 B b S pv qv W iv ov ev lv fv m outs) (hr : m.regs ≤ 1000) (hf : m.free.length ≤ 5000) : Calls Try.prog 109 #[.pointer (some ⟨b, 0, none⟩)] W (TakePost W w0 B b S pv qv iv ov ev lv m outs) := by
  obtain ⟨p0, p1, p2, p3, p4, p5, p6, p7, p8⟩ := h.ats
  obtain ⟨f0, f1, f2, f3, f7, f8⟩ := h.fzs
  have H := Lib.hid h
  obtain ⟨A, c, rfl, z1, z2⟩ := own_slice h.free
  unfold maxLen at z2
  obtain ⟨n, hn⟩ : ∃ n, m.free.length = n := ⟨_, rfl⟩
  by_cases h0 : n = 0
  · subst h0
    have HS : Hid (MkS w0 B b S pv qv (W.setCell ⟨b, 1, none⟩ (.int .i64 ((m.regs : Int) + 1))) iv ov ev lv (.slice A 0 c) { m with regs := m.regs + 1 } outs) := Lib.hid (by
      have := h.setRegs (m.regs + 1)
      rw [hn] at this
      rw [show ((m.regs + 1 : Nat) : Int) = (m.regs : Int) + 1 by omega] at this
      exact this)
    have HE : Hid (takeM m.regs m.free = ((m.regs : Int), m.regs + 1, m.free)) := Lib.hid (by unfold takeM; rw [if_pos hn])
    rw [hn] at p8 z1
    have hsub : (m.regs : Int) + 1 - 1 = (m.regs : Int) := by omega
    obtain ⟨R, hR⟩ : ∃ R, m.regs = R := ⟨_, rfl⟩
    have HRG := Lib.hid hR
    rw [hR] at p1 hr HS HE hsub
    clear h hn H hR
    go_enter Try.func109, Try.ntmps109
    go_wp2
    exact bodyPost_ret (v := .int .i64 (R : Int)) (by simp [results, Try.results109, go_sem]) rfl ⟨by rw [HRG.out, HE.out], _, by rw [HRG.out, HE.out]; exact HS.out, (Kp.refl (fun g => g = b) W).setCell (p := ⟨b, 1, none⟩) rfl _⟩
  · obtain ⟨k, rfl⟩ : ∃ k, n = k + 1 := ⟨n - 1, by omega⟩
    obtain ⟨x, hx⟩ : ∃ x, m.free[k]? = some x := ⟨_, List.getElem?_eq_getElem (by omega)⟩
    obtain ⟨g, rfl, hg1, hg, ct, -⟩ := row_at h.free hx (by omega)
    have HE : Hid (takeM m.regs m.free = (x, m.regs, m.free.take k)) := Lib.hid (by
      unfold takeM
      rw [if_neg (by omega), hn]
      simp [List.getD, hx])
    have HS : Hid (MkS w0 B b S pv qv (W.setCell ⟨b, 8, none⟩ (.slice (some ⟨g, 0, none⟩) k c)) iv ov ev lv (.slice (some ⟨g, 0, none⟩) k c) { m with free := m.free.take k } outs) := Lib.hid (h.cutFree k (by omega))
    rw [hn] at p8 z1
    have hlt : ¬ ((k : Int) < 0) := by omega
    have hgb : g ≠ b := fun e => not_box h.free h.box (by decide) (by rw [← e]; rfl)
    have hbg : b ≠ g := fun e => hgb e.symm
    clear h hn H hx h0
    go_enter Try.func109, Try.ntmps109
    go_wp2
    exact bodyPost_ret (v := .int .i64 x) (by simp [results, Try.results109, go_sem]) rfl ⟨by rw [HE.out], _, by rw [HE.out]; exact HS.out, (Kp.refl (fun g => g = b) W).setCell (p := ⟨b, 8, none⟩) rfl _⟩
/-- Behind some operands. -/
def LeavePost (W w0 : World) (B b : Nat) (S : Net) (pv qv iv ov ev lv fv : Value) (m : Mk) (outs : List Int) (i : Nat) (l : List Int) (e : Ending) (w' : World) : Prop :=
  e = .returned (.tuple #[]) ∧ ∃ fv', MkS w0 B b S pv qv w' iv ov ev lv fv' { m with free := (leave3 i m.loc (m.free, m.ends) l).1, ends := (leave3 i m.loc (m.free, m.ends) l).2 } outs ∧ Kp (fun g => g = b ∨ fv.ownBlock = some g ∨ ev.ownBlock = some g) W w'
theorem leave_snoc {i : Nat} {loc l : List Int} {s : List Int × List Int} {q : Nat} {k : Int} (h : l[q]? = some k) : leave3 i loc s (l.take (q + 1)) = leave1 i loc (leave3 i loc s (l.take q)) k := by
  unfold leave3; rw [List.take_add_one, h, List.foldl_append]; rfl
theorem leave_len (i : Nat) (loc : List Int) : ∀ (l : List Int) (s : List Int × List Int), (leave3 i loc s l).1.length ≤ s.1.length + l.length ∧ (leave3 i loc s l).2.length = s.2.length := by
  intro l
  induction l with
  | nil => intro s; exact ⟨Nat.le_refl _, rfl⟩
  | cons a r ih =>
    intro s
    have := ih (leave1 i loc s a)
    unfold leave3 at this ⊢
    rw [List.foldl_cons]
    have h1 : (leave1 i loc s a).1.length ≤ s.1.length + 1 ∧ (leave1 i loc s a).2.length = s.2.length := by
      unfold leave1
      split <;> simp
    simp only [List.length_cons]
    omega
set_option maxRecDepth 100000 in
set_option maxHeartbeats 8000000 in
theorem leave_any (h : MkS w0 B b S pv qv W iv ov ev lv fv m outs) (i ag n : Nat) (l : List Int) (hn : l.length = n) (ha : W.heap[ag]? = some (.cells (intsOf l).toArray 3 (0, 0))) (ha1 : fv.ownBlock ≠ some ag) (ha2 : ev.ownBlock ≠ some ag) (hal : n ≤ 3) (hf : m.free.length ≤ 5000)
    (hl : ∀ k ∈ l, k < 0 ∨ (0 ≤ k ∧ k < (m.loc.length : Int) ∧ k < (m.ends.length : Int))) : Calls Try.prog 108 #[.pointer (some ⟨b, 0, none⟩), .int .i64 (i : Int), .slice (some ⟨ag, 0, none⟩) n n] W (LeavePost W w0 B b S pv qv iv ov ev lv fv m outs i l) := by
  obtain ⟨i0, hi0, hz0, hz1, hz2⟩ := info_parts info3
  have HL := Lib.hid hl
  have HN := Lib.hid hn
  have HA := Lib.hid ha
  have HA1 := Lib.hid ha1
  have HA2 := Lib.hid ha2
  have HLL := Lib.hid (leave_len i m.loc)
  obtain ⟨LA, lc, rfl, z3, z4⟩ := own_slice h.loc
  obtain ⟨EA, ec, rfl, z5, z6⟩ := own_slice h.ends
  obtain ⟨nl, hnl⟩ : ∃ n, m.loc.length = n := ⟨_, rfl⟩
  obtain ⟨ne, hne⟩ : ∃ n, m.ends.length = n := ⟨_, rfl⟩
  rw [hnl, hne] at h
  have H := Lib.hid h
  have HNL := Lib.hid hnl
  have HNE := Lib.hid hne
  unfold maxLen at z4 z6
  rw [hnl] at z3
  rw [hne] at z5 HA2
  rw [hnl, hne]
  obtain ⟨nf, hnf⟩ : ∃ n, m.free.length = n := ⟨_, rfl⟩
  have HNF := Lib.hid hnf
  rw [hnf] at hf
  clear ha ha1 ha2 hl h hn hnl hne hnf
  go_enter Try.func108, Try.ntmps108
  go_wp2_with fail
  go_loopw [10] (fun v10 wr => ∃ (q : Nat) (fv' : Value), q ≤ n ∧ v10 = .int .i64 (q : Int) ∧ MkS w0 B b S pv qv wr iv ov (.slice EA ne ec) (.slice LA nl lc) fv' { m with free := (leave3 i m.loc (m.free, m.ends) (l.take q)).1, ends := (leave3 i m.loc (m.free, m.ends) (l.take q)).2 } outs ∧ Kp (fun g => g = b ∨ fv.ownBlock = some g ∨ (Value.slice EA ne ec).ownBlock = some g) W wr ∧ ∀ g, fv'.ownBlock = some g → fv.ownBlock = some g ∨ W.heap.size ≤ g) (fun v10 _ => n - (intOf v10).toNat)
  case atStart => exact ⟨0, fv, Nat.zero_le _, rfl, H.out, Kp.refl _ _, fun g hg => .inl hg⟩
  case round =>
    obtain ⟨q, fv', hq, rfl, hm, hkp, hfo⟩ := hrel
    have hagl0 : ag < W.heap.size := lt_of_block HA.out
    have hab0 : ag ≠ b := fun e => by
      have h1 := HA.out
      rw [e, H.out.box] at h1
      simp at h1
    have hag : wr.heap[ag]? = some (.cells (intsOf l).toArray 3 (0, 0)) := (hkp.block ag hagl0 (by
      rintro (e | e | e)
      · exact hab0 e
      · exact HA1.out e
      · exact HA2.out e)).trans HA.out
    have HKP := Lib.hid hkp
    have HFO := Lib.hid hfo
    obtain ⟨P, hP⟩ : ∃ P, leave3 i m.loc (m.free, m.ends) (l.take q) = P := ⟨_, rfl⟩
    have hPl := HLL.out (l.take q) (m.free, m.ends)
    rw [hP] at hm hPl
    rw [List.length_take, HN.out] at hPl
    dsimp only at hPl
    rw [HNF.out, HNE.out] at hPl
    have HP := Lib.hid hP
    have HM := Lib.hid hm
    have HAG := Lib.hid hag
    obtain ⟨wk, hwk⟩ : ∃ W, W = wr := ⟨_, rfl⟩
    subst hwk
    clear hP hag hkp hfo
    by_cases hqn : q < n
    · obtain ⟨k, hk⟩ : ∃ k, l[q]? = some k := ⟨_, List.getElem?_eq_getElem (by rw [HN.out]; exact hqn)⟩
      have e0 : wk.cell? ⟨ag, q, none⟩ = some (.int .i64 k) := by
        have := intsOf_get l q k hk
        simp [World.cell?, HAG.out, this]
      have HPN : Hid (leave3 i m.loc (m.free, m.ends) (l.take (q + 1)) = leave1 i m.loc P k) := Lib.hid (by rw [leave_snoc hk, HP.out])
      have hkb := HL.out k (List.mem_of_getElem? hk)
      rw [HNL.out, HNE.out] at hkb
      obtain ⟨p0, p1, p2, p3, p4, p5, p6, p7, p8⟩ := hm.ats
      clear hk
      by_cases h0 : ¬ (0 ≤ k)
      · have d0 : decide (0 ≤ k) = false := decide_eq_false h0
        have HE : Hid (leave1 i m.loc P k = P) := Lib.hid (by unfold leave1; rw [if_neg (fun hh => h0 hh.1)])
        clear hm hkb
        go_wp2_with fail
        go_roundw
        case rel => exact ⟨q + 1, fv', by omega, by go_num, by rw [HPN.out, HE.out]; exact HM.out, HKP.out, HFO.out⟩
        case measure => simp [intOf]; omega
      · have h0 : 0 ≤ k := Classical.not_not.1 h0
        obtain ⟨j, rfl⟩ : ∃ j : Nat, k = (j : Int) := ⟨k.toNat, by omega⟩
        have hjl : j < nl := by omega
        have hje : j < ne := by omega
        have d0 : decide ((0 : Int) ≤ (j : Int)) = true := decide_eq_true h0
        have hend := hm.ends
        dsimp only at hend
        rw [hPl.2] at hend
        obtain ⟨e, he⟩ : ∃ e, P.2[j]? = some e := ⟨_, List.getElem?_eq_getElem (by rw [hPl.2]; exact hje)⟩
        obtain ⟨eg, rfl, -, hge, ce, fe⟩ := row_at hend he hje
        by_cases hei : e ≠ (i : Int)
        · have d1 : (e == (i : Int)) = false := by simpa using hei
          have HE : Hid (leave1 i m.loc P (j : Int) = P) := Lib.hid (by unfold leave1; rw [if_neg (fun hh => hei (by rw [← at0_of he]; exact hh.2))])
          clear hm hkb hend he
          go_wp2_with fail
          go_roundw
          case rel => exact ⟨q + 1, fv', by omega, by go_num, by rw [HPN.out, HE.out]; exact HM.out, HKP.out, HFO.out⟩
          case measure => simp [intOf]; omega
        · have hei : e = (i : Int) := Classical.not_not.1 hei
          subst hei
          have HHE := Lib.hid he
          have hloc := hm.loc
          dsimp only at hloc
          rw [HNL.out] at hloc
          obtain ⟨x, hx⟩ : ∃ x, m.loc[j]? = some x := ⟨_, List.getElem?_eq_getElem (by rw [HNL.out]; exact hjl)⟩
          obtain ⟨lg, rfl, -, hgl, cl, -⟩ := row_at hloc hx hjl
          have HE : Hid (leave1 i m.loc P (j : Int) = (P.1 ++ [x], P.2.set j (-2))) := Lib.hid (by
            unfold leave1
            rw [if_pos ⟨h0, at0_of he⟩, at0_of hx, Int.toNat_natCast])
          obtain ⟨FA, fc, rfl, z7, z8⟩ := own_slice hm.free
          dsimp only at z7
          unfold maxLen at z8
          obtain ⟨kf, hkf⟩ : ∃ k, P.1.length = k := ⟨_, rfl⟩
          dsimp only at p8
          rw [hkf] at p8 z7 hPl
          have hfr := hm.free
          dsimp only at hfr
          rw [hkf] at hfr
          have HFR := Lib.hid hfr
          have hbl := hm.lt
          have hBs := hm.size
          have HGR : Hid (∀ w7 gg cap, ((wk.drew).alloc (.cells #[.int .i64 x] 3)).grownBy w7 (Value.slice FA kf fc).ownBlock → w7.ownsRow B 3 1 (.slice (some ⟨gg, 0, none⟩) (kf + 1) cap) (kf + 1) (intsOf P.1 ++ [.int .i64 x]) → ((Value.slice FA kf fc).ownBlock = some gg ∨ gg = wk.heap.size + 1) →
              (w7.cell? ⟨b, 8, none⟩ = some (.slice FA kf fc) ∧ w7.frozen? ⟨b, 8, none⟩ = false) ∧ MkS w0 B b S pv qv (w7.setCell ⟨b, 8, none⟩ (.slice (some ⟨gg, 0, none⟩) (kf + 1) cap)) iv ov (.slice (some ⟨eg, 0, none⟩) ne ec) (.slice (some ⟨lg, 0, none⟩) nl lc) (.slice (some ⟨gg, 0, none⟩) (kf + 1) cap) { m with free := P.1 ++ [x], ends := P.2 } outs ∧
              Kp (fun g => g = b ∨ fv.ownBlock = some g ∨ (Value.slice (some ⟨eg, 0, none⟩) ne ec).ownBlock = some g) W (w7.setCell ⟨b, 8, none⟩ (.slice (some ⟨gg, 0, none⟩) (kf + 1) cap)) ∧ (fv.ownBlock = some gg ∨ W.heap.size ≤ gg)) := Lib.hid (fun w7 gg cap hg hown hat => by
            have hbel : Below wk.heap.size wk ((wk.drew).alloc (.cells #[.int .i64 x] 3)) := (below_new wk _).drew |> fun x => by exact { os := x.os, tape := x.tape, output := x.output, size := x.size, block := x.block }
            have hat2 : (Value.slice FA kf fc).ownBlock = some gg ∨ wk.heap.size ≤ gg := hat.imp id (fun e => by omega)
            have hm2 := hm
            rw [hkf] at hm2
            obtain ⟨g1, g2, g3⟩ := hm2.grow hbel hg (fun g hg => (hm2.free.lt g hg).1) (not_box hm2.free hm2.box (by decide)) 8 (.slice (some ⟨gg, 0, none⟩) (kf + 1) cap)
            have hadd := hm2.addFree hbel hg (gg := gg) (cap := cap) (x := x) (by dsimp only; rw [hkf]; exact hown) hat2
            dsimp only at hadd
            rw [hkf] at hadd
            have hfo2 := HFO.out
            dsimp only at hfo2
            rw [hkf] at hfo2
            have hWk := HKP.out.size
            refine ⟨⟨by simp [World.cell?, g3], by simp [World.frozen?, g3]⟩, hadd, (((HKP.out.drew).alloc _).grown hg (fun k hk hlt => .inr (.inl ((hfo2 k hk).resolve_right (by omega))))).setCell (p := ⟨b, 8, none⟩) (.inl rfl) _, ?_⟩
            rcases hat2 with hh | hh
            · exact hfo2 gg hh
            · exact .inr (by omega))
          clear hm hkb hend hloc hfr he hx
          go_wp2_with fail
          go_region_law (refine step_append_lies _ (by rfl) _ _ _ (by rfl) B 3 i0 _ 1 8 Try.underlying23 hi0 hz0 hz1 hz2 rfl (by omega) (.slice FA kf fc) kf (intsOf P.1) (by rfl) (by exact HFR.out.alloc _) ⟨wk.heap.size, 0, none⟩ 1 1 [.int .i64 x] (by rfl) (by rfl) (World.news_of_block (cs := #[.int .i64 x]) (t := 3) (fr := (0, 0)) (heap_alloc_new _ _)) (by simp [Value.oneCell']) (by omega) (by unfold maxLen; omega) (by omega) (by simp; omega) (wk.heap.size + 1) (by simp) ?_; intro gg cap w7 hown2 hgrow hat hlt; obtain ⟨⟨r0, r1⟩, HG⟩ := HGR.out w7 gg cap hgrow hown2 hat)
          all_goals
            obtain ⟨hm5, hkp5, hfo5⟩ := HG
            have HM6 := Lib.hid (hm5.setEnds j (-2) (by dsimp only; omega))
            obtain ⟨s0, s1, s2, s3, s4, s5, s6, s7, s8⟩ := hm5.ats
            have hend5 := hm5.ends
            dsimp only at hend5
            rw [hPl.2] at hend5
            obtain ⟨eg2, he2, -, hge2, ce2, fe2⟩ := row_at hend5 HHE.out hje
            simp only [Option.some.injEq, Addr.mk.injEq, and_true] at he2
            subst he2
            obtain ⟨w8, hw8⟩ : ∃ W, w7.setCell ⟨b, 8, none⟩ (.slice (some ⟨gg, 0, none⟩) (kf + 1) cap) = W := ⟨_, rfl⟩
            rw [hw8] at HM6 s6 ce2 fe2 hkp5
            have HKP6 : Hid (Kp (fun g => g = b ∨ fv.ownBlock = some g ∨ (Value.slice (some ⟨eg, 0, none⟩) ne ec).ownBlock = some g) W (w8.setCell ⟨eg, j, none⟩ (.int .i64 (-2)))) := Lib.hid (hkp5.setCell (p := ⟨eg, j, none⟩) (.inr (.inr rfl)) _)
            have HFO6 : Hid (∀ g, (Value.slice (some ⟨gg, 0, none⟩) (kf + 1) cap).ownBlock = some g → fv.ownBlock = some g ∨ W.heap.size ≤ g) := Lib.hid (fun g hg => by
              have e2 : some gg = some g := hg
              injection e2 with e2
              subst e2; exact hfo5)
            rw [hw8]
            clear hm5 hkp5 hfo5 s0 s1 s2 s3 s4 s5 s7 s8 hend5 hw8 hown2 hgrow hat hlt r0 r1 p0 p1 p2 p3 p4 p5 p6 p7 p8 ce fe cl e0
            go_wp2_with fail
            go_roundw
            case rel => exact ⟨q + 1, _, by omega, by go_num, by rw [HPN.out, HE.out]; exact HM6.out, HKP6.out, HFO6.out⟩
            case measure => simp [intOf]; omega
    · have hqe : q = n := by omega
      subst hqe
      have HF : Hid (LeavePost W w0 B b S pv qv iv ov (.slice EA ne ec) (.slice LA nl lc) fv m outs i l (.returned (.tuple #[])) wk) := Lib.hid ⟨rfl, fv', by
        have := HP.out
        rw [← HN.out, List.take_length] at this
        rw [this]; exact HM.out, HKP.out⟩
      clear hm
      go_wp2_with fail
      go_end0
      exact HF.out
end Go.Proofs.Ytcphjehjdhgheaa.Nt
