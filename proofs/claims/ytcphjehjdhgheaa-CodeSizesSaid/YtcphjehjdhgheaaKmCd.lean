/- What lays instructions: one operator's. Conditions: few of all. -/
import Derived.Test.YtcphjehjdhgheaaKmB
import Derived.Test.YtcphjehjdhgheaaNtR
import Derived.Deep.RegionHeld3
namespace Go.Proofs.Ytcphjehjdhgheaa.Nt
open Go.ChangeShapes Go.WideShapes Go.ChangeAt Go.RowKit Go.Proofs.Ytcphjehjdhgheaa.Tr
set_option linter.unusedVariables false
set_option linter.unusedSimpArgs false

variable {w0 W W' : World} {B b : Nat} {S : Net} {pv qv iv ov ev lv fv : Value} {m : Mk} {outs : List Int}
theorem infoK : (Try.prog.info? 109).map (fun i => (i.zero, i.size, i.bytes)) = some (some (.agg #[.int .i64 0, .int .i64 0, .int .i64 0, .int .i64 0, .int .i64 0, .int .i64 0]), 6, 48) := by kernel_rfl
theorem not_ins {w : World} {X B n s : Nat} {T : TypeId} {v : Value} {xs : List Value} {y : Ins6} (h : w.ownsRow B T s v n xs) (hx : InsBox w X 109 y) (hT : T ≠ 109) : v.ownBlock ≠ some X := fun e => by
  obtain ⟨cs', hc⟩ := own_cells h e
  rw [hx.cell] at hc; simp at hc; exact hT hc.2.symm
/-- A cell of an instruction's box. -/
theorem MkS.setIns (h : MkS w0 B b S pv qv W iv ov ev lv fv m outs) {X : Nat} {y : Ins6} (hx : InsBox W X 109 y) (hxB : B ≤ X) (hiv : iv.ownBlock ≠ some X) (k : Nat) (v : Value) : MkS w0 B b S pv qv (W.setCell ⟨X, k, none⟩ v) iv ov ev lv fv m outs := by
  have hk : ∀ g, g ≠ X → (W.setCell ⟨X, k, none⟩ v).heap[g]? = W.heap[g]? := fun g hg => Below.heap_setCell _ _ _ _ hg
  have o := fun {T n s u xs} (r : W.ownsRow B T s u n xs) (hu : u.ownBlock ≠ some X) => own_block (w' := W.setCell ⟨X, k, none⟩ v) r (fun g hg => hk g (fun e => hu (by rw [← e]; exact hg)))
  have hbX : b ≠ X := fun e => by
    have := h.box
    rw [e, hx.cell] at this
    simp at this
  exact ⟨(hk b hbX).trans h.box, h.hb, h.lo, h.old.setCell (p := ⟨X, k, none⟩) hxB _, o h.ins hiv, o h.outs (not_ins h.outs hx (by decide)), o h.ends (not_ins h.ends hx (by decide)), o h.loc (not_ins h.loc hx (by decide)), o h.free (not_ins h.free hx (by decide)), h.sep, h.ops, h.inp⟩
theorem MkS.neIns (h : MkS w0 B b S pv qv W iv ov ev lv fv m outs) {X : Nat} {y : Ins6} (hx : InsBox W X 109 y) : b ≠ X := fun e => by
  have := h.box
  rw [e, hx.cell] at this
  simp at this
theorem InsBox.set {w : World} {X T : Nat} {o d a b c n : Int} (h : InsBox w X T ⟨o, d, a, b, c, n⟩) (v : Int) : InsBox (w.setCell ⟨X, 1, none⟩ (.int .i64 v)) X T ⟨o, v, a, b, c, n⟩ ∧ InsBox (w.setCell ⟨X, 5, none⟩ (.int .i64 v)) X T ⟨o, d, a, b, c, v⟩ := by
  have := h.cell
  refine ⟨⟨?_⟩, ⟨?_⟩⟩ <;> simp [World.setCell, Array.getElem?_modify, this]
theorem InsBox.set3 {w : World} {X T : Nat} {o d a b c n : Int} (h : InsBox w X T ⟨o, d, a, b, c, n⟩) (x y z : Int) : InsBox (((w.setCell ⟨X, 2, none⟩ (.int .i64 x)).setCell ⟨X, 3, none⟩ (.int .i64 y)).setCell ⟨X, 4, none⟩ (.int .i64 z)) X T ⟨o, d, x, y, z, n⟩ := by
  have := h.cell
  refine ⟨?_⟩
  simp [World.setCell, Array.getElem?_modify, this]
theorem InsBox.fzs {w : World} {b T : Nat} {x : Ins6} (h : InsBox w b T x) : w.frozen? ⟨b, 1, none⟩ = false ∧ w.frozen? ⟨b, 2, none⟩ = false ∧ w.frozen? ⟨b, 3, none⟩ = false ∧ w.frozen? ⟨b, 4, none⟩ = false ∧ w.frozen? ⟨b, 5, none⟩ = false := by
  have := h.cell
  refine ⟨?_, ?_, ?_, ?_, ?_⟩ <;> simp [World.frozen?, this]
theorem InsBox.keep {w w' : World} {b T : Nat} {x : Ins6} (h : InsBox w b T x) (hb : w'.heap[b]? = w.heap[b]?) : InsBox w' b T x := ⟨hb.trans h.cell⟩
def LayPost (w0 : World) (B b : Nat) (S : Net) (pv qv ov ev : Value) (m' : Mk) (outs : List Int) (e : Ending) (w' : World) : Prop :=
  e = .returned (.tuple #[]) ∧ ∃ iv' lv' fv', MkS w0 B b S pv qv w' iv' ov ev lv' fv' m' outs
theorem MkS.exc (h : MkS w0 B b S pv qv W iv ov ev lv fv m outs) {X : Nat} {y : Ins6} (hx : InsBox W X 109 y) (hiv : iv.ownBlock ≠ some X) (ho : Below B w0 W') (hk : ∀ g, g ≠ X → W'.heap[g]? = W.heap[g]?) : MkS w0 B b S pv qv W' iv ov ev lv fv m outs := by
  have o := fun {T n s u xs} (r : W.ownsRow B T s u n xs) (hu : u.ownBlock ≠ some X) => own_block (w' := W') r (fun g hg => hk g (fun e => hu (by rw [← e]; exact hg)))
  exact ⟨(hk b (h.neIns hx)).trans h.box, h.hb, h.lo, ho, o h.ins hiv, o h.outs (not_ins h.outs hx (by decide)), o h.ends (not_ins h.ends hx (by decide)), o h.loc (not_ins h.loc hx (by decide)), o h.free (not_ins h.free hx (by decide)), h.sep, h.ops, h.inp⟩
end Go.Proofs.Ytcphjehjdhgheaa.Nt
