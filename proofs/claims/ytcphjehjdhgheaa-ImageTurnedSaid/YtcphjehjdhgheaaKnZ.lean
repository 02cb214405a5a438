/- Told and Check of code: answers whose slices are spelled out. Conditions: the lengths' bounds. -/
import Derived.Test.YtcphjehjdhgheaaKdA
import Derived.Test.YtcphjehjdhgheaaKcD
import Derived.Test.YtcphjehjdhgheaaKnW
namespace Go.Proofs.Ytcphjehjdhgheaa.Nt
open Go.ChangeShapes Go.WideShapes Go.ChangeAt Go.RowKit Go.Proofs.Ytcphjehjdhgheaa.Tr
set_option linter.unusedVariables false
set_option linter.unusedSimpArgs false

/-- Code whose sizes are these. -/
structure Sz (C : Cod) (li : Nat) (rg sl : Int) (lo lq : Nat) : Prop where
  ins : C.ins.length = li
  regs : C.regs = rg
  slots : C.slots = sl
  outs : C.outs.length = lo
  inp : C.inp.length = lq
theorem mtold_lit (w : World) (A : Option Addr) (c : Nat) (ov pv : Value) (C : Cod) (li : Nat) (rg sl : Int) (lo lq : Nat) (hz : Sz C li rg sl lo lq) (h : CodR w (.slice A li c) ov pv C) (hn3 : li ≤ 1000) :
    Calls Try.prog 38 #[.agg #[.slice A li c, .int .i64 rg, .int .i64 sl, ov, pv]] w (fun e w' => ∃ A' c', e = .returned (.agg #[.slice A' li c', .int .i64 rg, .int .i64 sl, ov, pv]) ∧ CodR w' (.slice A' li c') ov pv C ∧ Below w.heap.size w w') := by
  obtain ⟨rfl, rfl, rfl, rfl, rfl⟩ := hz
  refine (mtold_any w _ _ _ C h hn3).mono ?_
  rintro e w' ⟨iv', rfl, hi, hb⟩
  obtain ⟨A', c', rfl, -, -⟩ := hi.form
  exact ⟨A', c', rfl, ⟨hi, h.2.1.below hb (Nat.le_refl _), h.2.2.below hb (Nat.le_refl _)⟩, hb⟩
theorem ccheck_lit (w : World) (iv ov pv : Value) (C : Cod) (li : Nat) (rg sl : Int) (lo lq : Nat) (hz : Sz C li rg sl lo lq) (h : CodR w iv ov pv C) (hw : CodW C) (K : Int) (hK : checkK C = K) :
    Calls Try.prog 33 #[.agg #[iv, .int .i64 rg, .int .i64 sl, ov, pv]] w (fun e w' => e = .returned (.int .i64 K) ∧ Below w.heap.size w w') := by
  obtain ⟨rfl, rfl, rfl, rfl, rfl⟩ := hz
  rw [← hK]
  exact ccheck_any w iv ov pv C h hw
abbrev nilW : Value := .slice none 0 0
theorem cod_nilW (w : World) : CodR w nilW nilW nilW emptyC := ⟨⟨none, 0, rfl, Nat.le_refl _, by unfold maxLen; omega, fun i x h => by simp [emptyC] at h⟩, ints_nil w, ints_nil w⟩
end Go.Proofs.Ytcphjehjdhgheaa.Nt
