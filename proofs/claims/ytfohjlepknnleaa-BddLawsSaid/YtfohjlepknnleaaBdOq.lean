/- An argument that is a list of calls: what it reads as. Conditions: none. -/
import Derived.Test.YtfohjlepknnleaaBdOp
namespace Go.Proofs.Ytfohjlepknnleaa.Bd
open Go.ChangeShapes Go.WideShapes Go.ChangeAt Go.RowKit Go.Deep
set_option linter.unusedVariables false
set_option linter.unusedSimpArgs false
set_option maxRecDepth 100000

/-- A call of a law. -/
structure Op6 where
  a0 : Int
  a1 : Int
  a2 : Int
  a3 : Int
  a4 : Int
  cb : Bool
instance : Inhabited Op6 := ⟨⟨0, 0, 0, 0, 0, false⟩⟩
def opC6 (o : Op6) : List Value := [.int .i64 o.a0, .int .i64 o.a1, .int .i64 o.a2, .int .i64 o.a3, .int .i64 o.a4, .bool o.cb]
def In64 (n : Int) : Prop := -9223372036854775808 ≤ n ∧ n ≤ 9223372036854775807
theorem in64 {n : Int} (h : (Lit.int .i64 n).wf = true) : In64 n := by
  unfold In64
  simp [Lit.wf] at h
  rw [show IntKind.i64.min = -9223372036854775808 from rfl] at h
  omega
def Op6.ok (o : Op6) : Prop := In64 o.a0 ∧ In64 o.a1 ∧ In64 o.a2 ∧ In64 o.a3 ∧ In64 o.a4
theorem cells37 : Try.prog.cellsOf 37 = 6 := by kernel_rfl
section
variable {H : Type} {enc : TypeId × Value → H} {w : World} {base : Nat} {spare : Nat → Bool} {held : Bool}
theorem int_cells64 (n : Nat) (cs : List Value) (y : DataW H × List MemPlace) (h : DataW.trod enc Try.prog w base spare held n 3 cs = some y) : ∃ a : Int, cs = [Value.int .i64 a] ∧ In64 a := by
  obtain ⟨n0, e0, -, e2⟩ := DataW.trod_int Try.underlying3 h
  exact ⟨n0, e0, in64 e2⟩
theorem op6_cells (n : Nat) (cs : List Value) (y : DataW H × List MemPlace) (h : DataW.trod enc Try.prog w base spare held n 37 cs = some y) : ∃ a : Op6, cs = opC6 a ∧ a.ok := by
  obtain ⟨xs, m, _, _, hlen, hxl, hf⟩ := DataW.trod_struct Try.underlying37 h
  rw [cells37] at hlen
  have hx6 : xs.length = 6 := hxl
  match cs, hlen, xs, hx6 with
  | [c0, c1, c2, c3, c4, c5], _, [y0, y1, y2, y3, y4, y5], _ =>
    have f0 : DataW.trod enc Try.prog w base spare held m 3 [c0] = some y0 := by have := hf 0 _ rfl; simpa [cells3, cells4] using this
    have f1 : DataW.trod enc Try.prog w base spare held m 3 [c1] = some y1 := by have := hf 1 _ rfl; simpa [cells3, cells4] using this
    have f2 : DataW.trod enc Try.prog w base spare held m 3 [c2] = some y2 := by have := hf 2 _ rfl; simpa [cells3, cells4] using this
    have f3 : DataW.trod enc Try.prog w base spare held m 3 [c3] = some y3 := by have := hf 3 _ rfl; simpa [cells3, cells4] using this
    have f4 : DataW.trod enc Try.prog w base spare held m 3 [c4] = some y4 := by have := hf 4 _ rfl; simpa [cells3, cells4] using this
    have f5 : DataW.trod enc Try.prog w base spare held m 4 [c5] = some y5 := by have := hf 5 _ rfl; simpa [cells3, cells4] using this
    obtain ⟨a0, e0, r0⟩ := int_cells64 _ _ _ f0
    obtain ⟨a1, e1, r1⟩ := int_cells64 _ _ _ f1
    obtain ⟨a2, e2, r2⟩ := int_cells64 _ _ _ f2
    obtain ⟨a3, e3, r3⟩ := int_cells64 _ _ _ f3
    obtain ⟨a4, e4, r4⟩ := int_cells64 _ _ _ f4
    obtain ⟨a5, e5⟩ := bool_cells _ _ _ f5
    simp only [List.cons.injEq, and_true] at e0 e1 e2 e3 e4 e5
    subst e0 e1 e2 e3 e4 e5
    exact ⟨⟨a0, a1, a2, a3, a4, a5⟩, rfl, r0, r1, r2, r3, r4⟩
end
/-- A slice that reads as a list of calls. -/
def OpsIn (w : World) (v : Value) (l : List Op6) : Prop :=
  ∃ A c, v = .slice A l.length c ∧ l.length ≤ c ∧ c ≤ maxLen ∧ ∀ (i : Nat) (a : Op6), l[i]? = some a → a.ok ∧ ∃ (g o : Nat), A = some ⟨g, o, none⟩ ∧ g < w.heap.size ∧ w.cell? ⟨g, o + i * 6, none⟩ = some (.int .i64 a.a0) ∧ w.cell? ⟨g, o + i * 6 + 1, none⟩ = some (.int .i64 a.a1) ∧ w.cell? ⟨g, o + i * 6 + 2, none⟩ = some (.int .i64 a.a2) ∧ w.cell? ⟨g, o + i * 6 + 3, none⟩ = some (.int .i64 a.a3) ∧ w.cell? ⟨g, o + i * 6 + 4, none⟩ = some (.int .i64 a.a4) ∧ w.cell? ⟨g, o + i * 6 + 5, none⟩ = some (.bool a.cb)
theorem OpsIn.below {w w' : World} {v : Value} {l : List Op6} (h : OpsIn w v l) (hb : Below w.heap.size w w') : OpsIn w' v l := by
  obtain ⟨A, c, rfl, h1, h2, h3⟩ := h
  refine ⟨A, c, rfl, h1, h2, fun i a hi => ?_⟩
  obtain ⟨ok, g, o, e, hlt, c0, c1, c2, c3, c4, c5⟩ := h3 i a hi
  have hs := hb.size
  exact ⟨ok, g, o, e, by omega, (hb.cell hlt).trans c0, (hb.cell hlt).trans c1, (hb.cell hlt).trans c2, (hb.cell hlt).trans c3, (hb.cell hlt).trans c4, (hb.cell hlt).trans c5⟩
section
variable {H : Type} {enc : TypeId × Value → H} {w : World} {base : Nat} {spare : Nat → Bool} {held : Bool}
theorem open_ops {r : Reach} {b0 : Nat} {v : Value} {d : DataW H} {p : List MemPlace} (hv : Value.okWide Try.prog w r b0 22 v) (h : DataW.Trod enc Try.prog w base spare held 22 v d p) : ∃ l, OpsIn w v l := by
  obtain ⟨a0, len, cap, rfl⟩ := okWide_slice Try.underlying22 hv
  obtain ⟨fuel, hf⟩ := h
  obtain ⟨u, l, hcs, h1⟩ := trod_row (R := fun (a : Op6) x => x = opC6 a ∧ a.ok) Try.underlying22 cells37 (by omega) op6_cells hf
  simp [Value.cells] at hcs
  subst hcs
  obtain ⟨A, c, e, h1, h2, h3⟩ := h1
  refine ⟨l, A, c, e, h1, h2, fun i a hi => ?_⟩
  obtain ⟨g, o, cs, hA, hg, ⟨rfl, ok⟩, -, hc⟩ := h3 i a hi
  exact ⟨ok, g, o, hA, hg, hc 0 (by omega), hc 1 (by omega), hc 2 (by omega), hc 3 (by omega), hc 4 (by omega), hc 5 (by omega)⟩
end
end Go.Proofs.Ytfohjlepknnleaa.Bd
