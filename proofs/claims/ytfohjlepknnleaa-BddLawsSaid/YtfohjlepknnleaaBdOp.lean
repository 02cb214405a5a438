/- Arguments: values of variables, and what they are asked of: what they read as. Conditions: none. -/
import Derived.Test.YtfohjlepknnleaaBdNf
import Derived.Deep.Slices
import Derived.WideShapes
import Derived.OpenShut
import Derived.ChangeArms
import Derived.Carry
namespace Go.Proofs.Ytfohjlepknnleaa.Bd
open Go.ChangeShapes Go.WideShapes Go.ChangeAt Go.RowKit Go.Deep
set_option linter.unusedVariables false
set_option linter.unusedSimpArgs false
set_option maxRecDepth 100000

/-- A slice that reads as a list: K cells for each of its elements, wherever it lies. -/
def RowN {α : Type} (K : Nat) (R : α → List Value → Prop) (w : World) (l : List α) (v : Value) : Prop :=
  ∃ A c, v = .slice A l.length c ∧ l.length ≤ c ∧ c ≤ maxLen ∧ ∀ (i : Nat) (a : α), l[i]? = some a → ∃ (g o : Nat) (x : List Value), A = some ⟨g, o, none⟩ ∧ g < w.heap.size ∧ R a x ∧ x.length = K ∧ ∀ k, k < K → w.cell? ⟨g, o + i * K + k, none⟩ = x[k]?
theorem cells3 : Try.prog.cellsOf 3 = 1 := by kernel_rfl
theorem cells4 : Try.prog.cellsOf 4 = 1 := by kernel_rfl
theorem cells28 : Try.prog.cellsOf 28 = 1 := by kernel_rfl
theorem cells42 : Try.prog.cellsOf 42 = 4 := by kernel_rfl
theorem spot_none' {w : World} {a : Addr} {v : Value} (h : w.cell? (a.add 0) = some v) : ∃ g o, a = ⟨g, o, none⟩ ∧ g < w.heap.size := by
  obtain ⟨g, o, spot⟩ := a
  have hspot : spot = none := by simpa [Addr.add] using World.cell?_spot h
  subst hspot
  exact ⟨g, o, rfl, World.block_lt_of_cell? w _ h⟩
theorem add_none' (g o k : Nat) : (⟨g, o, none⟩ : Addr).add k = ⟨g, o + k, none⟩ := by unfold Addr.add; split <;> simp_all
section
variable {H : Type} {enc : TypeId × Value → H} {w : World} {base : Nat} {spare : Nat → Bool} {held : Bool}
/-- A slice of any type whose elements read as something reads as a list of these. -/
theorem trod_row {α : Type} [Inhabited α] {t e : TypeId} {K : Nat} {R : α → List Value → Prop} (ht : Try.prog.underlying t = some (.slice e)) (hK : Try.prog.cellsOf e = K) (hK0 : 0 < K)
    (one : ∀ (n : Nat) (cs : List Value) (y : DataW H × List MemPlace), DataW.trod enc Try.prog w base spare held n e cs = some y → ∃ a, R a cs)
    {n : Nat} {cs : List Value} {y : DataW H × List MemPlace} (h : DataW.trod enc Try.prog w base spare held n t cs = some y) : ∃ v l, cs = [v] ∧ RowN K R w l v := by
  rcases open_slice ht h with ⟨rfl, _⟩ | ⟨a, len, cap, m, n', D, Pl, rfl, hb, hl, hm, hmm, _, hi⟩
  · exact ⟨_, [], rfl, none, 0, rfl, by simp, by unfold maxLen; omega, fun i t h => by simp at h⟩
  · have hml : len ≤ m := by rw [hmm]; split <;> omega
    have each : ∀ i, i < len → ∃ x : α × List Value, R x.1 x.2 ∧ x.2.length = K ∧ ∀ k, k < K → w.cell? (a.add (i * K + k)) = x.2[k]? := fun i hil => by
      obtain ⟨cs', hc, ht'⟩ := hi i (by omega)
      obtain ⟨x, hx⟩ := one _ _ _ ht'
      obtain ⟨_, hcl, hat⟩ := World.cells?_some hc
      rw [hK] at hat hcl
      exact ⟨(x, cs'), hx, hcl, fun k hk => by rw [← Go.Deep.add_add]; exact hat k hk⟩
    obtain ⟨X, hX⟩ := Go.Deep.choose_lt each
    refine ⟨_, (List.range len).map fun i => (X i).1, rfl, some a, cap, by simp, by simpa using hl, hm, fun i x hx => ?_⟩
    have hil : i < len := by have := (List.getElem?_eq_some_iff.1 hx).1; simpa using this
    rw [List.getElem?_map, List.getElem?_range hil] at hx
    simp only [Option.map_some, Option.some.injEq] at hx
    subst hx
    obtain ⟨_, l0, h0⟩ := hX 0 (by omega)
    have h0 := h0 0 hK0
    rw [List.getElem?_eq_getElem (by omega), Nat.zero_mul] at h0
    obtain ⟨g, o, rfl, hg⟩ := spot_none' h0
    obtain ⟨q1, q2, q3⟩ := hX i hil
    refine ⟨g, o, (X i).2, rfl, hg, q1, q2, fun k hk => ?_⟩
    have := q3 k hk
    rw [add_none'] at this
    rw [Nat.add_assoc]; exact this
theorem int_cells (n : Nat) (cs : List Value) (y : DataW H × List MemPlace) (h : DataW.trod enc Try.prog w base spare held n 3 cs = some y) : ∃ a : Int, cs = [Value.int .i64 a] := by
  obtain ⟨n0, e0, -, -⟩ := DataW.trod_int Try.underlying3 h
  exact ⟨n0, e0⟩
theorem bool_cells (n : Nat) (cs : List Value) (y : DataW H × List MemPlace) (h : DataW.trod enc Try.prog w base spare held n 4 cs = some y) : ∃ a : Bool, cs = [Value.bool a] := by
  obtain ⟨n0, e0, -⟩ := DataW.trod_bool Try.underlying4 h
  exact ⟨n0, e0⟩
theorem BoolsAt.of_rowN {v : Value} {l : List Bool} (h : RowN 1 (fun (a : Bool) x => x = [Value.bool a]) w l v) : BoolsAt w v l ∧ l.length ≤ maxLen := by
  obtain ⟨A, c, e, h1, h2, h3⟩ := h
  refine ⟨⟨A, c, e, fun i x hi => ?_⟩, by omega⟩
  obtain ⟨g, o, cs, hA, hg, rfl, -, hc⟩ := h3 i x hi
  have := hc 0 (by omega)
  rw [Nat.mul_one, Nat.add_zero] at this
  exact ⟨g, o, hA, this⟩
/-- How many variables, a function, a variable, values. -/
theorem open_strange {r : Reach} {b0 : Nat} {v : Value} {d : DataW H} {p : List MemPlace} (hv : Value.okWide Try.prog w r b0 42 v) (h : DataW.Trod enc Try.prog w base spare held 42 v d p) :
    ∃ (a0 a1 a2 : Int) (av : Value) (l : List Bool), v = .agg #[.int .i64 a0, .int .i64 a1, .int .i64 a2, av] ∧ BoolsAt w av l ∧ l.length ≤ maxLen := by
  obtain ⟨cs, rfl, hsz⟩ := okWide_struct Try.underlying42 hv
  obtain ⟨fuel, hf⟩ := h
  obtain ⟨l⟩ := cs
  simp only [Value.cells] at hf
  obtain ⟨xs, m, _, _, hlen, hxl, hf⟩ := DataW.trod_struct Try.underlying42 hf
  rw [cells42] at hlen
  have hx6 : xs.length = 4 := hxl
  match l, hlen, xs, hx6 with
  | [c0, c1, c2, c3], _, [y0, y1, y2, y3], _ =>
    have f0 : DataW.trod enc Try.prog w base spare held m 3 [c0] = some y0 := by have := hf 0 _ rfl; simpa [cells3, cells28] using this
    have f1 : DataW.trod enc Try.prog w base spare held m 3 [c1] = some y1 := by have := hf 1 _ rfl; simpa [cells3, cells28] using this
    have f2 : DataW.trod enc Try.prog w base spare held m 3 [c2] = some y2 := by have := hf 2 _ rfl; simpa [cells3, cells28] using this
    have f3 : DataW.trod enc Try.prog w base spare held m 28 [c3] = some y3 := by have := hf 3 _ rfl; simpa [cells3, cells28] using this
    obtain ⟨a0, e0⟩ := int_cells _ _ _ f0
    obtain ⟨a1, e1⟩ := int_cells _ _ _ f1
    obtain ⟨a2, e2⟩ := int_cells _ _ _ f2
    obtain ⟨v3, l3, e3, h3⟩ := trod_row (R := fun (a : Bool) x => x = [Value.bool a]) Try.underlying28 cells4 (by omega) bool_cells f3
    simp only [List.cons.injEq, and_true] at e0 e1 e2 e3
    subst e0 e1 e2 e3
    obtain ⟨q1, q2⟩ := BoolsAt.of_rowN h3
    exact ⟨a0, a1, a2, c3, l3, rfl, q1, q2⟩
end
end Go.Proofs.Ytfohjlepknnleaa.Bd
