/- Arguments that are numbers and rows of numbers: what they read as. Conditions: none. -/
import Derived.Test.YtgngdkbcndldfaaDoorFaB
import Derived.Deep.Slices
import Derived.WideShapes
import Derived.OpenShut
import Derived.ChangeArms
import Derived.Carry
namespace Go.Proofs.YtgngdkbcndldfaaDoor.Fr
open Go.ChangeShapes Go.WideShapes Go.ChangeAt Go.RowKit Go.Deep Go.Proofs.YtgngdkbcndldfaaDoor.Tr
set_option linter.unusedVariables false
set_option linter.unusedSimpArgs false
set_option maxRecDepth 100000

/-- A slice that reads as a list: K cells for each of its elements, wherever it lies. -/
def RowN {α : Type} (K : Nat) (R : α → List Value → Prop) (w : World) (l : List α) (v : Value) : Prop :=
  ∃ A c, v = .slice A l.length c ∧ l.length ≤ c ∧ c ≤ maxLen ∧ ∀ (i : Nat) (a : α), l[i]? = some a → ∃ (g o : Nat) (x : List Value), A = some ⟨g, o, none⟩ ∧ g < w.heap.size ∧ R a x ∧ x.length = K ∧ ∀ k, k < K → w.cell? ⟨g, o + i * K + k, none⟩ = x[k]?
theorem cells3 : Tryd.prog.cellsOf 3 = 1 := by kernel_rfl
theorem cells22 : Tryd.prog.cellsOf 22 = 1 := by kernel_rfl
theorem spot_none' {w : World} {a : Addr} {v : Value} (h : w.cell? (a.add 0) = some v) : ∃ g o, a = ⟨g, o, none⟩ ∧ g < w.heap.size := by
  obtain ⟨g, o, spot⟩ := a
  have hspot : spot = none := by simpa [Addr.add] using World.cell?_spot h
  subst hspot
  exact ⟨g, o, rfl, World.block_lt_of_cell? w _ h⟩
theorem add_none' (g o k : Nat) : (⟨g, o, none⟩ : Addr).add k = ⟨g, o + k, none⟩ := by unfold Addr.add; split <;> simp_all
section
variable {H : Type} {enc : TypeId × Value → H} {w : World} {base : Nat} {spare : Nat → Bool} {held : Bool}
/-- A slice of any type whose elements read as something reads as a list of these. -/
theorem trod_row {α : Type} [Inhabited α] {t e : TypeId} {K : Nat} {R : α → List Value → Prop} (ht : Tryd.prog.underlying t = some (.slice e)) (hK : Tryd.prog.cellsOf e = K) (hK0 : 0 < K)
    (one : ∀ (n : Nat) (cs : List Value) (y : DataW H × List MemPlace), DataW.trod enc Tryd.prog w base spare held n e cs = some y → ∃ a, R a cs)
    {n : Nat} {cs : List Value} {y : DataW H × List MemPlace} (h : DataW.trod enc Tryd.prog w base spare held n t cs = some y) : ∃ v l, cs = [v] ∧ RowN K R w l v := by
  rcases open_slice ht h with ⟨rfl, _⟩ | ⟨a, len, cap, m, n', D, Pl, rfl, hb, hl, hm, hmm, _, hi⟩
  · exact ⟨_, [], rfl, none, 0, rfl, by simp, by unfold maxLen; omega, fun i t h => by simp at h⟩
  · have hml : len ≤ m := by rw [hmm]; split <;> omega
    have each : ∀ i, i < len → ∃ x : α × List Value, R x.1 x.2 ∧ x.2.length = K ∧ ∀ k, k < K → w.cell? (a.add (i * K + k)) = x.2[k]? := fun i hil => by
      obtain ⟨cs', hc, ht'⟩ := hi i (by omega)
      obtain ⟨x, hx⟩ := one _ _ _ ht'
      obtain ⟨_, hcl, hat⟩ := World.cells?_some hc
      rw [hK] at hat hcl
      exact ⟨(x, cs'), hx, hcl, fun k hk => by rw [← Go.Deep.add_add]; exact hat k hk⟩
    obtain ⟨X, hX⟩ := Go.Deep.choose_lt each
    refine ⟨_, (List.range len).map fun i => (X i).1, rfl, some a, cap, by simp, by simpa using hl, hm, fun i x hx => ?_⟩
    have hil : i < len := by have := (List.getElem?_eq_some_iff.1 hx).1; simpa using this
    rw [List.getElem?_map, List.getElem?_range hil] at hx
    simp only [Option.map_some, Option.some.injEq] at hx
    subst hx
    obtain ⟨_, l0, h0⟩ := hX 0 (by omega)
    have h0 := h0 0 hK0
    rw [List.getElem?_eq_getElem (by omega), Nat.zero_mul] at h0
    obtain ⟨g, o, rfl, hg⟩ := spot_none' h0
    obtain ⟨q1, q2, q3⟩ := hX i hil
    refine ⟨g, o, (X i).2, rfl, hg, q1, q2, fun k hk => ?_⟩
    have := q3 k hk
    rw [add_none'] at this
    rw [Nat.add_assoc]; exact this
theorem int_cells (n : Nat) (cs : List Value) (y : DataW H × List MemPlace) (h : DataW.trod enc Tryd.prog w base spare held n 3 cs = some y) : ∃ a : Int, cs = [Value.int .i64 a] := by
  obtain ⟨n0, e0, -, -⟩ := DataW.trod_int Tryd.underlying3 h
  exact ⟨n0, e0⟩
theorem Ints.of_rowN {v : Value} {l : List Int} (h : RowN 1 (fun (a : Int) x => x = [Value.int .i64 a]) w l v) : Ints w v l := by
  obtain ⟨A, c, e, h1, h2, h3⟩ := h
  refine ⟨A, c, e, h1, h2, fun i x hi => ?_⟩
  obtain ⟨g, o, cs, hA, hg, rfl, -, hc⟩ := h3 i x hi
  have := hc 0 (by omega)
  rw [Nat.mul_one, Nat.add_zero] at this
  exact ⟨g, o, hA, hg, this⟩
theorem open_ints {r : Reach} {b0 : Nat} {v : Value} {d : DataW H} {p : List MemPlace} (hv : Value.okWide Tryd.prog w r b0 22 v) (h : DataW.Trod enc Tryd.prog w base spare held 22 v d p) : ∃ l, Ints w v l := by
  obtain ⟨a0, len, cap, rfl⟩ := okWide_slice Tryd.underlying22 hv
  obtain ⟨fuel, hf⟩ := h
  obtain ⟨u, l, hcs, h1⟩ := trod_row (R := fun (a : Int) x => x = [Value.int .i64 a]) Tryd.underlying22 cells3 (by omega) int_cells hf
  simp [Value.cells] at hcs
  subst hcs
  exact ⟨l, Ints.of_rowN h1⟩
theorem row_cells (n : Nat) (cs : List Value) (y : DataW H × List MemPlace) (h : DataW.trod enc Tryd.prog w base spare held n 22 cs = some y) : ∃ a : List Int, ∃ u, cs = [u] ∧ Ints w u a := by
  obtain ⟨u, l, hcs, h1⟩ := trod_row (R := fun (a : Int) x => x = [Value.int .i64 a]) Tryd.underlying22 cells3 (by omega) int_cells h
  exact ⟨l, u, hcs, Ints.of_rowN h1⟩
theorem open_rows {r : Reach} {b0 : Nat} {v : Value} {d : DataW H} {p : List MemPlace} (hv : Value.okWide Tryd.prog w r b0 24 v) (h : DataW.Trod enc Tryd.prog w base spare held 24 v d p) : ∃ l, RowsR w v l := by
  obtain ⟨a0, len, cap, rfl⟩ := okWide_slice Tryd.underlying24 hv
  obtain ⟨fuel, hf⟩ := h
  obtain ⟨u, l, hcs, h1⟩ := trod_row (R := fun (a : List Int) x => ∃ u, x = [u] ∧ Ints w u a) Tryd.underlying24 cells22 (by omega) row_cells hf
  simp [Value.cells] at hcs
  subst hcs
  refine ⟨l, ?_⟩
  obtain ⟨A, c, e, h1, h2, h3⟩ := h1
  refine ⟨A, c, e, h1, h2, fun i r hi => ?_⟩
  obtain ⟨g, o, cs, hA, hg, ⟨u, rfl, hI⟩, -, hc⟩ := h3 i r hi
  have := hc 0 (by omega)
  rw [Nat.mul_one, Nat.add_zero] at this
  exact ⟨g, o, u, hA, hg, this, hI⟩
end
end Go.Proofs.YtgngdkbcndldfaaDoor.Fr
