/- Arguments that are lists of nodes, of lists of nodes, of texts, and nodes: what they read as. Conditions: none. -/
import Derived.Test.YtmggedjolocgdaaTreeX
import Derived.Test.YtmggedjolocgdaaTreeCa
import Derived.Deep.Slices
import Derived.ChangeArms
import Derived.SliceStrings
import Derived.Carry
namespace Go.Proofs.Ytmggedjolocgdaa.Tr
open Go.ChangeShapes Go.WideShapes Go.ChangeAt Go.RowKit Go.Deep
set_option linter.unusedVariables false
set_option linter.unusedSimpArgs false

/-- Each name is as long as a text may be. -/
def Short (e : List Nd) : Prop := ∀ x ∈ e, x.name.length ≤ maxLen
theorem cells3 : Try.prog.cellsOf 3 = 1 := by kernel_rfl
theorem cells9 : Try.prog.cellsOf 9 = 1 := by kernel_rfl
theorem cells23 : Try.prog.cellsOf 23 = 1 := by kernel_rfl
theorem cells30 : Try.prog.cellsOf 30 = 6 := by kernel_rfl
section
variable {H : Type} {enc : TypeId × Value → H} {w : World} {base : Nat} {spare : Nat → Bool} {held : Bool}
theorem node_cells {n : Nat} {cs : List Value} {y : DataW H × List MemPlace} (h : DataW.trod enc Try.prog w base spare held n 30 cs = some y) : ∃ x : Nd, cs = ndCells x ∧ x.name.length ≤ maxLen := by
  obtain ⟨xs, m, _, _, hlen, hxl, hf⟩ := DataW.trod_struct Try.underlying30 h
  rw [cells30] at hlen
  have hx6 : xs.length = 6 := hxl
  match cs, hlen, xs, hx6 with
  | [c0, c1, c2, c3, c4, c5], _, [y0, y1, y2, y3, y4, y5], _ =>
    have f0 : DataW.trod enc Try.prog w base spare held m 3 [c0] = some y0 := by have := hf 0 _ rfl; simpa [cells3, cells9] using this
    have f1 : DataW.trod enc Try.prog w base spare held m 3 [c1] = some y1 := by have := hf 1 _ rfl; simpa [cells3, cells9] using this
    have f2 : DataW.trod enc Try.prog w base spare held m 3 [c2] = some y2 := by have := hf 2 _ rfl; simpa [cells3, cells9] using this
    have f3 : DataW.trod enc Try.prog w base spare held m 3 [c3] = some y3 := by have := hf 3 _ rfl; simpa [cells3, cells9] using this
    have f4 : DataW.trod enc Try.prog w base spare held m 3 [c4] = some y4 := by have := hf 4 _ rfl; simpa [cells3, cells9] using this
    have f5 : DataW.trod enc Try.prog w base spare held m 9 [c5] = some y5 := by have := hf 5 _ rfl; simpa [cells3, cells9] using this
    obtain ⟨n0, e0, -, -⟩ := DataW.trod_int Try.underlying3 f0
    obtain ⟨n1, e1, -, -⟩ := DataW.trod_int Try.underlying3 f1
    obtain ⟨n2, e2, -, -⟩ := DataW.trod_int Try.underlying3 f2
    obtain ⟨n3, e3, -, -⟩ := DataW.trod_int Try.underlying3 f3
    obtain ⟨n4, e4, -, -⟩ := DataW.trod_int Try.underlying3 f4
    obtain ⟨s, e5, -, hs⟩ := DataW.trod_string Try.underlying9 f5
    simp only [List.cons.injEq, and_true] at e0 e1 e2 e3 e4 e5
    subst e0 e1 e2 e3 e4 e5
    refine ⟨⟨n0, n1, n2, n3, n4, s.toList⟩, by unfold ndCells; rw [str_of], ?_⟩
    rw [ByteArray.toList_eq]; simpa using hs
theorem spot_none {a : Addr} {v : Value} (h : w.cell? (a.add 0) = some v) : ∃ g o, a = ⟨g, o, none⟩ ∧ g < w.heap.size := by
  obtain ⟨g, o, spot⟩ := a
  have hspot : spot = none := by simpa [Addr.add] using World.cell?_spot h
  subst hspot
  exact ⟨g, o, rfl, World.block_lt_of_cell? w _ h⟩
theorem add_none (g o k : Nat) : (⟨g, o, none⟩ : Addr).add k = ⟨g, o + k, none⟩ := by unfold Addr.add; split <;> simp_all
/-- A slice of nodes reads as a list of nodes. -/
theorem trod_nodes {n : Nat} {t : TypeId} (ht : Try.prog.underlying t = some (.slice 30)) {cs : List Value} {y : DataW H × List MemPlace} (h : DataW.trod enc Try.prog w base spare held n t cs = some y) :
    ∃ v l, cs = [v] ∧ Nodes w v l ∧ Short l ∧ ∀ c, v = .slice none 0 c → c = 0 := by
  rcases open_slice ht h with ⟨rfl, _⟩ | ⟨a, len, cap, m, n', D, Pl, rfl, hb, hl, hm, hmm, _, hi⟩
  · exact ⟨_, [], rfl, ⟨none, 0, rfl, by simp, by unfold maxLen; omega, fun i t h => by simp at h⟩, fun x hx => by simp at hx, fun c hc => by simp at hc; exact hc.symm⟩
  · have hml : len ≤ m := by rw [hmm]; split <;> omega
    have each : ∀ i, i < len → ∃ x : Nd, x.name.length ≤ maxLen ∧ ∀ k, k < 6 → w.cell? (a.add (i * 6 + k)) = (ndCells x)[k]? := fun i hil => by
      obtain ⟨cs', hc, ht'⟩ := hi i (by omega)
      obtain ⟨x, rfl, hx⟩ := node_cells ht'
      obtain ⟨_, hcl, hat⟩ := World.cells?_some hc
      rw [cells30] at hat
      exact ⟨x, hx, fun k hk => by rw [← Go.Deep.add_add]; exact hat k hk⟩
    obtain ⟨X, hX⟩ := Go.Deep.choose_lt each
    refine ⟨_, (List.range len).map X, rfl, ⟨some a, cap, by simp, by simpa using hl, hm, fun i x hx => ?_⟩, fun x hx => ?_, fun c hc => by simp at hc⟩
    · have hil : i < len := by have := (List.getElem?_eq_some_iff.1 hx).1; simpa using this
      rw [List.getElem?_map, List.getElem?_range hil] at hx
      simp only [Option.map_some, Option.some.injEq] at hx
      subst hx
      have h0 := (hX 0 (by omega)).2 0 (by omega)
      obtain ⟨g, o, rfl, hg⟩ := spot_none (v := .int .i64 (X 0).op) h0
      have q := (hX i hil).2
      simp only [add_none] at q
      exact ⟨g, o, rfl, hg, q 0 (by omega), q 1 (by omega), q 2 (by omega), q 3 (by omega), q 4 (by omega), q 5 (by omega)⟩
    · rw [List.mem_map] at hx
      obtain ⟨i, hi', rfl⟩ := hx
      exact (hX i (List.mem_range.1 hi')).1
theorem open_nodes {r : Reach} {b0 : Nat} {v : Value} {d : DataW H} {p : List MemPlace} (hv : Value.okWide Try.prog w r b0 23 v) (h : DataW.Trod enc Try.prog w base spare held 23 v d p) : ∃ l, Nodes w v l ∧ Short l ∧ ∀ c, v = .slice none 0 c → c = 0 := by
  obtain ⟨a0, len, cap, rfl⟩ := okWide_slice Try.underlying23 hv
  obtain ⟨fuel, hf⟩ := h
  obtain ⟨u, l, hcs, h1, h2, h3⟩ := trod_nodes Try.underlying23 hf
  simp [Value.cells] at hcs
  subst hcs
  exact ⟨l, h1, h2, h3⟩
theorem open_names {r : Reach} {b0 : Nat} {v : Value} {d : DataW H} {p : List MemPlace} (hv : Value.okWide Try.prog w r b0 36 v) (h : DataW.Trod enc Try.prog w base spare held 36 v d p) : ∃ l, Strs w v l ∧ (∀ s ∈ l, s.length ≤ maxLen) := by
  obtain ⟨a0, len, cap, rfl⟩ := okWide_slice Try.underlying36 hv
  obtain ⟨fuel, hf⟩ := h
  rcases open_strings Try.underlying36 Try.underlying9 cells9 hf with ⟨hcs, _⟩ | ⟨a, len', cap', ss, hcs, hb, hl, hm, hz, _, hcell, hws⟩
  · simp [Value.cells] at hcs
    obtain ⟨rfl, rfl, rfl⟩ := hcs
    exact ⟨[], ⟨none, 0, rfl, by simp, by unfold maxLen; omega, fun i t h => by simp at h⟩, by simp⟩
  · simp [Value.cells] at hcs
    obtain ⟨rfl, rfl, rfl⟩ := hcs
    have hls : len ≤ ss.length := by rw [hz]; split <;> omega
    refine ⟨(ss.take len).map ByteArray.toList, ⟨some a, cap, by simp [Nat.min_eq_left hls], by simp [Nat.min_eq_left hls]; exact hl, hm, fun i x hx => ?_⟩, fun s hs => ?_⟩
    · have hil : i < len := by have := (List.getElem?_eq_some_iff.1 hx).1; simp at this; omega
      rw [List.getElem?_map, List.getElem?_take, if_pos hil, List.getElem?_eq_getElem (by omega)] at hx
      simp only [Option.map_some, Option.some.injEq] at hx
      subst hx
      obtain ⟨g, o, rfl, hg⟩ := spot_none (hcell 0 (by omega))
      have q := hcell i (by omega)
      rw [add_none] at q
      refine ⟨g, o, rfl, hg, q.trans ?_⟩
      rw [str_of, List.getD, List.getElem?_eq_getElem (by omega)]; rfl
    · rw [List.mem_map] at hs
      obtain ⟨t, ht, rfl⟩ := hs
      rw [ByteArray.toList_eq]
      have := hws t (List.mem_of_mem_take ht)
      simpa using this
theorem open_parts {r : Reach} {b0 : Nat} {v : Value} {d : DataW H} {p : List MemPlace} (hv : Value.okWide Try.prog w r b0 38 v) (h : DataW.Trod enc Try.prog w base spare held 38 v d p) : ∃ ls, Parts w w.heap.size v ls ∧ ∀ l ∈ ls, Short l := by
  obtain ⟨a0, len, cap, rfl⟩ := okWide_slice Try.underlying38 hv
  obtain ⟨fuel, hf⟩ := h
  rcases open_slice Try.underlying38 hf with ⟨hcs, _⟩ | ⟨a, len', cap', m, n', D, Pl, hcs, hb, hl, hm, hmm, _, hi⟩
  · simp [Value.cells] at hcs
    obtain ⟨rfl, rfl, rfl⟩ := hcs
    exact ⟨[], ⟨none, 0, rfl, by simp, by unfold maxLen; omega, fun i t h => by simp at h⟩, by simp⟩
  · simp [Value.cells] at hcs
    obtain ⟨rfl, rfl, rfl⟩ := hcs
    have hml : len ≤ m := by rw [hmm]; split <;> omega
    have each : ∀ i, i < len → ∃ q : Value × List Nd, Nodes w q.1 q.2 ∧ Short q.2 ∧ w.cell? (a.add i) = some q.1 := fun i hil => by
      obtain ⟨cs', hc, ht'⟩ := hi i (by omega)
      obtain ⟨u, l, rfl, h1, h2, _⟩ := trod_nodes Try.underlying23 ht'
      obtain ⟨_, hcl, hat⟩ := World.cells?_some hc
      rw [cells23, Nat.mul_one] at hat
      have := hat 0 (by omega)
      rw [Go.Deep.add_add, Nat.add_zero] at this
      exact ⟨(u, l), h1, h2, this⟩
    obtain ⟨X, hX⟩ := Go.Deep.choose_lt each
    refine ⟨(List.range len).map fun i => (X i).2, ⟨some a, cap, by simp, by simpa using hl, hm, fun i x hx => ?_⟩, fun l hl => ?_⟩
    · have hil : i < len := by have := (List.getElem?_eq_some_iff.1 hx).1; simpa using this
      rw [List.getElem?_map, List.getElem?_range hil] at hx
      simp only [Option.map_some, Option.some.injEq] at hx
      subst hx
      obtain ⟨g, o, rfl, hg⟩ := spot_none (hX 0 (by omega)).2.2
      have q := hX i hil
      rw [add_none] at q
      refine ⟨g, o, (X i).1, rfl, hg, hg, q.2.2, q.1, fun hp g' o' n c hu => ?_⟩
      obtain ⟨A', c', e1, _, _, hA⟩ := q.1
      obtain ⟨g2, o2, hA2, hlt, _⟩ := hA 0 _ (List.getElem?_eq_getElem hp)
      rw [e1, hA2] at hu
      simp only [Value.slice.injEq, Option.some.injEq, Addr.mk.injEq, and_true] at hu
      omega
    · rw [List.mem_map] at hl
      obtain ⟨i, hi', rfl⟩ := hl
      exact (hX i (List.mem_range.1 hi')).2.1
theorem open_node {r : Reach} {b0 : Nat} {v : Value} {d : DataW H} {p : List MemPlace} (hv : Value.okWide Try.prog w r b0 30 v) (h : DataW.Trod enc Try.prog w base spare held 30 v d p) :
    ∃ x : Nd, v = .agg #[.int .i64 x.op, .int .i64 x.a, .int .i64 x.b, .int .i64 x.c, .int .i64 x.n, .string (str x.name)] ∧ x.name.length ≤ maxLen := by
  obtain ⟨cs, rfl, hsz⟩ := okWide_struct Try.underlying30 hv
  obtain ⟨fuel, hf⟩ := h
  obtain ⟨x, hcs, hx⟩ := node_cells hf
  refine ⟨x, ?_, hx⟩
  simp only [Value.cells] at hcs
  obtain ⟨l⟩ := cs
  simp only at hcs
  rw [hcs]; rfl
end
end Go.Proofs.Ytmggedjolocgdaa.Tr
