/- A store's box; how many nodes it has; a new one. Conditions: none. A store in memory; a new store. Conditions: none. -/
import Derived.Test.YtfohjlepknnleaaBdMap
import Derived.Carry
namespace Go.Proofs.Ytfohjlepknnleaa.Bd
open Go.ChangeShapes Go.WideShapes Go.ChangeAt Go.RowKit
set_option linter.unusedVariables false
set_option linter.unusedSimpArgs false

/-- A store in its box: how many variables, what may be, the nodes' slice, the map of places. -/
structure StBox (w : World) (b : Nat) (vars budget : Int) (nv pv : Value) : Prop where
  cell : w.heap[b]? = some (.cells #[.int .i64 vars, .int .i64 budget, nv, pv] 63 (0, 0))
theorem block_lt {w : World} {b : Nat} {o : Obj} (h : w.heap[b]? = some o) : b < w.heap.size := (Array.getElem?_eq_some_iff.mp h).1
theorem StBox.lt {w : World} {b : Nat} {vars budget : Int} {nv pv : Value} (h : StBox w b vars budget nv pv) : b < w.heap.size := block_lt h.cell
theorem StBox.ats {w : World} {b : Nat} {vars budget : Int} {nv pv : Value} (h : StBox w b vars budget nv pv) :
    w.cell? ⟨b, 0, none⟩ = some (.int .i64 vars) ∧ w.cell? ⟨b, 1, none⟩ = some (.int .i64 budget) ∧ w.cell? ⟨b, 2, none⟩ = some nv ∧ w.cell? ⟨b, 3, none⟩ = some pv := by
  have := h.cell
  refine ⟨?_, ?_, ?_, ?_⟩ <;> simp [World.cell?, this]
theorem StBox.below {w w' : World} {b B : Nat} {vars budget : Int} {nv pv : Value} (h : StBox w b vars budget nv pv) (hb : Below B w w') (hB : b < B) : StBox w' b vars budget nv pv := ⟨(hb.block b hB).trans h.cell⟩

set_option maxRecDepth 100000 in
set_option maxHeartbeats 1600000 in
theorem size_nil (w : World) : Calls Try.prog 12 #[.pointer none] w (fun e w' => e = .returned (.int .i64 0) ∧ w' = w) := by
  go_enter Try.func12, Try.ntmps12
  go_wp2_with fail
  refine bodyPost_ret (v := .int .i64 0) (by simp [results, Try.results12, go_sem]) rfl ⟨rfl, rfl⟩

set_option maxRecDepth 100000 in
set_option maxHeartbeats 1600000 in
theorem size_any (w : World) (b n c : Nat) (A : Option Addr) (vars budget : Int) (pv : Value) (h : StBox w b vars budget (.slice A n c) pv) :
    Calls Try.prog 12 #[.pointer (some ⟨b, 0, none⟩)] w (fun e w' => e = .returned (.int .i64 (n : Int)) ∧ w' = w) := by
  obtain ⟨h0, h1, h2, h3⟩ := h.ats
  go_enter Try.func12, Try.ntmps12
  go_wp2_with fail
  refine bodyPost_ret (v := .int .i64 (n : Int)) (by simp [results, Try.results12, go_sem]) rfl ⟨rfl, rfl⟩

set_option maxRecDepth 100000 in
set_option maxHeartbeats 1600000 in
theorem new_bad (w : World) (vars budget : Int) (h : vars < 0 ∨ 30 < vars ∨ budget < 2 ∨ 10000 < budget) :
    Calls Try.prog 9 #[.int .i64 vars, .int .i64 budget] w (fun e w' => e = .returned (.tuple #[.pointer none, .int .i64 1]) ∧ w' = w) := by
  by_cases a : vars < 0
  · go_enter Try.func9, Try.ntmps9
    go_wp2_with fail
    refine bodyPost_ret (v := .tuple #[.pointer none, .int .i64 1]) (by simp [results, Try.results9, go_sem]) rfl ⟨rfl, rfl⟩
  by_cases b : 30 < vars
  · go_enter Try.func9, Try.ntmps9
    go_wp2_with fail
    refine bodyPost_ret (v := .tuple #[.pointer none, .int .i64 1]) (by simp [results, Try.results9, go_sem]) rfl ⟨rfl, rfl⟩
  by_cases c : budget < 2
  · go_enter Try.func9, Try.ntmps9
    go_wp2_with fail
    refine bodyPost_ret (v := .tuple #[.pointer none, .int .i64 1]) (by simp [results, Try.results9, go_sem]) rfl ⟨rfl, rfl⟩
  have d : 10000 < budget := by omega
  go_enter Try.func9, Try.ntmps9
  go_wp2_with fail
  refine bodyPost_ret (v := .tuple #[.pointer none, .int .i64 1]) (by simp [results, Try.results9, go_sem]) rfl ⟨rfl, rfl⟩
end Go.Proofs.Ytfohjlepknnleaa.Bd

namespace Go.Proofs.Ytfohjlepknnleaa.Bd
open Go.ChangeShapes Go.WideShapes Go.ChangeAt Go.RowKit
set_option linter.unusedVariables false
set_option linter.unusedSimpArgs false

/-- A node's cells. -/
def cellsOf (n : Nd) : List Value := [.int .i64 n.1, .int .i64 n.2.1, .int .i64 n.2.2]
/-- The nodes' cells. -/
def ndC (ns : List Nd) : List Value := ns.flatMap cellsOf
theorem ndC_length (ns : List Nd) : (ndC ns).length = 3 * ns.length := by
  unfold ndC
  induction ns with
  | nil => rfl
  | cons a l ih => rw [List.flatMap_cons, List.length_append, ih, List.length_cons]; show 3 + _ = _; omega
/-- A node as a key. -/
def keyN (n : Nd) : Value := .agg #[.int .i64 n.1, .int .i64 n.2.1, .int .i64 n.2.2]
def okN (n : Nd) : Prop := n.1 < 4294967296 ∧ n.2.1 < 4294967296 ∧ n.2.2 < 4294967296
def litN (n : Nd) : Lit := .string (keyBytes [.int .i64 n.1, .int .i64 n.2.1, .int .i64 n.2.2])
/-- The map tells where each node stands, of those behind the first 'from'. -/
structure Tells (from_ shift : Nat) (ns : List Nd) (f : Nd → Option Value) : Prop where
  no : ∀ n, f n = none → ∀ i, from_ ≤ i → ns[i]? ≠ some n
  yes : ∀ n v, f n = some v → ∃ i, from_ ≤ i ∧ v = .int .i64 ((shift + i : Nat) : Int) ∧ ns[i]? = some n
/-- A store in memory, of blocks from B on. -/
def StoreAt (B : Nat) (w : World) (b vars budget : Nat) (ns : List Nd) : Prop :=
  ∃ nv pb f, StBox w b vars budget nv (.map (some pb)) ∧ w.ownsRow B 59 3 nv ns.length (ndC ns) ∧ MapK Try.prog 59 okN litN w pb ns.length f ∧ Tells 2 0 ns f ∧ Good vars ns ∧ B ≤ b ∧ B ≤ pb

set_option maxRecDepth 100000 in
set_option maxHeartbeats 1600000 in
theorem new_ok (w : World) (vars budget : Nat) (h : vars ≤ 30 ∧ 2 ≤ budget ∧ budget ≤ 10000) :
    Calls Try.prog 9 #[.int .i64 vars, .int .i64 budget] w (fun e w' => Below w.heap.size w w' ∧ ∃ b, e = .returned (.tuple #[.pointer (some ⟨b, 0, none⟩), .int .i64 0]) ∧ StoreAt w.heap.size w' b vars budget [(vars, 0, 0), (vars, 1, 1)]) := by
  have hmm := @run_makeMap Try.prog
  obtain ⟨w1, hw1⟩ : ∃ W, w.alloc (.cells #[.int .i64 (vars : Int), .int .i64 0, .int .i64 0, .int .i64 (vars : Int), .int .i64 1, .int .i64 1] 59) = W := ⟨_, rfl⟩
  obtain ⟨w2, hw2⟩ : ∃ W, w1.alloc (.map #[] 0) = W := ⟨_, rfl⟩
  obtain ⟨w3, hw3⟩ : ∃ W, w2.alloc (.cells #[.int .i64 (vars : Int), .int .i64 (budget : Int), .slice (some ⟨w.heap.size, 0, none⟩) 2 2, .map (some (w.heap.size + 1))] 63) = W := ⟨_, rfl⟩
  have e1 : w1.heap.size = w.heap.size + 1 := by rw [← hw1]; simp
  have e2 : w2.heap.size = w.heap.size + 2 := by rw [← hw2]; simp [e1]
  have hb1 : Below w.heap.size w w1 := by rw [← hw1]; exact (Below.refl _ _).alloc (Nat.le_refl _) _
  have hb2 : Below w1.heap.size w1 w2 := by rw [← hw2]; exact (Below.refl _ _).alloc (Nat.le_refl _) _
  have hb3 : Below w2.heap.size w2 w3 := by rw [← hw3]; exact (Below.refl _ _).alloc (Nat.le_refl _) _
  have hb23 : Below w1.heap.size w1 w3 := hb2.trans (hb3.mono (by omega))
  have hrow1 : w1.ownsRow w.heap.size 59 3 (.slice (some ⟨w.heap.size, 0, none⟩) 2 2) 2 (ndC [(vars, 0, 0), (vars, 1, 1)]) := by
    have := World.ownsRow_lit (base := w.heap.size) (e := 59) (size := 3) w #[.int .i64 (vars : Int), .int .i64 0, .int .i64 0, .int .i64 (vars : Int), .int .i64 1, .int .i64 1] 2 (Nat.le_refl _) (by unfold maxLen; omega) (by simp)
    rw [hw1] at this
    exact this
  have hrow : w3.ownsRow w.heap.size 59 3 (.slice (some ⟨w.heap.size, 0, none⟩) 2 2) 2 (ndC [(vars, 0, 0), (vars, 1, 1)]) := by
    refine ⟨hrow1.1, ?_⟩
    rcases hrow1.2 with h0 | ⟨g, cap, cur, h1, h2, h3, h4⟩
    · exact .inl h0
    · exact .inr ⟨g, cap, cur, h1, h2, by rw [hb23.block g (block_lt h3)]; exact h3, h4⟩
  have hmap2 : MapK Try.prog 59 okN litN w2 w1.heap.size 0 (fun _ => none) := by rw [← hw2]; exact MapK.made w1
  have hmap : MapK Try.prog 59 okN litN w3 (w.heap.size + 1) 2 (fun _ => none) := by
    have := (hmap2.below hb3 hmap2.lt).mono (Nat.zero_le 2)
    rw [e1] at this
    exact this
  have hbox : StBox w3 (w.heap.size + 2) vars budget (.slice (some ⟨w.heap.size, 0, none⟩) 2 2) (.map (some (w.heap.size + 1))) := ⟨by
    have := heap_alloc_new w2 (.cells #[.int .i64 (vars : Int), .int .i64 (budget : Int), .slice (some ⟨w.heap.size, 0, none⟩) 2 2, .map (some (w.heap.size + 1))] 63)
    rw [hw3, e2] at this
    exact this⟩
  have hS : StoreAt w.heap.size w3 (w.heap.size + 2) vars budget [(vars, 0, 0), (vars, 1, 1)] :=
    ⟨_, _, _, hbox, hrow, hmap, ⟨fun n _ i hi hh => by
      have := (List.getElem?_eq_some_iff.mp hh).1
      simp at this
      omega, fun n v hv => by cases hv⟩, good_new vars, by omega, by omega⟩
  have hB : Below w.heap.size w w3 := hb1.trans (hb23.mono (by omega))
  have HS := Lib.hid hS
  have HB := Lib.hid hB
  have HE2 := Lib.hid e2
  have HE1 := Lib.hid e1
  clear hS hB hrow hrow1 hmap hmap2 hbox hb1 hb2 hb3 hb23 e1 e2
  go_enter Try.func9, Try.ntmps9
  go_wp2_with fail
  have e2 := HE2.out
  have e1 := HE1.out
  rw [e2, e1, hw3]
  refine bodyPost_ret (v := .tuple #[.pointer (some ⟨w.heap.size + 2, 0, none⟩), .int .i64 0]) (by simp [results, Try.results9, go_sem]) rfl ⟨HB.out, _, rfl, HS.out⟩
end Go.Proofs.Ytfohjlepknnleaa.Bd
