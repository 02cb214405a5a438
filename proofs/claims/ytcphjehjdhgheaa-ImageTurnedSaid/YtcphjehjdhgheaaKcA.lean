/- Sets of numbers as maps; the program's questions on one instruction. Conditions: numbers have 64 bits. -/
import Derived.Test.YtcphjehjdhgheaaKaA
import Derived.Test.YtcphjehjdhgheaaKaB
import Derived.Test.YtcphjehjdhgheaaNhA
import Derived.Test.YtcphjehjdhgheaaNtD
import Derived.Maps.OwnSet
namespace Go.Proofs.Ytcphjehjdhgheaa.Nt
open Go.ChangeShapes Go.WideShapes Go.ChangeAt Go.RowKit Go.Maps Go.WideMaps Go.Proofs.Ytcphjehjdhgheaa.Tr
set_option linter.unusedVariables false
set_option linter.unusedSimpArgs false

theorem lawI : Keyed Try.prog 3 := int_keyed Try.underlying3
theorem key_int (k : Int) (h : W64 k) : keyOf Try.prog 3 (.int .i64 k) = some (.int .i64 k) := keyOf_int_mk Try.underlying3 h
/-- A block is a set of numbers, of so many entries at most. -/
def SetIs (w : World) (b n : Nat) (l : List Int) : Prop :=
  ∃ D : DataW Value, w.ownsMap Try.prog 3 unitElem b n D ∧ (∀ k : Int, Maps.has D (.int .i64 k) = l.contains k) ∧ (Maps.size D = 0 ↔ l = [])
theorem SetIs.made (w : World) : SetIs (w.alloc (.map #[] 0)) w.heap.size 0 [] := ⟨.map [], World.ownsMap_made _ _ _ _, fun s => rfl, Iff.intro (fun _ => rfl) (fun _ => rfl)⟩
theorem SetIs.lt {w : World} {b n : Nat} {l : List Int} (h : SetIs w b n l) : b < w.heap.size := by obtain ⟨D, h1, _⟩ := h; exact h1.lt
theorem SetIs.keep {w w' : World} {b n : Nat} {l : List Int} (h : SetIs w b n l) (hb : w'.heap[b]? = w.heap[b]?) : SetIs w' b n l := by
  obtain ⟨D, ⟨es, clock, h1, h2⟩, h3⟩ := h
  exact ⟨D, ⟨es, clock, hb.trans h1, h2⟩, h3⟩
theorem SetIs.below {w w' : World} {b n B : Nat} {l : List Int} (h : SetIs w b n l) (hb : Below B w w') (hB : b < B) : SetIs w' b n l := h.keep (hb.block b hB)
theorem SetIs.cell {w : World} {b n : Nat} {l : List Int} (h : SetIs w b n l) : ∃ es clock, w.heap[b]? = some (.map es clock) := by
  obtain ⟨D, ⟨es, clock, h1, h2⟩, h3⟩ := h
  exact ⟨es, clock, h1⟩
theorem zUnit (w : World) : (zeroValue 191).run Try.prog w = .ok (.agg #[]) w := by kernel_rfl
theorem SetIs.look {w : World} {b n : Nat} {l : List Int} (h : SetIs w b n l) (k : Int) (hk : W64 k) :
    (Instr.lookup 105 (.map (some b)) (.int .i64 k) true).run Try.prog w = .ok (.tuple #[.agg #[], .bool (l.contains k)]) w := by
  obtain ⟨D, own, hD, -⟩ := h
  obtain ⟨v, ps, hrun, hv⟩ := own.look_ok lawI Try.underlying105 (zUnit w) (zd := .agg []) (zp := []) unitElem_mk (key_int k hk)
  obtain ⟨rfl, -⟩ := unitElem_inv hv
  rw [hrun, hD]
theorem SetIs.len {w : World} {b n : Nat} {l : List Int} (h : SetIs w b n l) : ∃ m : Nat, (∀ ty, (Builtin.len_ #[105] ty #[.map (some b)]).run Try.prog w = .ok (.int .i64 (m : Int)) w) ∧ (m = 0 ↔ l = []) := by
  obtain ⟨D, own, -, hD⟩ := h
  exact ⟨_, fun ty => own.len Try.underlying105 ty, hD⟩
theorem SetIs.put {w : World} {b n : Nat} {l : List Int} (h : SetIs w b n l) (hn : n < maxLen) (k : Int) (hk : W64 k) :
    ∃ w', (Instr.mapUpdate 105 (.map (some b)) (.int .i64 k) (.agg #[])).run Try.prog w = .ok () w' ∧ SetIs w' b (n + 1) (l ++ [k]) ∧ w.grownBy w' (some b) := by
  obtain ⟨D, own, hD, -⟩ := h
  have hI := own.isMap
  obtain ⟨w', hrun, hown, hg⟩ := own.store lawI Try.underlying105 hn (key_int k hk) (d := .agg []) (ps := []) unitElem_mk
  refine ⟨w', hrun, ⟨_, hown, fun x => ?_, ?_⟩, hg.grown⟩
  · by_cases hx : x = k
    · subst hx
      rw [has_put_same hI (show WideAt.IsKeyLit (.int .i64 x) from trivial)]; simp
    · have hne : (Lit.int .i64 x) ≠ .int .i64 k := fun h => hx (by injection h)
      rw [has_put_other hne, hD x]; simp [hx]
  · have h1 : Maps.has (D.put (.int .i64 k) (.agg [])) (.int .i64 k) = true := has_put_same hI (show WideAt.IsKeyLit (.int .i64 k) from trivial) _
    have h2 := hown.isMap
    obtain ⟨es, he⟩ := h2
    rw [he] at h1 ⊢
    constructor
    · intro h0
      have : es = [] := List.length_eq_zero_iff.1 h0
      subst this; cases h1
    · intro h0; simp at h0
set_option maxHeartbeats 1600000 in
theorem has_any (w : World) (b n : Nat) (l : List Int) (k : Int) (h : SetIs w b n l) (hk : W64 k) : Calls Try.prog 105 #[.map (some b), .int .i64 k] w (fun e w' => e = .returned (.bool (l.contains k)) ∧ Below w.heap.size w w') := by
  have hl := h.look k hk
  have HB := Lib.hid (below_new w (.cells #[] 191))
  generalize l.contains k = q at hl ⊢
  clear h
  go_enter Try.func105, Try.ntmps105
  go_wp2
  go_ret
  exact ⟨rfl, HB.out⟩
end Go.Proofs.Ytcphjehjdhgheaa.Nt
