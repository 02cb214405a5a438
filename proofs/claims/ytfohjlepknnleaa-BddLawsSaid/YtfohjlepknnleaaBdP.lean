/- Maps: how many entries; emptied; three numbers, and one, as keys. Conditions: none. -/
import Derived.Test.YtfohjlepknnleaaBdQ
namespace Go.Proofs.Ytfohjlepknnleaa.Bd
open Go.ChangeShapes Go.WideShapes Go.ChangeAt Go.RowKit Go.Maps
set_option linter.unusedVariables false
set_option linter.unusedSimpArgs false

section
variable {P : Program} {T : TypeId} {α : Type} {ok : α → Prop} {key : α → Value} {lit : α → Lit}
theorem MapK.len {w : World} {b n : Nat} {f : α → Option Value} (h : MapK P T ok lit w b n f) {t e : TypeId} (ht : P.underlying t = some (.map T e)) :
    ∃ k : Nat, k ≤ n ∧ MapK P T ok lit w b k f ∧ ∀ ty, (Builtin.len_ #[t] ty #[.map (some b)]).run P w = .ok (.int .i64 (k : Int)) w := by
  obtain ⟨D, own, hD⟩ := h
  refine ⟨Maps.size D, ?_, ⟨D, ?_, hD⟩, fun ty => own.len ht ty⟩
  · obtain ⟨es, clock, hb, F, hs, rfl⟩ := own
    have e1 : Maps.size (DataW.map ((es.toList.map (WideElems.rg P T heldE)).foldr DataW.insert [])) = es.size := by simp [Maps.size, length_sorted]
    omega
  · obtain ⟨es, clock, hb, F, hs, rfl⟩ := own
    have e1 : Maps.size (DataW.map ((es.toList.map (WideElems.rg P T heldE)).foldr DataW.insert [])) = es.size := by simp [Maps.size, length_sorted]
    exact ⟨es, clock, hb, F, by omega, rfl⟩
theorem MapK.wiped {w : World} {b n : Nat} {f : α → Option Value} (h : MapK P T ok lit w b n f) {t e : TypeId} (ht : P.underlying t = some (.map T e)) :
    ∃ w', (∀ ty, (Builtin.clear_ #[t] ty #[.map (some b)]).run P w = .ok (.tuple #[]) w') ∧ MapK P T ok lit w' b 0 (fun _ => none) ∧ w.grownBy w' (some b) := by
  obtain ⟨D, ⟨es, clock, hb, F, hs, hD⟩, _⟩ := h
  refine ⟨{ w with heap := w.heap.setIfInBounds b (.map #[] clock) }, fun ty => ?_, ⟨.map [], ⟨#[], clock, (MapKept.heap_set hb).1, ⟨by simp, MapKept.stamped_empty clock, by simp⟩, Nat.le_refl _, rfl⟩, fun s _ => ⟨rfl, fun v z h => by cases h⟩⟩, ?_⟩
  · simp [Builtin.clear_, run_underlying ht, MapKept.run_getObj_map hb, MapKept.run_setObj_map _ hb, Result.andThen]
  · exact ⟨rfl, rfl, rfl, by simp, fun k hk hne => (MapKept.heap_set hb).2 k (fun e => hne (by rw [e]))⟩
end
/-- Three numbers as a key. -/
abbrev Tri := Nat × Nat × Nat
theorem arr_law : Keyed Try.prog 91 :=
  Keyed.of_law (deep_law_laid (m := 3) (by kernel_rfl) (by omega) (Nat.le_of_ble_eq_true (by kernel_rfl)) (by kernel_rfl) (by kernel_rfl))
theorem arr_key (n : Nd) (h : okN n) : keyOf Try.prog 91 (keyN n) = some (litN n) := by
  obtain ⟨a, b, c⟩ := n
  obtain ⟨h1, h2, h3⟩ := h
  have hk : Try.prog.keyType 91 = true := by kernel_rfl
  have hi : ∀ (d x : Nat), x < 4294967296 → Try.prog.keyLits (d + 1) 3 [.int .i64 (x : Int)] = some [.int .i64 (x : Int)] := by
    intro d x hx
    have hw : (Lit.int .i64 (x : Int)).wf = true := by
      simp [Lit.wf]
      rw [show IntKind.i64.min = -9223372036854775808 from rfl]
      omega
    unfold Program.keyLits
    rw [Try.underlying3]
    simp [hw]
  have hc1 : Try.prog.cellsOf 3 = 1 := by kernel_rfl
  have hc : Try.prog.cellsOf 91 = 3 := by kernel_rfl
  have hz : ∃ s, Try.prog.types.size = s + 1 := ⟨Try.prog.types.size - 1, by kernel_rfl⟩
  obtain ⟨s, hs⟩ := hz
  have hl : Try.prog.keyLits (Try.prog.types.size + 1) 91 (keyN (a, b, c)).cells.toList = some [.int .i64 a, .int .i64 b, .int .i64 c] := by
    rw [hs]
    unfold Program.keyLits
    rw [Try.underlying91]
    simp [keyN, Value.cells, hc, hc1, hi]
    rw [show List.range 3 = [0, 1, 2] from rfl]
    simp [hi s a h1, hi s b h2, hi s c h3]
  have hf : (keyN (a, b, c)).formed Try.prog 91 = true := by
    unfold keyN Value.formed
    simp [hc, Try.underlying91]
  unfold keyOf
  rw [hk, hl, hf, Try.underlying91]
  rfl
theorem keysA : Keys Try.prog 91 okN keyN litN where
  law := arr_law
  of := arr_key
  inj := keysN.inj
/-- A number as a key. -/
def keyI (n : Nat) : Value := .int .i64 (n : Int)
def litI (n : Nat) : Lit := .int .i64 (n : Int)
def okI (n : Nat) : Prop := n < 4294967296
theorem keysI : Keys Try.prog 3 okI keyI litI where
  law := Maps.int_keyed Try.underlying3
  of n h := Maps.keyOf_int_mk Try.underlying3 (by
    unfold okI at h
    simp [Lit.wf]
    rw [show IntKind.i64.min = -9223372036854775808 from rfl]
    omega)
  inj a b _ _ h := by
    unfold litI at h
    injection h with _ h
    omega
end Go.Proofs.Ytfohjlepknnleaa.Bd
