/- The function Lex of layer lex returns the tokens that lexM says, in memory of its own. Conditions: a text's length within a machine's. -/
import Derived.Test.YtobkcdkffcenbaaGreatDoorCa12
import Derived.Test.YtobkcdkffcenbaaGreatDoorCa01
import Derived.OneCell
import Derived.OwnWalk
import Derived.RegionTactic
import Derived.Deep.QuietTactic
import Derived.BigQuiet
set_option linter.unusedVariables false
set_option linter.unusedSimpArgs false
namespace Go.Proofs.YtobkcdkffcenbaaGreatDoor.Lx
open Go.ChangeShapes Go.WideShapes Go.ChangeAt Go.RowKit
theorem info42 : (Tryz.prog.info? 105).map (fun i => (i.zero, i.size, i.bytes)) = some (some (.agg #[.int .i64 0, .string ⟨#[]⟩, .int .i64 0]), 3, 32) := by kernel_rfl
def tokCells (t : Tok) : List Value := [.int .i64 t.kind, .string (str t.text), .int .i64 (t.at_ : Int)]
def cellsOf (l : List Tok) : List Value := l.flatMap tokCells
def LexPost (W : World) (r : Res) (e : Ending) (w' : World) : Prop :=
  ∃ v, e = .returned (.tuple #[v, .agg #[.int .i64 r.code, .int .i64 r.at_]]) ∧ w'.ownsRow W.heap.size 105 3 v r.toks.length (cellsOf r.toks) ∧ Below W.heap.size W w'
theorem own_base {w : World} {b b' : Nat} {e : TypeId} {size n : Nat} {v : Value} {xs : List Value} (h : w.ownsRow b e size v n xs) (hb : b' ≤ b) : w.ownsRow b' e size v n xs := by
  refine ⟨h.1, ?_⟩
  rcases h.2 with h0 | ⟨g, cap, cur, h1, h2, h3⟩
  · exact .inl h0
  · exact .inr ⟨g, cap, cur, h1, by omega, h3⟩
theorem cells_snoc (acc : List Tok) (t : Tok) : cellsOf (acc ++ [t]) = cellsOf acc ++ tokCells t := by simp [cellsOf]
end Go.Proofs.YtobkcdkffcenbaaGreatDoor.Lx
namespace Go.Proofs.YtobkcdkffcenbaaGreatDoor.Lx
open Go.ChangeShapes Go.WideShapes Go.ChangeAt Go.RowKit
def Toks (w : World) (v : Value) (l : List Tok) : Prop :=
  ∃ A c, v = .slice A l.length c ∧ l.length ≤ c ∧ c ≤ maxLen ∧ ∀ i t, l[i]? = some t → ∃ g, A = some ⟨g, 0, none⟩ ∧ g < w.heap.size ∧
    w.cell? ⟨g, i * 3, none⟩ = some (.int .i64 t.kind) ∧ w.cell? ⟨g, i * 3 + 1, none⟩ = some (.string (str t.text)) ∧ w.cell? ⟨g, i * 3 + 2, none⟩ = some (.int .i64 (t.at_ : Int))
theorem cells_at (l : List Tok) (i : Nat) (t : Tok) (h : l[i]? = some t) :
    (cellsOf l)[i * 3]? = some (.int .i64 t.kind) ∧ (cellsOf l)[i * 3 + 1]? = some (.string (str t.text)) ∧ (cellsOf l)[i * 3 + 2]? = some (.int .i64 (t.at_ : Int)) := by
  induction l generalizing i with
  | nil => simp at h
  | cons a r ih =>
    cases i with
    | zero => simp at h; subst h; simp [cellsOf, tokCells]
    | succ i =>
      simp at h
      have e : ∀ k, (cellsOf (a :: r))[(i + 1) * 3 + k]? = (cellsOf r)[i * 3 + k]? := fun k => by
        show ([_, _, _] ++ cellsOf r)[(i + 1) * 3 + k]? = _
        rw [List.getElem?_append_right (by simp; omega)]
        congr 1; simp; omega
      have := ih i h
      exact ⟨(e 0).trans this.1, (e 1).trans this.2.1, (e 2).trans this.2.2⟩
theorem Toks.of_own {w : World} {b : Nat} {v : Value} {l : List Tok} (h : w.ownsRow b 105 3 v l.length (cellsOf l)) : Toks w v l := by
  obtain ⟨hl, h0 | ⟨g, cap, cur, rfl, hb, hh, hnc, hcm, hcs, hct⟩⟩ := h
  · obtain ⟨rfl, h0⟩ := h0
    have : l = [] := List.length_eq_zero_iff.1 h0
    subst this
    exact ⟨none, 0, rfl, by simp, by unfold maxLen; omega, fun i t h => by simp at h⟩
  · have h : w.ownsRow b 105 3 (.slice (some ⟨g, 0, none⟩) l.length cap) l.length (cellsOf l) := ⟨hl, .inr ⟨g, cap, cur, rfl, hb, hh, hnc, hcm, hcs, hct⟩⟩
    refine ⟨some ⟨g, 0, none⟩, cap, rfl, hnc, hcm, fun i t hi => ⟨g, rfl, lt_of_block hh, ?_⟩⟩
    have hil : i < l.length := (List.getElem?_eq_some_iff.1 hi).1
    obtain ⟨c0, c1, c2⟩ := cells_at l i t hi
    exact ⟨(h.cellAt _ (by omega)).trans c0, (h.cellAt _ (by omega)).trans c1, (h.cellAt _ (by omega)).trans c2⟩
theorem Toks.below {w w' : World} {B : Nat} {v : Value} {l : List Tok} (h : Toks w v l) (hb : Below B w w') (hB : w.heap.size ≤ B) : Toks w' v l := by
  obtain ⟨A, c, rfl, h1, h2, h3⟩ := h
  refine ⟨A, c, rfl, h1, h2, fun i t hi => ?_⟩
  obtain ⟨g, hg, hlt, c0, c1, c2⟩ := h3 i t hi
  have hs := hb.size
  exact ⟨g, hg, by omega, (hb.cell (by show g < _; omega)).trans c0, (hb.cell (by show g < _; omega)).trans c1, (hb.cell (by show g < _; omega)).trans c2⟩
theorem und42 : Tryz.prog.underlying 105 = some (.struct (Tryz.prog.fieldsOf 105)) := by kernel_rfl
theorem stood42 : Tryz.prog.stoodInHeld 105 = false := by kernel_rfl
theorem guard42 : Tryz.prog.eqGuardType Tryz.prog.depth 105 = false := by kernel_rfl
theorem und35 : Tryz.prog.underlying 29 = some (.struct (Tryz.prog.fieldsOf 29)) := by kernel_rfl
theorem stood35 : Tryz.prog.stoodInHeld 29 = false := by kernel_rfl
theorem guard35 : Tryz.prog.eqGuardType Tryz.prog.depth 29 = false := by kernel_rfl
theorem equal_tok (d : Nat) (K1 K2 P1 P2 : Int) (T1 T2 : ByteArray) (w : World) :
    (Op.equalIn (d + 2) 105 (.agg #[.int .i64 K1, .string T1, .int .i64 P1]) (.agg #[.int .i64 K2, .string T2, .int .i64 P2])).run Tryz.prog w =
      .ok (K1 == K2 && (T1.toList == T2.toList && P1 == P2)) w := by
  rw [run_equalIn_agg w (d + 1) 105 _ _ und42 stood42]
  simp only [Program.fieldsOf, Tryz.underlying105]
  rcases Bool.eq_false_or_eq_true (K1 == K2) with h1 | h1 <;> rcases Bool.eq_false_or_eq_true (T1.toList == T2.toList) with h2 | h2 <;> rcases Bool.eq_false_or_eq_true (P1 == P2) with h3 | h3 <;>
    simp [go_sem, h1, h2, h3, Tryz.underlying3, Tryz.underlying9]
def tokB (K1 K2 P1 P2 : Int) (T1 T2 : ByteArray) : Bool := K1 == K2 && (T1.toList == T2.toList && P1 == P2)
theorem neq_tok (K1 K2 P1 P2 : Int) (T1 T2 : ByteArray) (w : World) :
    (binOp .neq 105 (.agg #[.int .i64 K1, .string T1, .int .i64 P1]) (.agg #[.int .i64 K2, .string T2, .int .i64 P2])).run Tryz.prog w = .ok (.bool (!tokB K1 K2 P1 P2 T1 T2)) w := by
  rw [run_neq_struct, show (10000 : Nat) = 9998 + 2 from rfl, equal_tok]; rfl
theorem eql_tok (K1 K2 P1 P2 : Int) (T1 T2 : ByteArray) (w : World) :
    (binOp .eql 105 (.agg #[.int .i64 K1, .string T1, .int .i64 P1]) (.agg #[.int .i64 K2, .string T2, .int .i64 P2])).run Tryz.prog w = .ok (.bool (tokB K1 K2 P1 P2 T1 T2)) w := by
  rw [run_eql_struct, show (10000 : Nat) = 9998 + 2 from rfl, equal_tok]; rfl
theorem guard_tok (op : BinOp) (x y : Operand) (xs ys : Array Value) (w : World) : (eqGuard op 105 x y (.agg xs) (.agg ys)).run Tryz.prog w = .ok () w := run_eqGuard_agg w op 105 x y xs ys guard42
theorem equal_fault (d : Nat) (K1 K2 P1 P2 : Int) (w : World) :
    (Op.equalIn (d + 2) 29 (.agg #[.int .i64 K1, .int .i64 P1]) (.agg #[.int .i64 K2, .int .i64 P2])).run Tryz.prog w = .ok (K1 == K2 && P1 == P2) w := by
  rw [run_equalIn_agg w (d + 1) 29 _ _ und35 stood35]
  simp only [Program.fieldsOf, Tryz.underlying29]
  rcases Bool.eq_false_or_eq_true (K1 == K2) with h1 | h1 <;> rcases Bool.eq_false_or_eq_true (P1 == P2) with h3 | h3 <;>
    simp [go_sem, h1, h3, Tryz.underlying3, Tryz.underlying27]
def faultB (K1 K2 P1 P2 : Int) : Bool := K1 == K2 && P1 == P2
theorem eql_fault (K1 K2 P1 P2 : Int) (w : World) :
    (binOp .eql 29 (.agg #[.int .i64 K1, .int .i64 P1]) (.agg #[.int .i64 K2, .int .i64 P2])).run Tryz.prog w = .ok (.bool (faultB K1 K2 P1 P2)) w := by
  rw [run_eql_struct, show (10000 : Nat) = 9998 + 2 from rfl, equal_fault]; rfl
theorem guard_fault (op : BinOp) (x y : Operand) (xs ys : Array Value) (w : World) : (eqGuard op 29 x y (.agg xs) (.agg ys)).run Tryz.prog w = .ok () w := run_eqGuard_agg w op 29 x y xs ys guard35
attribute [local go_sem ↓] neq_tok eql_tok guard_tok eql_fault guard_fault
end Go.Proofs.YtobkcdkffcenbaaGreatDoor.Lx

