/- Lists of tokens in memory; the function Same of the document's answer tells whether two are the same. Conditions: both are read as lists of tokens. -/
import Derived.Test.YtgligmdkikbdoaaLexF
import Derived.RegionTactic
import Derived.Deep.QuietTactic
import Derived.BigQuiet
namespace Go.Proofs.Ytgligmdkikbdoaa.Lx
open Go.ChangeShapes Go.WideShapes Go.ChangeAt Go.RowKit
set_option linter.unusedVariables false

/-- A slice value reads as a list of tokens. -/
def Toks (w : World) (v : Value) (l : List Tok) : Prop :=
  ∃ A c, v = .slice A l.length c ∧ l.length ≤ c ∧ c ≤ maxLen ∧ ∀ i t, l[i]? = some t → ∃ g, A = some ⟨g, 0, none⟩ ∧ g < w.heap.size ∧
    w.cell? ⟨g, i * 3, none⟩ = some (.int .i64 t.kind) ∧ w.cell? ⟨g, i * 3 + 1, none⟩ = some (.string (str t.text)) ∧ w.cell? ⟨g, i * 3 + 2, none⟩ = some (.int .i64 (t.at_ : Int))

theorem cells_at (l : List Tok) (i : Nat) (t : Tok) (h : l[i]? = some t) :
    (cellsOf l)[i * 3]? = some (.int .i64 t.kind) ∧ (cellsOf l)[i * 3 + 1]? = some (.string (str t.text)) ∧ (cellsOf l)[i * 3 + 2]? = some (.int .i64 (t.at_ : Int)) := by
  induction l generalizing i with
  | nil => simp at h
  | cons a r ih =>
    cases i with
    | zero => simp at h; subst h; simp [cellsOf, tokCells]
    | succ i =>
      simp at h
      have e : ∀ k, (cellsOf (a :: r))[(i + 1) * 3 + k]? = (cellsOf r)[i * 3 + k]? := fun k => by
        show ([_, _, _] ++ cellsOf r)[(i + 1) * 3 + k]? = _
        rw [List.getElem?_append_right (by simp; omega)]
        congr 1; simp; omega
      have := ih i h
      exact ⟨(e 0).trans this.1, (e 1).trans this.2.1, (e 2).trans this.2.2⟩

theorem Toks.of_own {w : World} {b : Nat} {v : Value} {l : List Tok} (h : w.ownsRow b 42 3 v l.length (cellsOf l)) : Toks w v l := by
  obtain ⟨hl, h0 | ⟨g, cap, cur, rfl, hb, hh, hnc, hcm, hcs, hct⟩⟩ := h
  · obtain ⟨rfl, h0⟩ := h0
    have : l = [] := List.length_eq_zero_iff.1 h0
    subst this
    exact ⟨none, 0, rfl, by simp, by unfold maxLen; omega, fun i t h => by simp at h⟩
  · have h : w.ownsRow b 42 3 (.slice (some ⟨g, 0, none⟩) l.length cap) l.length (cellsOf l) := ⟨hl, .inr ⟨g, cap, cur, rfl, hb, hh, hnc, hcm, hcs, hct⟩⟩
    refine ⟨some ⟨g, 0, none⟩, cap, rfl, hnc, hcm, fun i t hi => ⟨g, rfl, lt_of_block hh, ?_⟩⟩
    have hil : i < l.length := (List.getElem?_eq_some_iff.1 hi).1
    obtain ⟨c0, c1, c2⟩ := cells_at l i t hi
    exact ⟨(h.cellAt _ (by omega)).trans c0, (h.cellAt _ (by omega)).trans c1, (h.cellAt _ (by omega)).trans c2⟩
theorem Toks.below {w w' : World} {B : Nat} {v : Value} {l : List Tok} (h : Toks w v l) (hb : Below B w w') (hB : w.heap.size ≤ B) : Toks w' v l := by
  obtain ⟨A, c, rfl, h1, h2, h3⟩ := h
  refine ⟨A, c, rfl, h1, h2, fun i t hi => ?_⟩
  obtain ⟨g, hg, hlt, c0, c1, c2⟩ := h3 i t hi
  have hs := hb.size
  exact ⟨g, hg, by omega, (hb.cell (by show g < _; omega)).trans c0, (hb.cell (by show g < _; omega)).trans c1, (hb.cell (by show g < _; omega)).trans c2⟩

theorem und42 : Try.prog.underlying 42 = some (.struct (Try.prog.fieldsOf 42)) := by kernel_rfl
theorem stood42 : Try.prog.stoodInHeld 42 = false := by kernel_rfl
theorem guard42 : Try.prog.eqGuardType Try.prog.depth 42 = false := by kernel_rfl
theorem und35 : Try.prog.underlying 35 = some (.struct (Try.prog.fieldsOf 35)) := by kernel_rfl
theorem stood35 : Try.prog.stoodInHeld 35 = false := by kernel_rfl
theorem guard35 : Try.prog.eqGuardType Try.prog.depth 35 = false := by kernel_rfl

theorem equal_tok (d : Nat) (K1 K2 P1 P2 : Int) (T1 T2 : ByteArray) (w : World) :
    (Op.equalIn (d + 2) 42 (.agg #[.int .i64 K1, .string T1, .int .i64 P1]) (.agg #[.int .i64 K2, .string T2, .int .i64 P2])).run Try.prog w =
      .ok (K1 == K2 && (T1.toList == T2.toList && P1 == P2)) w := by
  rw [run_equalIn_agg w (d + 1) 42 _ _ und42 stood42]
  simp only [Program.fieldsOf, Try.underlying42]
  rcases Bool.eq_false_or_eq_true (K1 == K2) with h1 | h1 <;> rcases Bool.eq_false_or_eq_true (T1.toList == T2.toList) with h2 | h2 <;> rcases Bool.eq_false_or_eq_true (P1 == P2) with h3 | h3 <;>
    simp [go_sem, h1, h2, h3, Try.underlying3, Try.underlying9]
/-- Whether two tokens are the same, of their cells. -/
def tokB (K1 K2 P1 P2 : Int) (T1 T2 : ByteArray) : Bool := K1 == K2 && (T1.toList == T2.toList && P1 == P2)
theorem neq_tok (K1 K2 P1 P2 : Int) (T1 T2 : ByteArray) (w : World) :
    (binOp .neq 42 (.agg #[.int .i64 K1, .string T1, .int .i64 P1]) (.agg #[.int .i64 K2, .string T2, .int .i64 P2])).run Try.prog w = .ok (.bool (!tokB K1 K2 P1 P2 T1 T2)) w := by
  rw [run_neq_struct, show (10000 : Nat) = 9998 + 2 from rfl, equal_tok]; rfl
theorem eql_tok (K1 K2 P1 P2 : Int) (T1 T2 : ByteArray) (w : World) :
    (binOp .eql 42 (.agg #[.int .i64 K1, .string T1, .int .i64 P1]) (.agg #[.int .i64 K2, .string T2, .int .i64 P2])).run Try.prog w = .ok (.bool (tokB K1 K2 P1 P2 T1 T2)) w := by
  rw [run_eql_struct, show (10000 : Nat) = 9998 + 2 from rfl, equal_tok]; rfl
theorem guard_tok (op : BinOp) (x y : Operand) (xs ys : Array Value) (w : World) : (eqGuard op 42 x y (.agg xs) (.agg ys)).run Try.prog w = .ok () w := run_eqGuard_agg w op 42 x y xs ys guard42
theorem equal_fault (d : Nat) (K1 K2 P1 P2 : Int) (w : World) :
    (Op.equalIn (d + 2) 35 (.agg #[.int .i64 K1, .int .i64 P1]) (.agg #[.int .i64 K2, .int .i64 P2])).run Try.prog w = .ok (K1 == K2 && P1 == P2) w := by
  rw [run_equalIn_agg w (d + 1) 35 _ _ und35 stood35]
  simp only [Program.fieldsOf, Try.underlying35]
  rcases Bool.eq_false_or_eq_true (K1 == K2) with h1 | h1 <;> rcases Bool.eq_false_or_eq_true (P1 == P2) with h3 | h3 <;>
    simp [go_sem, h1, h3, Try.underlying3, Try.underlying24]
def faultB (K1 K2 P1 P2 : Int) : Bool := K1 == K2 && P1 == P2
theorem eql_fault (K1 K2 P1 P2 : Int) (w : World) :
    (binOp .eql 35 (.agg #[.int .i64 K1, .int .i64 P1]) (.agg #[.int .i64 K2, .int .i64 P2])).run Try.prog w = .ok (.bool (faultB K1 K2 P1 P2)) w := by
  rw [run_eql_struct, show (10000 : Nat) = 9998 + 2 from rfl, equal_fault]; rfl
theorem guard_fault (op : BinOp) (x y : Operand) (xs ys : Array Value) (w : World) : (eqGuard op 35 x y (.agg xs) (.agg ys)).run Try.prog w = .ok () w := run_eqGuard_agg w op 35 x y xs ys guard35
theorem tokB_str (K1 K2 : Int) (P1 P2 : Nat) (T1 T2 : Bytes) : tokB K1 K2 P1 P2 (str T1) (str T2) = decide ((⟨K1, T1, P1⟩ : Tok) = ⟨K2, T2, P2⟩) := by
  unfold tokB; rw [str_toList, str_toList, Bool.eq_iff_iff]
  simp [Tok.mk.injEq, Int.natCast_inj]

attribute [local go_sem ↓] neq_tok eql_tok guard_tok eql_fault guard_fault
theorem take_next {α : Type} {l m : List α} {k : Nat} {a : α} (h : l.take k = m.take k) (h1 : l[k]? = some a) (h2 : m[k]? = some a) : l.take (k + 1) = m.take (k + 1) := by
  rw [List.take_add_one, List.take_add_one, h, h1, h2]
set_option maxHeartbeats 800000 in
theorem same_any (u v : Value) (l m : List Tok) (w : World) (hu : Toks w u l) (hv : Toks w v m) :
    Calls Try.prog 26 #[u, v] w fun e w' => e = .returned (.bool (decide (l = m))) ∧ ∃ n, w' = w.drewN n := by
  obtain ⟨A, c, rfl, h1, h2, hA⟩ := hu
  obtain ⟨B, d, rfl, h3, h4, hB⟩ := hv
  unfold maxLen at h2 h4
  have HA := Lib.hid hA
  have HB := Lib.hid hB
  clear hA hB
  by_cases hlm : l.length = m.length
  · have hE : ((l.length : Int) != (m.length : Int)) = false := by simp [hlm]
    have HLM := Lib.hid hlm
    clear hlm
    go_enter Try.func26, Try.ntmps26
    go_wp2
    go_loopw [5] (fun i wr => ∃ k n : Nat, k ≤ l.length ∧ i = .int .i64 k ∧ wr = w.drewN n ∧ l.take k = m.take k) (fun i _ => l.length - (intOf i).toNat)
    case atStart => exact ⟨0, 0, Nat.zero_le _, rfl, rfl, by simp⟩
    case round =>
      obtain ⟨k, n, hk, rfl, rfl, ht⟩ := hrel
      have HT := Lib.hid ht
      clear ht
      by_cases hlt : k < l.length
      · have hlt2 : k < m.length := by rw [← HLM.out]; exact hlt
        obtain ⟨t1, ht1⟩ : ∃ t, l[k]? = some t := ⟨_, List.getElem?_eq_getElem hlt⟩
        obtain ⟨t2, ht2⟩ : ∃ t, m[k]? = some t := ⟨_, List.getElem?_eq_getElem hlt2⟩
        obtain ⟨g, rfl, hg, a0, a1, a2⟩ := HA.out k t1 ht1
        obtain ⟨g', rfl, hg', b0, b1, b2⟩ := HB.out k t2 ht2
        obtain ⟨K1, T1, P1⟩ := t1
        obtain ⟨K2, T2, P2⟩ := t2
        have H1 := Lib.hid ht1
        have H2 := Lib.hid ht2
        simp only at a0 a1 a2 b0 b1 b2
        clear ht1 ht2
        rcases Bool.eq_false_or_eq_true (tokB K1 K2 P1 P2 (str T1) (str T2)) with hq | hq
        · have HQ := Lib.hid (show l.take (k + 1) = m.take (k + 1) from take_next HT.out H1.out (by rw [H2.out]; rw [tokB_str] at hq; rw [of_decide_eq_true hq]))
          go_wp2
          go_quiet (fail)
          go_wp2
          go_roundw
          case rel => exact ⟨k + 1, _, by omega, by go_num, rfl, HQ.out⟩
          case measure => simp [intOf]; omega
        · have HQ := Lib.hid (show decide (l = m) = false from decide_eq_false (by
            rintro rfl
            have := H1.out.symm.trans H2.out
            rw [tokB_str] at hq
            exact absurd (Option.some.inj this) (of_decide_eq_false hq)))
          go_wp2
          go_quiet (fail)
          go_wp2
          go_ret
          exact ⟨ret_bool HQ.out.symm, n + nq, by rw [World.drewN_drewN]⟩
      · have HQ := Lib.hid (show decide (l = m) = true from decide_eq_true (by
          have := HT.out
          rw [List.take_of_length_le (by omega), List.take_of_length_le (by rw [← HLM.out]; omega)] at this
          exact this))
        go_wp2
        go_ret
        exact ⟨ret_bool HQ.out.symm, n, rfl⟩
  · have hE : ((l.length : Int) != (m.length : Int)) = true := by rw [bne_iff_ne]; omega
    have e : decide (l = m) = false := decide_eq_false (by rintro rfl; exact hlm rfl)
    rw [e]
    go_enter Try.func26, Try.ntmps26
    go_wp2
    go_ret
    exact ⟨rfl, 0, rfl⟩
end Go.Proofs.Ytgligmdkikbdoaa.Lx
