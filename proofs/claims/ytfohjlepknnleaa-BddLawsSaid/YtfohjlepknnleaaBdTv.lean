/- A choice of three functions in a draft. Conditions: none. -/
import Derived.Test.YtfohjlepknnleaaBdTu
namespace Go.Proofs.Ytfohjlepknnleaa.Bd
open Go.ChangeShapes Go.WideShapes Go.ChangeAt Go.RowKit
set_option linter.unusedVariables false
set_option linter.unusedSimpArgs false

theorem choose_any (P : Dp) (E : Nat) : ∀ (d : Nat) (w : World) (fv : Value) (F : List Nd) (f g h : Nat), Dr P w fv F → Ch P E (P.S ++ F) True w → f < (P.S ++ F).length → g < (P.S ++ F).length → h < (P.S ++ F).length → P.vars - mn (P.S ++ F) f g h ≤ d →
    Calls Try.prog 47 #[.int .i64 (f : Int), .int .i64 (g : Int), .int .i64 (h : Int), .pointer (some ⟨E + 1, 0, none⟩)] w (ChPost P E w fv F f g h (2 ^ d - 1)) := by
  intro d
  induction d with
  | zero =>
    intro w fv F f g h hD hC lf lg lh hm
    refine choose_of P E w fv F hD hC f g h _ lf lg lh (fun h2 => ?_)
    have := tst_lt hD.good h2 lf
    have := (mn_le (ns := P.S ++ F) (a := f) (b := g) (c := h)).1
    omega
  | succ d ih =>
    intro w fv F f g h hD hC lf lg lh hm
    refine choose_of P E w fv F hD hC f g h _ lf lg lh (fun h2 => ?_)
    have h3 := tst_lt hD.good h2 lf
    have h4 := (mn_le (ns := P.S ++ F) (a := f) (b := g) (c := h)).1
    refine down_of P E w fv F hD hC f g h _ lf lg lh (fun W hb => ?_)
    have hp : 2 * (2 ^ d - 1) + 1 = 2 ^ (d + 1) - 1 := by
      have : 0 < 2 ^ d := Nat.two_pow_pos _
      rw [Nat.pow_succ]; omega
    rw [← hp]
    refine reckon_of P E W fv F (hD.kept hb) (hC.kept hb) f g h _ (2 ^ d - 1) lf lg lh rfl (by omega) (fun W1 fv1 F1 a b c hD1 hC1 la lb lc hi => ?_)
    exact ih W1 fv1 F1 a b c hD1 hC1 la lb lc (by omega)
end Go.Proofs.Ytfohjlepknnleaa.Bd
