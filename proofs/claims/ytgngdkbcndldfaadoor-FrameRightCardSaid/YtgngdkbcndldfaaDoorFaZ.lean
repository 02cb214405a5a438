/- What the listed variables are worth to layer frame. Conditions: they read as their own texts lay them. -/
import Derived.Test.YtgngdkbcndldfaaDoorFaE
import Derived.Test.YtgngdkbcndldfaaDoorRows
import Derived.Test.YtgngdkbcndldfaaDoorTie
import Derived.ProofKit
import Derived.LaidMore
import Derived.OpenShut
import Derived.Stop.Joined
import Derived.Shelf.Vars
namespace Go.Proofs.YtgngdkbcndldfaaDoor.Fr
open Go.ChangeShapes Go.WideShapes Go.ChangeAt Go.WideMaps Go.WideElems Go.RowKit
set_option maxRecDepth 100000
set_option linter.unusedVariables false
set_option linter.unusedSimpArgs false
def laid5 : List (String × DataW Unit) := [("math/bits.deBruijn32tab", Rows.laid_math_bits_deBruijn32tab), ("math/bits.deBruijn64tab", Rows.laid_math_bits_deBruijn64tab), ("internal/strconv.uint64pow10", Rows.laid_internal_strconv_uint64pow10), ("strconv.ErrRange", Rows.laid_strconv_ErrRange), ("strconv.ErrSyntax", Rows.laid_strconv_ErrSyntax)]
theorem gPow : Tryd.prog.globalNamed "internal/strconv.uint64pow10" = some 3 := by kernel_rfl
theorem gRng : Tryd.prog.globalNamed "strconv.ErrRange" = some 2 := by kernel_rfl
theorem gSyn : Tryd.prog.globalNamed "strconv.ErrSyntax" = some 1 := by kernel_rfl
theorem pow_eq : (Rows.laid_internal_strconv_uint64pow10 : DataW Unit) = Lib.tabData .u64 Lib.pow10Tab := by kernel_rfl
theorem err_cell {enc : TypeId × Value → Unit} {w : World} {base : Nat} {sp : Nat → Bool} {held : Bool} {fuel : Nat} {cs : Array Value} {d : DataW Unit} {p : List MemPlace}
    (h : DataW.trod enc Tryd.prog w base sp held fuel 54 cs.toList = some (d, p)) : ∃ ev, cs = #[ev] ∧ (ev = .nilIface ∨ ∃ te pe, ev = .iface te pe) := by
  obtain ⟨l⟩ := cs
  cases fuel with
  | zero => simp [DataW.trod] at h
  | succ fuel =>
    unfold DataW.trod at h
    rw [Tryd.underlying54] at h
    simp only at h
    have key : ∃ ev, l = [ev] ∧ (ev = .nilIface ∨ ∃ te pe, ev = .iface te pe) := by
      revert h
      cases l with
      | nil => intro h; simp at h
      | cons a r =>
        cases r with
        | cons b r => intro h; cases a <;> simp at h
        | nil => intro h; cases a <;> simp at h <;> first | exact ⟨_, rfl, .inl rfl⟩ | exact ⟨_, rfl, .inr ⟨_, _, rfl⟩⟩
    obtain ⟨ev, rfl, hev⟩ := key
    exact ⟨ev, rfl, hev⟩
theorem fr_of {W : World} (h : laidMetH Tryd.prog laid5 W) (hs : W.ShapedOpen Tryd.prog) : FrAt W := by
  rw [MakeChecks.laidMetH_plain _ _ _ (by kernel_rfl)] at h
  obtain ⟨ps, ⟨g0, t0, cs0, f0, p0, q0, hg0, ht0, hv0, hd0, ⟨g1, t1, cs1, f1, p1, q1, hg1, ht1, hv1, hd1, ⟨g2, t2, cs2, f2, p2, q2, hg2, ht2, hv2, hd2, ⟨g3, t3, cs3, f3, p3, q3, hg3, ht3, hv3, hd3, ⟨g4', t4, cs4, f4, p4, q4, hg4, ht4, hv4, hd4, _, _⟩, _⟩, _⟩, _⟩, _⟩, _, _⟩ := h
  clear hd0 hd1
  obtain rfl := Option.some.inj (gPow.symm.trans hg2)
  obtain rfl := Option.some.inj (gRng.symm.trans hg3)
  obtain rfl := Option.some.inj (gSyn.symm.trans hg4)
  have tP : (Tryd.prog.globals[3]?).map (·.type) = some 108 := by kernel_rfl
  obtain rfl := Option.some.inj (tP.symm.trans ht2)
  have tR : (Tryd.prog.globals[2]?).map (·.type) = some 54 := by kernel_rfl
  obtain rfl := Option.some.inj (tR.symm.trans ht3)
  have tS : (Tryd.prog.globals[1]?).map (·.type) = some 54 := by kernel_rfl
  obtain rfl := Option.some.inj (tS.symm.trans ht4)
  obtain ⟨e3, rfl, h3⟩ := err_cell hd3
  obtain ⟨e4, rfl, h4⟩ := err_cell hd4
  obtain ⟨s0, hs0⟩ := cell_of_shapedOpen_int (P := Tryd.prog) (g := 0) (t := 3) (zero := #[.int .i64 0]) hs (of_decide_eq_true (by kernel_rfl)) (by kernel_rfl) rfl (by kernel_rfl) (by kernel_rfl) Tryd.underlying3
  refine ⟨⟨s0, hs0⟩, ⟨e4, (World.var?_cell hg4 hv4 0).trans rfl, h4⟩, ⟨e3, (World.var?_cell hg3 hv3 0).trans rfl, h3⟩, ?_⟩
  rw [pow_eq] at hd2
  have := Lib.cells_of_tab Tryd.underlying108 Tryd.underlying92 (by kernel_rfl) (by kernel_rfl) hd2
  unfold Lib.TabIs
  rw [hv2, ← this]
end Go.Proofs.YtgngdkbcndldfaaDoor.Fr
