/- The variable of the error of a number's form, out of what the card lays. Conditions: none. -/
import Derived.Test.YtgohhnbdicdenaaGreatDoorPz06
import Derived.Test.YtgohhnbdicdenaaGreatDoorRows
import Derived.Test.YtgohhnbdicdenaaGreatDoorTie
import Derived.ProofKit
import Derived.LaidMore
import Derived.OpenShut
import Derived.Stop.Joined
import Derived.Below
import Derived.ChangeSame
namespace Go.Proofs.YtgohhnbdicdenaaGreatDoor.Ex
open Go.ChangeShapes Go.WideShapes Go.ChangeAt Go.WideMaps Go.WideElems Go.RowKit
set_option maxRecDepth 100000
def laid5 : List (String × DataW Unit) := [("math/bits.deBruijn32tab", Rows.laid_math_bits_deBruijn32tab), ("math/bits.deBruijn64tab", Rows.laid_math_bits_deBruijn64tab), ("internal/strconv.uint64pow10", Rows.laid_internal_strconv_uint64pow10), ("strconv.ErrRange", Rows.laid_strconv_ErrRange), ("strconv.ErrSyntax", Rows.laid_strconv_ErrSyntax)]
theorem g4 : Tryz.prog.globalNamed "strconv.ErrSyntax" = some 5 := by kernel_rfl

theorem var_of {W : World} (h : laidMetH Tryz.prog laid5 W) : VarAt W W.heap.size := by
  rw [MakeChecks.laidMetH_plain _ _ _ (by kernel_rfl)] at h
  obtain ⟨ps, ⟨g0, t0, cs0, f0, p0, q0, hg0, ht0, hv0, hd0, ⟨g1, t1, cs1, f1, p1, q1, hg1, ht1, hv1, hd1, ⟨g2, t2, cs2, f2, p2, q2, hg2, ht2, hv2, hd2, ⟨g3, t3, cs3, f3, p3, q3, hg3, ht3, hv3, hd3, ⟨g4', t4, cs4, f4, p4, q4, hg4, ht4, hv4, hd4, _, _⟩, _⟩, _⟩, _⟩, _⟩, _, _⟩ := h
  clear hd0 hd1 hd2 hd3
  obtain rfl := Option.some.inj (g4.symm.trans hg4)
  have tT : (Tryz.prog.globals[5]?).map (·.type) = some 117 := by kernel_rfl
  obtain rfl := Option.some.inj (tT.symm.trans ht4)
  have hc : ∀ i, W.cell? ⟨5, i, none⟩ = cs4[i]? := fun i => World.var?_cell hg4 hv4 i
  obtain ⟨l4⟩ := cs4
  cases f4 with
  | zero => simp [DataW.trod] at hd4
  | succ f4 =>
    unfold DataW.trod at hd4
    rw [Tryz.underlying117] at hd4
    simp only at hd4
    have key : ∃ ev, l4 = [ev] ∧ (ev = .nilIface ∨ ∃ te pe, ev = .iface te pe) := by
      revert hd4
      cases l4 with
      | nil => intro h; simp at h
      | cons a r =>
        cases r with
        | cons b r => intro h; cases a <;> simp at h
        | nil => intro h; cases a <;> simp at h <;> first | exact ⟨_, rfl, .inl rfl⟩ | exact ⟨_, rfl, .inr ⟨_, _, rfl⟩⟩
    obtain ⟨ev, rfl, hev⟩ := key
    have h0 : W.cell? ⟨5, 0, none⟩ = some ev := (hc 0).trans rfl
    have hlt : 5 < W.heap.size := by
      rcases Nat.lt_or_ge 5 W.heap.size with h | h
      · exact h
      · simp [World.cell?, Array.getElem?_eq_none h] at h0
    exact ⟨hlt, hlt, ev, h0, hev⟩
end Go.Proofs.YtgohhnbdicdenaaGreatDoor.Ex

/- The row's last step for a statement that answers one bool: what lay there before the call is as it was, new memory may have come. Conditions: none. -/
namespace Go.Proofs.YtgohhnbdicdenaaGreatDoor.Lx
open Go.RowKit Go.WideShapes Go.ChangeShapes
theorem post_kept {H : Type} {enc : TypeId × Value → H} {P : Program} {f : Func} {s : ChangeSpec} {apart : Bool} {W W' : World} {args : Array Value} {v : Value} {ds gs : List (DataW H)} {before pa pv : List MemPlace}
    (hW : DataW.Whole enc P f.params.toList s.vars apart W args.toList ds gs before)
    (hres : ∀ b, DataW.TrodAll enc P W' b (fun _ => false) false f.resultTypes.toList (v.resultList f.resultTypes.size) (s.fn H (ds ++ gs)).results [])
    (hargs : DataW.TrodAll enc P W' 0 (fun b => decide (b < W.heap.size)) true f.params.toList args.toList (s.fn H (ds ++ gs)).args pa)
    (hvars : DataW.TrodVars enc P W' (fun b => decide (b < W.heap.size)) s.vars (s.fn H (ds ++ gs)).vars pv)
    (hb : Below W.heap.size W W') : s.post enc P f apart true false false W args v W' :=
  ⟨ds, gs, before, [], pa, pv, hW, hres _, hargs, hvars, hb.frame _, fun h => nomatch h⟩
end Go.Proofs.YtgohhnbdicdenaaGreatDoor.Lx

