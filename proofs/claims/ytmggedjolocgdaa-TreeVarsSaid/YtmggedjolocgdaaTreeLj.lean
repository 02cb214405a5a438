/- The row's last step for a statement that answers one bool: what lay there before the call is as it was, new memory may have come; what the laws share. Conditions: none. -/
import Derived.Test.YtmggedjolocgdaaTreeLb
import Derived.Below
import Derived.ChangeSame
namespace Go.Proofs.Ytmggedjolocgdaa.Tr
open Go.RowKit Go.WideShapes Go.ChangeShapes
set_option linter.unusedVariables false
set_option linter.unusedSimpArgs false
theorem post_kept {H : Type} {enc : TypeId × Value → H} {P : Program} {f : Func} {s : ChangeSpec} {apart : Bool} {W W' : World} {args : Array Value} {v : Value} {ds gs : List (DataW H)} {before pa pv : List MemPlace}
    (hW : DataW.Whole enc P f.params.toList s.vars apart W args.toList ds gs before)
    (hres : ∀ b, DataW.TrodAll enc P W' b (fun _ => false) false f.resultTypes.toList (v.resultList f.resultTypes.size) (s.fn H (ds ++ gs)).results [])
    (hargs : DataW.TrodAll enc P W' 0 (fun b => decide (b < W.heap.size)) true f.params.toList args.toList (s.fn H (ds ++ gs)).args pa)
    (hvars : DataW.TrodVars enc P W' (fun b => decide (b < W.heap.size)) s.vars (s.fn H (ds ++ gs)).vars pv)
    (hb : Below W.heap.size W W') : s.post enc P f apart true false false W args v W' :=
  ⟨ds, gs, before, [], pa, pv, hW, hres _, hargs, hvars, hb.frame _, fun h => nomatch h⟩
theorem few_lit (v : Value) (e : List Nd) (m : Int) (b : Bool) (w : World) (hv : Nodes w v e) (h : decide ((e.length : Int) ≤ m) = b) : Calls Try.prog 11 #[v, .int .i64 m] w fun r w' => r = .returned (.bool b) ∧ w = w' := by rw [← h]; exact few_any v e m w hv
theorem norm_eq {e : List Nd} (h : May e) : normB e = normM e := by
  have hp := h.pos
  unfold normB subM
  rw [if_pos ⟨may_yes h, by omega, by omega⟩, show ((e.length : Int) - 1).toNat = e.length - 1 by omega]; rfl
theorem norm_depth {e : List Nd} (h : May e) : depthM (normM e) = depthM e := by rw [← h.norm.root_depth, h.root_norm, h.root_depth]
end Go.Proofs.Ytmggedjolocgdaa.Tr
