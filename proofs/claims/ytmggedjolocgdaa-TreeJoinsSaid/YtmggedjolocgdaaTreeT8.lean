/- A node's cells kept by a call. Conditions: none. -/
import Derived.Test.YtmggedjolocgdaaTreeT7
namespace Go.Proofs.Ytmggedjolocgdaa.Tr
open Go.RowKit
set_option linter.unusedVariables false
theorem nd_below {wX wk : World} {g o : Nat} {x : Nd} (hb : Below wX.heap.size wX wk) (hg : g < wX.heap.size)
    (h : wX.cell? ⟨g, o, none⟩ = some (.int .i64 x.op) ∧ wX.cell? ⟨g, o + 1, none⟩ = some (.int .i64 x.a) ∧ wX.cell? ⟨g, o + 2, none⟩ = some (.int .i64 x.b) ∧ wX.cell? ⟨g, o + 3, none⟩ = some (.int .i64 x.c) ∧ wX.cell? ⟨g, o + 4, none⟩ = some (.int .i64 x.n) ∧ wX.cell? ⟨g, o + 5, none⟩ = some (.string (str x.name))) :
    wk.cell? ⟨g, o, none⟩ = some (.int .i64 x.op) ∧ wk.cell? ⟨g, o + 1, none⟩ = some (.int .i64 x.a) ∧ wk.cell? ⟨g, o + 2, none⟩ = some (.int .i64 x.b) ∧ wk.cell? ⟨g, o + 3, none⟩ = some (.int .i64 x.c) ∧ wk.cell? ⟨g, o + 4, none⟩ = some (.int .i64 x.n) ∧ wk.cell? ⟨g, o + 5, none⟩ = some (.string (str x.name)) := by
  obtain ⟨h0, h1, h2, h3, h4, h5⟩ := h
  exact ⟨(hb.cell hg).trans h0, (hb.cell hg).trans h1, (hb.cell hg).trans h2, (hb.cell hg).trans h3, (hb.cell hg).trans h4, (hb.cell hg).trans h5⟩
theorem rjoin_all (pv : Value) (ls : List (List Nd)) (o n : Int) (s : Bytes) (w : World) (hp : Parts w w.heap.size pv ls) (hn : roomM ls ≤ 80000) : Calls Try.prog 28 #[.int .i64 o, .int .i64 n, .string (str s), pv] w (NodesPost w (joinM o n s ls)) := by
  by_cases h : o = 27
  · subst h; exact rjoin_call pv ls n s w hp hn
  · exact rjoin_any pv ls o n s w hp hn h
end Go.Proofs.Ytmggedjolocgdaa.Tr
