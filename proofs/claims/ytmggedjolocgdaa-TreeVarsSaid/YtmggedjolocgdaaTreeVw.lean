/- a step of a drawn region that calls func 31, read by looking -/
import Derived.Test.YtmggedjolocgdaaTreeT6
import Derived.Test.YtmggedjolocgdaaTreeLb
import Derived.Test.YtmggedjolocgdaaTreeLj
namespace Go.Proofs.Ytmggedjolocgdaa.Tr
open Go.ChangeShapes Go.WideShapes Go.ChangeAt Go.RowKit
set_option linter.unusedVariables false
set_option linter.unusedSimpArgs false

theorem enter31 (x y : Value) (w : World) : (callFunc 31 #[x, y]).run Try.prog w = .ok (.enter 31 #[x, y]) w := by
  go_simp

theorem step_call31 {ops : Array Oper} {o : Oper} {a : Act} {w : World} {K : Act → World → Prop} {Q : Exit → Act → World → Prop} {E : Prop}
    (x y : Operand) (tx ty : TypeId) (vx vy : Value)
    (hop : o.op = Op.call { callee := Callee.value (Operand.func 31), args := #[x, y], argTypes := #[tx, ty] })
    (hw : Region.wanted o (yielded ops a.tmps) = true) (hx : a.eval x = vx) (hy : a.eval y = vy)
    (h : Calls Try.prog 31 #[vx, vy] w fun e w' => ∃ v, e = .returned v ∧ K (a.put o.dst v) w') :
    if Region.wanted o (yielded ops a.tmps) = true then Oper.wp Try.prog o a w K Q else E := by
  rw [if_pos hw]
  unfold Oper.wp
  have he : execOp a.eval o = callFunc 31 #[vx, vy] := by
    obtain ⟨dst, op, type, pos, after, guard⟩ := o
    dsimp only at hop
    subst hop hx hy
    exact (execOp_call_go a dst 31 #[x, y] #[tx, ty] type pos after guard).trans (by simp)
  rw [he, enter31, Oper.upon_enter]
  refine h.mono ?_
  rintro e w' ⟨v, rfl, hk⟩
  exact hk
end Go.Proofs.Ytmggedjolocgdaa.Tr
