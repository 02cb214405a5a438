/- The function filled lays what is put in the places of an expression's nodes. Conditions: the expression is in order; what is put is read as lists of nodes. -/
import Derived.Test.YtmggedjolocgdaaTreePa
namespace Go.Proofs.Ytmggedjolocgdaa.Tr
open Go.ChangeShapes Go.WideShapes Go.ChangeAt Go.RowKit Go.Maps Go.WideMaps
set_option linter.unusedVariables false
set_option linter.unusedSimpArgs false

/-- What the closure of Put works on. -/
structure PutEnv (b : Nat) (p1 p2 : Addr) (B m : Nat) (D : DataW Unit) (names : List Bytes) (pv : Value) (ps : List (List Nd)) (w : World) : Prop where
  c1 : w.cell? p1 = some (.map (some B))
  c2 : w.cell? p2 = some pv
  parts : Parts w b pv ps
  map : w.ownsMap Try.prog 9 (plainElem Try.prog 3) B m D
  first : First D names
  len : names.length = ps.length
  base : b ≤ w.heap.size
theorem PutEnv.below {b : Nat} {p1 p2 : Addr} {B m : Nat} {D : DataW Unit} {names : List Bytes} {pv : Value} {ps : List (List Nd)} {w w' : World} (h : PutEnv b p1 p2 B m D names pv ps w) (hb : Below w.heap.size w w') : PutEnv b p1 p2 B m D names pv ps w' :=
  ⟨(hb.cell (World.block_lt_of_cell? w _ h.c1)).trans h.c1, (hb.cell (World.block_lt_of_cell? w _ h.c2)).trans h.c2, h.parts.keep h.base hb.size (fun g hg => hb.block g (by have := h.base; omega)),
    h.map.kept (row := none) ⟨hb.os, hb.tape, hb.output, hb.size, fun k hk _ => hb.block k hk⟩ (by simp), h.first, h.len, Nat.le_trans h.base hb.size⟩
theorem PutEnv.put {b : Nat} {p1 p2 : Addr} {B m : Nat} {D : DataW Unit} {names : List Bytes} {pv : Value} {ps : List (List Nd)} {w : World} (h : PutEnv b p1 p2 B m D names pv ps w) (x : Nd) (hx : x.name.length ≤ maxLen) :
    Calls Try.prog 51 #[.agg #[.int .i64 x.op, .int .i64 x.a, .int .i64 x.b, .int .i64 x.c, .int .i64 x.n, .string (str x.name)], .pointer (some p1), .pointer (some p2)] w (PutPost w b (putP names ps x)) :=
  put1_any x p1 p2 B m b D names pv ps w h.c1 h.c2 h.parts h.map h.first h.len hx
/-- How many nodes are put in the places of the first ones. -/
def sumP (P : Nd → List Nd) (l : List Nd) (k : Nat) : Nat := ((l.take k).map fun x => (P x).length).sum
theorem sumP_zero (P : Nd → List Nd) (l : List Nd) : sumP P l 0 = 0 := by simp [sumP]
theorem sumP_next (P : Nd → List Nd) (l : List Nd) (k : Nat) (x : Nd) (h : l[k]? = some x) : sumP P l (k + 1) = sumP P l k + (P x).length := by
  unfold sumP; rw [List.take_add_one, h, show (some x).toList = [x] from rfl, List.map_append, List.sum_append]; simp
theorem sumP_le (P : Nd → List Nd) (l : List Nd) (k : Nat) : sumP P l k ≤ roomOf P l := by
  refine Nat.le_trans ?_ (room_take P l k)
  unfold sumP roomOf
  induction l.take k with
  | nil => simp
  | cons a r ih => rw [List.map_cons, List.map_cons, List.sum_cons, List.sum_cons]; split <;> simp_all <;> omega
theorem fill_len_le (P : Nd → List Nd) (l : List Nd) (k : Nat) : (fillF P (l.take k)).1.length ≤ roomOf P l := by rw [fillF_len]; exact room_take P l k
theorem fill_step_len (P : Nd → List Nd) (l : List Nd) (k : Nat) (x : Nd) (h : l[k]? = some x) : (fillF P (l.take k)).1.length + (if P x = [] then 1 else (P x).length) ≤ roomOf P l := by
  have := fill_len_le P l (k + 1)
  rw [fillF_next P l k x h] at this
  unfold fillStep at this
  by_cases hp : P x = []
  · simp only [hp, if_true, List.length_append, List.length_singleton] at this ⊢; exact this
  · simp only [hp, if_false, behind_len] at this ⊢; exact this
theorem own_not {w : World} {b e s n g t : Nat} {v : Value} {xs : List Value} {cs : Array Value} {fr : Nat × Nat} (h : w.ownsRow b e s v n xs) (hg : w.heap[g]? = some (.cells cs t fr)) (hne : t ≠ e) : v.ownBlock ≠ some g := by
  intro hk
  rcases h.2 with ⟨h0, _⟩ | ⟨g', cap, cur, h1, _, h3, _⟩
  · rw [h0] at hk; simp [Value.ownBlock] at hk
  · rw [h1] at hk
    simp [Value.ownBlock] at hk
    subst hk
    rw [h3] at hg
    simp only [Option.some.injEq, Obj.cells.injEq] at hg
    exact hne hg.2.1.symm

/-- The second loop's relation: the first nodes are laid, or what is put in their places. -/
structure FillRel (w : World) (P : Nd → List Nd) (l : List Nd) (H k : Nat) (wr : World) (ov : Value) : Prop where
  le : k ≤ l.length
  hH : w.heap.size ≤ H
  own : wr.ownsRow w.heap.size 30 6 ov (fillF P (l.take k)).1.length (ndsOf (fillF P (l.take k)).1)
  row : wr.ownsRow w.heap.size 3 1 (.slice (some ⟨H, 0, none⟩) l.length l.length) l.length (intsOf ((fillF P (l.take k)).2 ++ List.replicate (l.length - k) 0))
  var : wr.heap[H + 1]? = some (.cells #[.slice (some ⟨H, 0, none⟩) l.length l.length] 27 (0, 0))
  below : Below w.heap.size w wr
/-- Behind what lays the next nodes. -/
structure FillMid (w : World) (P : Nd → List Nd) (l : List Nd) (H k : Nat) (w4 : World) (ov4 : Value) (N : Nat) : Prop where
  len : (fillF P (l.take (k + 1))).1.length = N
  own : w4.ownsRow w.heap.size 30 6 ov4 N (ndsOf (fillF P (l.take (k + 1))).1)
  row : w4.ownsRow w.heap.size 3 1 (.slice (some ⟨H, 0, none⟩) l.length l.length) l.length (intsOf ((fillF P (l.take k)).2 ++ List.replicate (l.length - k) 0))
  var : w4.heap[H + 1]? = some (.cells #[.slice (some ⟨H, 0, none⟩) l.length l.length] 27 (0, 0))
  below : Below w.heap.size w w4
theorem FillRel.mid {w wr wA w4 : World} {P : Nd → List Nd} {l : List Nd} {H k N : Nat} {ov ov4 : Value} (h : FillRel w P l H k wr ov) (hA : Below wr.heap.size wr wA) (hg : wA.grownBy w4 ov.ownBlock)
    (hlen : (fillF P (l.take (k + 1))).1.length = N) (hown : w4.ownsRow w.heap.size 30 6 ov4 N (ndsOf (fillF P (l.take (k + 1))).1)) : FillMid w P l H k w4 ov4 N := by
  have hs := h.below.size
  have hsA := hA.size
  have oA := own_below h.own hA
  have rA := own_below h.row hA
  have hv := lt_of_block h.var
  have vA := (hA.block _ hv).trans h.var
  have hne := own_ne oA rA (by decide)
  have hnv := own_not oA vA (by decide)
  refine ⟨hlen, hown, own_block rA (fun g hgb => hg.block g (rA.lt g hgb).2 (fun h' => hne g h'.symm hgb)), (hg.block _ (by omega) (fun h' => hnv h'.symm)).trans vA, ?_⟩
  exact (h.below.trans (hA.mono hs)).grown hg (by omega) (fun j hj => (oA.lt j hj).1)
theorem FillMid.step {w w4 : World} {P : Nd → List Nd} {l : List Nd} {H k N : Nat} {ov4 : Value} {x : Nd} (hx : l[k]? = some x) (hH : w.heap.size ≤ H) (h : FillMid w P l H k w4 ov4 N) : FillRel w P l H (k + 1) (w4.setCell ⟨H, k, none⟩ (.int .i64 ((N : Int) - 1))) ov4 := by
  have hk := (List.getElem?_eq_some_iff.1 hx).1
  have hne := own_ne h.own h.row (by decide)
  have e := fillF_next P l k x hx
  have h2 : (fillF P (l.take (k + 1))).2 = (fillF P (l.take k)).2 ++ [(N : Int) - 1] := by
    have := h.len
    rw [e] at this ⊢
    unfold fillStep at this ⊢
    simp only at this ⊢
    rw [this]
  have hA : (fillF P (l.take k)).2.length = k := by rw [fillF_at, List.length_take]; omega
  refine ⟨by omega, hH, ?_, ?_, ?_, h.below.setCell hH _⟩
  · rw [h.len]
    exact own_block h.own (fun g hgb => Below.heap_setCell _ _ _ _ (fun hh => hne g hgb (by simp [Value.ownBlock, hh])))
  · have := (h.row.stored k (.int .i64 ((N : Int) - 1))).1
    rw [← intsOf_set] at this
    have e2 : ((fillF P (l.take k)).2 ++ List.replicate (l.length - k) 0).set k ((N : Int) - 1) = (fillF P (l.take (k + 1))).2 ++ List.replicate (l.length - (k + 1)) 0 := by
      rw [h2, List.set_append_right _ _ (by omega), hA, Nat.sub_self, show l.length - k = (l.length - (k + 1)) + 1 by omega, List.replicate_succ, List.set_cons_zero, List.append_assoc]; rfl
    rw [e2] at this
    exact this
  · rw [Below.heap_setCell _ _ _ _ (by simp)]; exact h.var
end Go.Proofs.Ytmggedjolocgdaa.Tr
