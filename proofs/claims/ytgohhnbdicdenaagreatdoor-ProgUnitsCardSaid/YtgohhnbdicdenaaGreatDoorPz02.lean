/- The functions that make one node of another: over, leaf, move, moved. Conditions: where a closure looks a number up, there is one. -/
import Derived.Test.YtgohhnbdicdenaaGreatDoorPz01
import Derived.Laws.CopyOwn
namespace Go.Proofs.YtgohhnbdicdenaaGreatDoor.Tr
open Go.ChangeShapes Go.WideShapes Go.ChangeAt Go.RowKit
set_option linter.unusedVariables false
set_option linter.unusedSimpArgs false

/-- A number counted on, where it is one. -/
def onM (f : Int) (k : Int) : Int := if 0 ≤ k then wrap64 (k + f) else k
theorem move_any (o a b c n f : Int) (s : ByteArray) (w : World) : Calls Tryz.prog 139 #[.agg #[.int .i64 o, .int .i64 a, .int .i64 b, .int .i64 c, .int .i64 n, .string s], .int .i64 f] w
    fun e w' => e = .returned (.agg #[.int .i64 o, .int .i64 (onM f a), .int .i64 (onM f b), .int .i64 (onM f c), .int .i64 n, .string s]) ∧ Below w.heap.size w w' := by
  by_cases h1 : 0 ≤ a <;> by_cases h2 : 0 ≤ b <;> by_cases h3 : 0 ≤ c
  all_goals
    have H := Lib.hid (show onM f a = onM f a ∧ onM f b = onM f b ∧ onM f c = onM f c from ⟨rfl, rfl, rfl⟩)
    unfold onM
    first | rw [if_pos h1] | rw [if_neg h1]
    first | rw [if_pos h2] | rw [if_neg h2]
    first | rw [if_pos h3] | rw [if_neg h3]
    go_enter Tryz.func139, Tryz.ntmps139
    go_wp2
  all_goals
    refine bodyPost_ret (v := .agg #[.int .i64 o, .int .i64 _, .int .i64 _, .int .i64 _, .int .i64 n, .string s]) ?_ rfl ⟨rfl, ?_⟩
    · simp [results, Tryz.results139, go_sem]
    · repeat (first | with_reducible refine Below.setCell ?_ (by simp) _ | with_reducible refine Below.alloc ?_ (by simp) _ | exact Below.refl _ _)

/-- A node over numbers. -/
def overM (o n : Int) (s : Bytes) (l : List Int) : Nd := ⟨o, l.getD 0 (-1), l.getD 1 (-1), l.getD 2 (-1), n, s⟩
theorem two_new (w : World) (o o' : Obj) : ((w.alloc o).alloc o').heap[w.heap.size + 1]? = some o' :=
  (congrArg (fun i => ((w.alloc o).alloc o').heap[i]?) (show w.heap.size + 1 = (w.alloc o).heap.size by simp)).trans (heap_alloc_new _ _)
theorem two_cell (w : World) {cs : Array Value} {t : TypeId} (o' : Obj) (o : Obj) (k : Nat) (ho : o = .cells cs t) : ((w.alloc o).alloc o').cell? ⟨w.heap.size, k, none⟩ = cs[k]? := by
  subst ho
  rw [World.cell?_alloc_lt _ _ _ (by simp)]
  have := heap_alloc_new w (.cells cs t)
  unfold World.cell?
  rw [this]; rfl
theorem set6 {w : World} {b : Nat} {c0 c1 c2 c3 c4 c5 : Value} (v0 v1 v2 v3 v4 v5 : Value) (h0 : w.cell? ⟨b, 0, none⟩ = some c0) (h1 : w.cell? ⟨b, 1, none⟩ = some c1) (h2 : w.cell? ⟨b, 2, none⟩ = some c2) (h3 : w.cell? ⟨b, 3, none⟩ = some c3) (h4 : w.cell? ⟨b, 4, none⟩ = some c4) (h5 : w.cell? ⟨b, 5, none⟩ = some c5) (W : World)
    (hW : W = ((((((w.setCell ⟨b, 0, none⟩ v0).setCell ⟨b, 1, none⟩ v1).setCell ⟨b, 2, none⟩ v2).setCell ⟨b, 3, none⟩ v3).setCell ⟨b, 4, none⟩ v4).setCell ⟨b, 5, none⟩ v5)) :
    W.cell? ⟨b, 0, none⟩ = some v0 ∧ W.cell? ⟨b, 1, none⟩ = some v1 ∧ W.cell? ⟨b, 2, none⟩ = some v2 ∧ W.cell? ⟨b, 3, none⟩ = some v3 ∧ W.cell? ⟨b, 4, none⟩ = some v4 ∧ W.cell? ⟨b, 5, none⟩ = some v5 := by
  subst hW
  have o : ∀ (w : World) (i j : Nat) (u : Value), i ≠ j → (w.setCell ⟨b, i, none⟩ u).cell? ⟨b, j, none⟩ = w.cell? ⟨b, j, none⟩ := fun w i j u h => World.cell?_setCell_other w _ _ u (by simp <;> omega)
  refine ⟨?_, ?_, ?_, ?_, ?_, ?_⟩
  · rw [o _ 5 0 _ (by omega)]; rw [o _ 4 0 _ (by omega)]; rw [o _ 3 0 _ (by omega)]; rw [o _ 2 0 _ (by omega)]; rw [o _ 1 0 _ (by omega)]; exact World.cell?_setCell_same _ _ _ (u := c0) (by exact h0)
  · rw [o _ 5 1 _ (by omega)]; rw [o _ 4 1 _ (by omega)]; rw [o _ 3 1 _ (by omega)]; rw [o _ 2 1 _ (by omega)]; exact World.cell?_setCell_same _ _ _ (u := c1) (by rw [o _ 0 1 _ (by omega)]; exact h1)
  · rw [o _ 5 2 _ (by omega)]; rw [o _ 4 2 _ (by omega)]; rw [o _ 3 2 _ (by omega)]; exact World.cell?_setCell_same _ _ _ (u := c2) (by rw [o _ 1 2 _ (by omega)]; rw [o _ 0 2 _ (by omega)]; exact h2)
  · rw [o _ 5 3 _ (by omega)]; rw [o _ 4 3 _ (by omega)]; exact World.cell?_setCell_same _ _ _ (u := c3) (by rw [o _ 2 3 _ (by omega)]; rw [o _ 1 3 _ (by omega)]; rw [o _ 0 3 _ (by omega)]; exact h3)
  · rw [o _ 5 4 _ (by omega)]; exact World.cell?_setCell_same _ _ _ (u := c4) (by rw [o _ 3 4 _ (by omega)]; rw [o _ 2 4 _ (by omega)]; rw [o _ 1 4 _ (by omega)]; rw [o _ 0 4 _ (by omega)]; exact h4)
  · exact World.cell?_setCell_same _ _ _ (u := c5) (by rw [o _ 4 5 _ (by omega)]; rw [o _ 3 5 _ (by omega)]; rw [o _ 2 5 _ (by omega)]; rw [o _ 1 5 _ (by omega)]; rw [o _ 0 5 _ (by omega)]; exact h5)
theorem over_cells {w' : World} {g : Nat} (l : List Int) (h : l.length ≤ 3) (hh : Hid (w'.heap[g]? = some (.cells (splice [.int .i64 (-1), .int .i64 (-1), .int .i64 (-1)] 0 (l.map (.int .i64 ·))).toArray 202 (0, 0)))) :
    w'.cell? ⟨g, 0, none⟩ = some (.int .i64 (l.getD 0 (-1))) ∧ w'.cell? ⟨g, 1, none⟩ = some (.int .i64 (l.getD 1 (-1))) ∧ w'.cell? ⟨g, 2, none⟩ = some (.int .i64 (l.getD 2 (-1))) := by
  match l, h with
  | [], _ => simp [World.cell?, hh.out, splice]
  | [i], _ => simp [World.cell?, hh.out, splice]
  | [i, j], _ => simp [World.cell?, hh.out, splice]
  | [i, j, k], _ => simp [World.cell?, hh.out, splice]
set_option maxHeartbeats 800000 in
theorem over_any (o n : Int) (s : ByteArray) (v : Value) (l : List Int) (w : World) (hv : Ints w v l) (h : l.length ≤ 3) : Calls Tryz.prog 173 #[.int .i64 o, .int .i64 n, .string s, v] w
    fun e w' => e = .returned (.agg #[.int .i64 o, .int .i64 (l.getD 0 (-1)), .int .i64 (l.getD 1 (-1)), .int .i64 (l.getD 2 (-1)), .int .i64 n, .string s]) ∧ Below w.heap.size w w' := by
  obtain ⟨A, c, rfl, h1, h2, hA⟩ := hv
  have HA := Lib.hid hA
  clear hA
  go_enter Tryz.func173, Tryz.ntmps173
  go_wp2_with (with_reducible refine wpList_copy_splice rfl (.tmp 11) (.tmp 12) 67 67 rfl 3 Tryz.underlying67 (by kernel_rfl) (some ⟨w.heap.size + 1, 0, none⟩) A 3 3 l.length c rfl rfl (w.heap.size + 1) 0 [.int .i64 (-1), .int .i64 (-1), .int .i64 (-1)] 202 ?hc (l.map (.int .i64 ·)) ?hn ?hp ?hf ?h1 (w.heap.size + 1) _ (Below.refl _ _) (Nat.le_refl _) ?_)
  case hc => exact two_new _ _ _
  case hn => rw [List.length_map]; exact (Nat.min_eq_left h).symm
  case hp =>
    intro hp
    obtain ⟨x, hx⟩ : ∃ x, l[0]? = some x := ⟨_, List.getElem?_eq_getElem hp⟩
    obtain ⟨g, o', rfl, hg, a0⟩ := HA.out 0 x hx
    refine ⟨_, rfl, fun j y hj => ?_⟩
    obtain ⟨g', o'', e, hg', b0⟩ := HA.out j y hj
    simp only [Option.some.injEq, Addr.mk.injEq, and_true] at e
    obtain ⟨rfl, rfl⟩ := e
    have : (⟨g, o', none⟩ : Addr).add j = ⟨g, o' + j, none⟩ := by unfold Addr.add; split <;> simp_all
    rw [this, World.cell?_alloc_lt _ _ _ (by simp; omega), World.cell?_alloc_lt _ _ _ (by exact hg')]
    exact b0
  case hf => simp; omega
  case h1 => intro u hu; simp at hu; obtain ⟨y, _, rfl⟩ := hu; rfl
  intro w' hh hb
  obtain ⟨d0, d1, d2⟩ := over_cells l h hh
  obtain ⟨x0, hx0⟩ : ∃ x, l.getD 0 (-1) = x := ⟨_, rfl⟩
  rw [hx0] at d0
  have HX0 := Lib.hid hx0
  clear hx0
  obtain ⟨x1, hx1⟩ : ∃ x, l.getD 1 (-1) = x := ⟨_, rfl⟩
  rw [hx1] at d1
  have HX1 := Lib.hid hx1
  clear hx1
  obtain ⟨x2, hx2⟩ : ∃ x, l.getD 2 (-1) = x := ⟨_, rfl⟩
  rw [hx2] at d2
  have HX2 := Lib.hid hx2
  clear hx2
  have hz := hb.size
  simp at hz
  have d8 : ∀ k : Nat, w'.cell? ⟨w.heap.size, k, none⟩ = _ := fun k => hb.cell (p := ⟨w.heap.size, k, none⟩) (by simp)
  have hB : Below w.heap.size w w' := (((Below.refl _ _).alloc (Nat.le_refl _) _).alloc (by simp) _).trans (hb.mono (by omega))
  have e0 := (d8 0).trans (two_cell _ _ _ 0 rfl)
  have e1 := (d8 1).trans (two_cell _ _ _ 1 rfl)
  have e2 := (d8 2).trans (two_cell _ _ _ 2 rfl)
  have e3 := (d8 3).trans (two_cell _ _ _ 3 rfl)
  have e4 := (d8 4).trans (two_cell _ _ _ 4 rfl)
  have e5 := (d8 5).trans (two_cell _ _ _ 5 rfl)
  simp at e0 e1 e2 e3 e4 e5
  have f8 : ∀ k : Nat, w'.frozen? ⟨w.heap.size, k, none⟩ = _ := fun k => hb.frozen (p := ⟨w.heap.size, k, none⟩) (by simp)
  have HBB := Lib.hid hB
  clear hB hb hh d8 HA
  go_wp2
  clear f8
  refine bodyPost_ret (v := .agg #[.int .i64 o, .int .i64 x0, .int .i64 x1, .int .i64 x2, .int .i64 n, .string s]) ?_ rfl ⟨by rw [HX0.out, HX1.out, HX2.out], ?_⟩
  rotate_left
  · repeat (first | with_reducible refine Below.setCell ?_ (by simp) _ | exact HBB.out)
  obtain ⟨W, hW⟩ : ∃ W, W = ((((((w'.setCell ⟨w.heap.size, 0, none⟩ (.int .i64 o)).setCell ⟨w.heap.size, 1, none⟩ (.int .i64 x0)).setCell ⟨w.heap.size, 2, none⟩ (.int .i64 x1)).setCell ⟨w.heap.size, 3, none⟩ (.int .i64 x2)).setCell ⟨w.heap.size, 4, none⟩ (.int .i64 n)).setCell ⟨w.heap.size, 5, none⟩ (.string s)) := ⟨_, rfl⟩
  obtain ⟨g0, g1, g2, g3, g4, g5⟩ := set6 _ _ _ _ _ _ e0 e1 e2 e3 e4 e5 W hW
  rw [← hW]
  clear hW HBB e0 e1 e2 e3 e4 e5 d0 d1 d2
  simp [results, Tryz.results173, go_sem, g0, g1, g2, g3, g4, g5]
end Go.Proofs.YtgohhnbdicdenaaGreatDoor.Tr

