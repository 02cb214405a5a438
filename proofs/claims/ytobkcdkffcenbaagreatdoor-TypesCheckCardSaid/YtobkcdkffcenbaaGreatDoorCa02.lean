/- Both functions Kids return the operands of a node, in order, in memory of their own. Conditions: none. -/
import Derived.Test.YtobkcdkffcenbaaGreatDoorCa01
import Derived.Deep.RegionHeld3
import Derived.Deep.AppendLies
import Derived.Laws.OwnMore
set_option linter.unusedVariables false
set_option linter.unusedSimpArgs false
namespace Go.Proofs.YtobkcdkffcenbaaGreatDoor.Tr
open Go.ChangeShapes Go.WideShapes Go.ChangeAt Go.RowKit
theorem ints_lit (w : World) (l : List Int) (h : l.length ≤ maxLen) : (w.alloc (.cells (intsOf l).toArray 3)).ownsRow w.heap.size 3 1 (.slice (some ⟨w.heap.size, 0, none⟩) l.length l.length) l.length (intsOf l) := by
  have := World.ownsRow_lit (base := w.heap.size) (e := 3) (size := 1) w (intsOf l).toArray l.length (Nat.le_refl _) h (by simp [intsOf])
  simpa using this
theorem ints_cell {w : World} {g : Nat} {x : Int} {c : Nat} (h : w.cell? ⟨g, 0, none⟩ = some (.int .i64 x)) (hc : 1 ≤ c) (hm : c ≤ maxLen) : Ints w (.slice (some ⟨g, 0, none⟩) 1 c) [x] := by
  refine ⟨some ⟨g, 0, none⟩, c, rfl, hc, hm, fun i y hi => ?_⟩
  cases i with
  | zero =>
    simp at hi; subst hi
    exact ⟨g, 0, rfl, World.block_lt_of_cell? w _ h, h⟩
  | succ i => simp at hi
theorem post_lit (W : World) (o : Obj) (l : List Int) (h : l.length ≤ 100) : IntsPost W l (.returned (.slice (some ⟨W.heap.size + 1, 0, none⟩) l.length l.length)) ((W.alloc o).alloc (.cells (intsOf l).toArray 3)) := by
  have := ints_lit (W.alloc o) l (by unfold maxLen; omega)
  rw [show (W.alloc o).heap.size = W.heap.size + 1 from by simp] at this
  exact ⟨_, rfl, own_base this (by omega), ((Below.refl _ _).alloc (Nat.le_refl _) _).alloc (by simp) _⟩
theorem post_none (W w' : World) (h : Below W.heap.size W w') : IntsPost W [] (.returned (.slice none 0 0)) w' := ⟨_, rfl, World.ownsRow_nil _ _ _ _, h⟩
theorem kids_unary (x : Nd) (h : unaryB x.op = true) : kidsM x = [x.a] := by unfold kidsM; rw [if_pos h]
theorem kidsM_bin (x : Nd) (h : binaryB x.op = true) : kidsM x = [x.a, x.b] := by
  unfold binaryB at h; simp at h
  have : unaryB x.op = false := by unfold unaryB; simp; omega
  unfold kidsM
  rw [this, if_neg (by simp), if_neg (by omega), if_neg (by omega), if_neg (by omega), if_pos (by unfold binaryB; simp; omega)]
theorem kidsM_else (x : Nd) (h : ∀ k ∈ [4, 5, 21, 22, 23, 24, 25, 26, 27, 28], x.op ≠ k) (hb : binaryB x.op = false) : kidsM x = [] := by
  simp at h
  apply kids_none _ _ _ _ hb
  · unfold unaryB; simp; omega
  all_goals omega
theorem news_one {w : World} {g : Nat} {x : Value} (h : w.cell? ⟨g, 0, none⟩ = some x) : ∀ (j : Nat) u, [x][j]? = some u → w.cell? ((⟨g, 0, none⟩ : Addr).add j) = some u := by
  intro j u hj
  cases j with
  | zero => simp at hj; subst hj; exact h
  | succ j => simp at hj
set_option maxRecDepth 100000 in
set_option maxHeartbeats 3200000 in
theorem kids28 (a b c n : Int) (s : ByteArray) (w : World) : Calls Tryz.prog 68 #[.agg #[.int .i64 28, .int .i64 a, .int .i64 b, .int .i64 c, .int .i64 n, .string s]] w (IntsPost w (heldM [b] ++ [a])) := by
  obtain ⟨i0, hi, hz0, hz1, hz2⟩ := info_parts info3
  have hs : (heldM [b]).length ≤ 1 := held_le [b] 1
  go_enter Tryz.func68, Tryz.ntmps68
  go_wp2_with fail
  go_region_held3 (fun w' => w'.cell? ⟨w.heap.size, 1, none⟩ = some (.int .i64 a) ∧ w'.cell? ⟨w.heap.size, 2, none⟩ = some (.int .i64 b))
    (first
      | go_keep
      | (go_split_ands; refine ⟨?_, ?_⟩ <;> (rw [hgrow.cell_far _ (by have := hb1.size; simp at this; first | omega | (simp; omega)) (fun h => by have := hown1.lt _ h.symm; simp at this; omega)]; assumption))
      | (refine ⟨?_, ?_⟩ <;> (rw [hb1.cell (by simp <;> omega)]; simp [World.cell?_alloc_some, World.cell?_alloc_at])))
    (first
      | (go_at_call 90; refine (held_any _ [b] _ (by exact ints_cell (by go_simp) (Nat.le_refl _) (by unfold maxLen; omega)) (by simp)).mono ?_; rintro e w1 ⟨v, rfl, hown1, hb1⟩)
      | (refine step_append_lies _ (by rfl) _ _ _ (by rfl) w.heap.size 3 i0 _ 1 8 Tryz.underlying72 hi hz0 hz1 hz2 rfl (by omega) v (heldM [b]).length (intsOf (heldM [b])) (by rfl) (own_base (hown1.alloc _) (by simp <;> omega)) ⟨w1.heap.size, 0, none⟩ 1 1 [.int .i64 a] (by rfl) (by rfl) (World.news_of_block (cs := #[.int .i64 a]) (t := 3) (fr := (0, 0)) (heap_alloc_new _ _)) (by simp [Value.oneCell']) (by omega) (by unfold maxLen; omega) (by omega) (by simp; have := hb1.size; simp at this; omega) (w1.heap.size + 1) (by simp) ?_; intro gg cap w2 hown2 hgrow hat hlt)
      | (refine step_append_lies _ (by rfl) _ _ _ (by rfl) w.heap.size 3 i0 _ 1 8 Tryz.underlying72 hi hz0 hz1 hz2 rfl (by omega) v (heldM [b]).length (intsOf (heldM [b])) (by rfl) (own_base hown1 (by simp <;> omega)) ⟨w.heap.size + 1, 0, none⟩ 1 1 [.int .i64 a] (by rfl) (by rfl) (news_one (by rw [hb1.cell (by simp <;> omega)]; simp [World.cell?_alloc_some, World.cell?_alloc_at])) (by simp [Value.oneCell']) (by omega) (by unfold maxLen; omega) (by omega) (by have := hb1.size; simp at this; omega) w1.heap.size (by simp) ?_; intro gg cap w2 hown2 hgrow hat hlt)
      | (refine step_append_lies _ (by rfl) _ _ _ (by rfl) w.heap.size 3 i0 _ 1 8 Tryz.underlying72 hi hz0 hz1 hz2 rfl (by omega) v (heldM [b]).length (intsOf (heldM [b])) (by rfl) (own_base hown1 (by simp <;> omega)) ⟨w.heap.size + 1 + 1, 0, none⟩ 1 1 [.int .i64 a] (by rfl) (by rfl) (news_one (by rw [hb1.cell (by simp <;> omega)]; simp [World.cell?_alloc_some, World.cell?_alloc_at])) (by simp [Value.oneCell']) (by omega) (by unfold maxLen; omega) (by omega) (by have := hb1.size; simp at this; omega) w1.heap.size (by simp) ?_; intro gg cap w2 hown2 hgrow hat hlt))
  all_goals
    have hz := hb1.size
    have hb0 : Below w.heap.size w w1 := by
      refine Below.trans ?_ (hb1.mono (by simp <;> omega))
      first
        | exact (((Below.refl _ _).alloc (Nat.le_refl _) _).alloc (by simp) _).drew
        | exact ((((Below.refl _ _).alloc (Nat.le_refl _) _).alloc (by simp) _).alloc (by simp <;> omega) _).drew
    simp at hz
    have hb2 : Below w.heap.size w w2 := by
      first
        | exact hb0.grown hgrow (by omega) (fun j hj => by have := hown1.lt j hj; simp at this; omega)
        | exact (hb0.alloc (by omega) _).grown hgrow (by simp <;> omega) (fun j hj => by have := hown1.lt j hj; simp at this; omega)
    clear hgrow hb1 hown1 hat hlt hb0 hz
    try go_wp2
    go_ret
    refine ⟨_, rfl, ?_, hb2⟩
    rw [ints_snoc, List.length_append]
    exact hown2
theorem kids_u4 (a b c n : Int) (s : ByteArray) (w : World) : Calls Tryz.prog 68 #[.agg #[.int .i64 4, .int .i64 a, .int .i64 b, .int .i64 c, .int .i64 n, .string s]] w (IntsPost w [a]) := by
  go_enter Tryz.func68, Tryz.ntmps68
  go_wp2
  go_ret
  exact post_lit w _ [a] (by simp)
theorem kids_u5 (a b c n : Int) (s : ByteArray) (w : World) : Calls Tryz.prog 68 #[.agg #[.int .i64 5, .int .i64 a, .int .i64 b, .int .i64 c, .int .i64 n, .string s]] w (IntsPost w [a]) := by
  go_enter Tryz.func68, Tryz.ntmps68
  go_wp2
  go_ret
  exact post_lit w _ [a] (by simp)
theorem kids_u21 (a b c n : Int) (s : ByteArray) (w : World) : Calls Tryz.prog 68 #[.agg #[.int .i64 21, .int .i64 a, .int .i64 b, .int .i64 c, .int .i64 n, .string s]] w (IntsPost w [a]) := by
  go_enter Tryz.func68, Tryz.ntmps68
  go_wp2
  go_ret
  exact post_lit w _ [a] (by simp)
theorem kids_u22 (a b c n : Int) (s : ByteArray) (w : World) : Calls Tryz.prog 68 #[.agg #[.int .i64 22, .int .i64 a, .int .i64 b, .int .i64 c, .int .i64 n, .string s]] w (IntsPost w [a]) := by
  go_enter Tryz.func68, Tryz.ntmps68
  go_wp2
  go_ret
  exact post_lit w _ [a] (by simp)
theorem kids_u23 (a b c n : Int) (s : ByteArray) (w : World) : Calls Tryz.prog 68 #[.agg #[.int .i64 23, .int .i64 a, .int .i64 b, .int .i64 c, .int .i64 n, .string s]] w (IntsPost w [a]) := by
  go_enter Tryz.func68, Tryz.ntmps68
  go_wp2
  go_ret
  exact post_lit w _ [a] (by simp)
theorem kids_u24 (a b c n : Int) (s : ByteArray) (w : World) : Calls Tryz.prog 68 #[.agg #[.int .i64 24, .int .i64 a, .int .i64 b, .int .i64 c, .int .i64 n, .string s]] w (IntsPost w [a]) := by
  go_enter Tryz.func68, Tryz.ntmps68
  go_wp2
  go_ret
  exact post_lit w _ [a] (by simp)
theorem kids_u25 (a b c n : Int) (s : ByteArray) (w : World) : Calls Tryz.prog 68 #[.agg #[.int .i64 25, .int .i64 a, .int .i64 b, .int .i64 c, .int .i64 n, .string s]] w (IntsPost w [a]) := by
  go_enter Tryz.func68, Tryz.ntmps68
  go_wp2
  go_ret
  exact post_lit w _ [a] (by simp)
theorem kids_26 (a b c n : Int) (s : ByteArray) (w : World) : Calls Tryz.prog 68 #[.agg #[.int .i64 26, .int .i64 a, .int .i64 b, .int .i64 c, .int .i64 n, .string s]] w (IntsPost w [a, b, c]) := by
  go_enter Tryz.func68, Tryz.ntmps68
  go_wp2
  go_ret
  exact post_lit w _ [a, b, c] (by simp)
set_option maxHeartbeats 800000 in
theorem kids_bin (o a b c n : Int) (s : ByteArray) (w : World) (h1 : 6 ≤ o) (h2 : o ≤ 20) : Calls Tryz.prog 68 #[.agg #[.int .i64 o, .int .i64 a, .int .i64 b, .int .i64 c, .int .i64 n, .string s]] w (IntsPost w [a, b]) := by
  have h4 : (o == 4) = false := by rw [beq_eq_false_iff_ne]; omega
  have h5 : (o == 5) = false := by rw [beq_eq_false_iff_ne]; omega
  have h21 : (o == 21) = false := by rw [beq_eq_false_iff_ne]; omega
  have h22 : (o == 22) = false := by rw [beq_eq_false_iff_ne]; omega
  have h23 : (o == 23) = false := by rw [beq_eq_false_iff_ne]; omega
  have h24 : (o == 24) = false := by rw [beq_eq_false_iff_ne]; omega
  have h25 : (o == 25) = false := by rw [beq_eq_false_iff_ne]; omega
  have h26 : (o == 26) = false := by rw [beq_eq_false_iff_ne]; omega
  have h27 : (o == 27) = false := by rw [beq_eq_false_iff_ne]; omega
  have h28 : (o == 28) = false := by rw [beq_eq_false_iff_ne]; omega
  go_enter Tryz.func68, Tryz.ntmps68
  go_wp2
  try go_quiet (fail)
  try go_wp2
  go_ret
  exact post_lit w _ [a, b] (by simp)
set_option maxHeartbeats 800000 in
theorem kids_else (o a b c n : Int) (s : ByteArray) (w : World) (h4 : (o == 4) = false) (h5 : (o == 5) = false) (h21 : (o == 21) = false) (h22 : (o == 22) = false) (h23 : (o == 23) = false) (h24 : (o == 24) = false) (h25 : (o == 25) = false) (h26 : (o == 26) = false) (h27 : (o == 27) = false) (h28 : (o == 28) = false) (hb : o < 6 ∨ 20 < o) : Calls Tryz.prog 68 #[.agg #[.int .i64 o, .int .i64 a, .int .i64 b, .int .i64 c, .int .i64 n, .string s]] w (IntsPost w []) := by
  by_cases h1 : 6 ≤ o
  · have h2 : 20 < o := by omega
    clear hb
    go_enter Tryz.func68, Tryz.ntmps68
    go_wp2
    go_ret
    exact post_none w _ ((Below.refl _ _).alloc (Nat.le_refl _) _)
  · clear hb
    go_enter Tryz.func68, Tryz.ntmps68
    go_wp2
    go_ret
    exact post_none w _ ((Below.refl _ _).alloc (Nat.le_refl _) _)
theorem rkids_u4 (a b c n : Int) (s : ByteArray) (w : World) : Calls Tryz.prog 24 #[.agg #[.int .i64 4, .int .i64 a, .int .i64 b, .int .i64 c, .int .i64 n, .string s]] w (IntsPost w [a]) := by
  go_enter Tryz.func24, Tryz.ntmps24
  go_wp2
  go_ret
  exact post_lit w _ [a] (by simp)
theorem rkids_u5 (a b c n : Int) (s : ByteArray) (w : World) : Calls Tryz.prog 24 #[.agg #[.int .i64 5, .int .i64 a, .int .i64 b, .int .i64 c, .int .i64 n, .string s]] w (IntsPost w [a]) := by
  go_enter Tryz.func24, Tryz.ntmps24
  go_wp2
  go_ret
  exact post_lit w _ [a] (by simp)
theorem rkids_u21 (a b c n : Int) (s : ByteArray) (w : World) : Calls Tryz.prog 24 #[.agg #[.int .i64 21, .int .i64 a, .int .i64 b, .int .i64 c, .int .i64 n, .string s]] w (IntsPost w [a]) := by
  go_enter Tryz.func24, Tryz.ntmps24
  go_wp2
  go_ret
  exact post_lit w _ [a] (by simp)
theorem rkids_u22 (a b c n : Int) (s : ByteArray) (w : World) : Calls Tryz.prog 24 #[.agg #[.int .i64 22, .int .i64 a, .int .i64 b, .int .i64 c, .int .i64 n, .string s]] w (IntsPost w [a]) := by
  go_enter Tryz.func24, Tryz.ntmps24
  go_wp2
  go_ret
  exact post_lit w _ [a] (by simp)
theorem rkids_u23 (a b c n : Int) (s : ByteArray) (w : World) : Calls Tryz.prog 24 #[.agg #[.int .i64 23, .int .i64 a, .int .i64 b, .int .i64 c, .int .i64 n, .string s]] w (IntsPost w [a]) := by
  go_enter Tryz.func24, Tryz.ntmps24
  go_wp2
  go_ret
  exact post_lit w _ [a] (by simp)
theorem rkids_u24 (a b c n : Int) (s : ByteArray) (w : World) : Calls Tryz.prog 24 #[.agg #[.int .i64 24, .int .i64 a, .int .i64 b, .int .i64 c, .int .i64 n, .string s]] w (IntsPost w [a]) := by
  go_enter Tryz.func24, Tryz.ntmps24
  go_wp2
  go_ret
  exact post_lit w _ [a] (by simp)
theorem rkids_u25 (a b c n : Int) (s : ByteArray) (w : World) : Calls Tryz.prog 24 #[.agg #[.int .i64 25, .int .i64 a, .int .i64 b, .int .i64 c, .int .i64 n, .string s]] w (IntsPost w [a]) := by
  go_enter Tryz.func24, Tryz.ntmps24
  go_wp2
  go_ret
  exact post_lit w _ [a] (by simp)
theorem rkids_26 (a b c n : Int) (s : ByteArray) (w : World) : Calls Tryz.prog 24 #[.agg #[.int .i64 26, .int .i64 a, .int .i64 b, .int .i64 c, .int .i64 n, .string s]] w (IntsPost w [a, b, c]) := by
  go_enter Tryz.func24, Tryz.ntmps24
  go_wp2
  go_ret
  exact post_lit w _ [a, b, c] (by simp)
set_option maxHeartbeats 800000 in
theorem rkids_bin (o a b c n : Int) (s : ByteArray) (w : World) (h1 : 6 ≤ o) (h2 : o ≤ 20) : Calls Tryz.prog 24 #[.agg #[.int .i64 o, .int .i64 a, .int .i64 b, .int .i64 c, .int .i64 n, .string s]] w (IntsPost w [a, b]) := by
  have h4 : (o == 4) = false := by rw [beq_eq_false_iff_ne]; omega
  have h5 : (o == 5) = false := by rw [beq_eq_false_iff_ne]; omega
  have h21 : (o == 21) = false := by rw [beq_eq_false_iff_ne]; omega
  have h22 : (o == 22) = false := by rw [beq_eq_false_iff_ne]; omega
  have h23 : (o == 23) = false := by rw [beq_eq_false_iff_ne]; omega
  have h24 : (o == 24) = false := by rw [beq_eq_false_iff_ne]; omega
  have h25 : (o == 25) = false := by rw [beq_eq_false_iff_ne]; omega
  have h26 : (o == 26) = false := by rw [beq_eq_false_iff_ne]; omega
  have h27 : (o == 27) = false := by rw [beq_eq_false_iff_ne]; omega
  have h28 : (o == 28) = false := by rw [beq_eq_false_iff_ne]; omega
  go_enter Tryz.func24, Tryz.ntmps24
  go_wp2
  try go_quiet (fail)
  try go_wp2
  go_ret
  exact post_lit w _ [a, b] (by simp)
set_option maxHeartbeats 800000 in
theorem rkids_else (o a b c n : Int) (s : ByteArray) (w : World) (h4 : (o == 4) = false) (h5 : (o == 5) = false) (h21 : (o == 21) = false) (h22 : (o == 22) = false) (h23 : (o == 23) = false) (h24 : (o == 24) = false) (h25 : (o == 25) = false) (h26 : (o == 26) = false) (h27 : (o == 27) = false) (h28 : (o == 28) = false) (hb : o < 6 ∨ 20 < o) : Calls Tryz.prog 24 #[.agg #[.int .i64 o, .int .i64 a, .int .i64 b, .int .i64 c, .int .i64 n, .string s]] w (IntsPost w []) := by
  by_cases h1 : 6 ≤ o
  · have h2 : 20 < o := by omega
    clear hb
    go_enter Tryz.func24, Tryz.ntmps24
    go_wp2
    go_ret
    exact post_none w _ ((Below.refl _ _).alloc (Nat.le_refl _) _)
  · clear hb
    go_enter Tryz.func24, Tryz.ntmps24
    go_wp2
    go_ret
    exact post_none w _ ((Below.refl _ _).alloc (Nat.le_refl _) _)
theorem kids_27 (a b c n : Int) (s : ByteArray) (w : World) : Calls Tryz.prog 68 #[.agg #[.int .i64 27, .int .i64 a, .int .i64 b, .int .i64 c, .int .i64 n, .string s]] w (IntsPost w (heldM [a])) := by
  go_enter Tryz.func68, Tryz.ntmps68
  go_wp2_with fail
  refine (held_any _ [a] _ (by exact ints_cell (by go_simp) (Nat.le_refl _) (by unfold maxLen; omega)) (by simp)).mono ?_
  rintro e w1 ⟨v, rfl, hown1, hb1⟩
  go_wp2
  go_ret
  exact ⟨_, rfl, own_base hown1 (by simp <;> omega), (((Below.refl _ _).alloc (Nat.le_refl _) _).alloc (by simp) _).trans (hb1.mono (by simp <;> omega))⟩
theorem rkids_27 (a b c n : Int) (s : ByteArray) (w : World) : Calls Tryz.prog 24 #[.agg #[.int .i64 27, .int .i64 a, .int .i64 b, .int .i64 c, .int .i64 n, .string s]] w (IntsPost w (heldM [a])) := by
  by_cases h : a = -1
  · subst h
    go_enter Tryz.func24, Tryz.ntmps24
    go_wp2
    go_ret
    exact post_none w _ ((Below.refl _ _).alloc (Nat.le_refl _) _)
  · have h' : (a != -1) = true := by simp [h]
    have H := Lib.hid (show heldM [a] = [a] by simp [heldM, h])
    clear h
    rw [H.out]
    go_enter Tryz.func24, Tryz.ntmps24
    go_wp2
    go_ret
    exact post_lit w _ [a] (by simp)
theorem rkids_28 (a b c n : Int) (s : ByteArray) (w : World) : Calls Tryz.prog 24 #[.agg #[.int .i64 28, .int .i64 a, .int .i64 b, .int .i64 c, .int .i64 n, .string s]] w (IntsPost w (heldM [b] ++ [a])) := by
  by_cases h : b = -1
  · subst h
    go_enter Tryz.func24, Tryz.ntmps24
    go_wp2
    go_ret
    exact post_lit w _ [a] (by simp)
  · have h' : (b != -1) = true := by simp [h]
    have H := Lib.hid (show heldM [b] ++ [a] = [b, a] by simp [heldM, h])
    clear h
    rw [H.out]
    go_enter Tryz.func24, Tryz.ntmps24
    go_wp2
    go_ret
    exact post_lit w _ [b, a] (by simp)
theorem kids_any (x : Nd) (w : World) : Calls Tryz.prog 68 #[.agg #[.int .i64 x.op, .int .i64 x.a, .int .i64 x.b, .int .i64 x.c, .int .i64 x.n, .string (str x.name)]] w (IntsPost w (kidsM x)) := by
  obtain ⟨o, a, b, c, n, s⟩ := x
  show Calls Tryz.prog 68 #[.agg #[.int .i64 o, .int .i64 a, .int .i64 b, .int .i64 c, .int .i64 n, .string (str s)]] w _
  by_cases h4 : o = 4
  · subst h4; exact kids_u4 a b c n _ w
  by_cases h5 : o = 5
  · subst h5; exact kids_u5 a b c n _ w
  by_cases h21 : o = 21
  · subst h21; exact kids_u21 a b c n _ w
  by_cases h22 : o = 22
  · subst h22; exact kids_u22 a b c n _ w
  by_cases h23 : o = 23
  · subst h23; exact kids_u23 a b c n _ w
  by_cases h24 : o = 24
  · subst h24; exact kids_u24 a b c n _ w
  by_cases h25 : o = 25
  · subst h25; exact kids_u25 a b c n _ w
  by_cases h26 : o = 26
  · subst h26; exact kids_26 a b c n _ w
  by_cases h27 : o = 27
  · subst h27; exact kids_27 a b c n _ w
  by_cases h28 : o = 28
  · subst h28; exact kids28 a b c n _ w
  by_cases hb : 6 ≤ o ∧ o ≤ 20
  · rw [kidsM_bin _ (by simp [binaryB, hb])]; exact kids_bin o a b c n _ w hb.1 hb.2
  · rw [kidsM_else _ (by simp; omega) (by simp [binaryB]; omega)]
    exact kids_else o a b c n _ w (by simp [h4]) (by simp [h5]) (by simp [h21]) (by simp [h22]) (by simp [h23]) (by simp [h24]) (by simp [h25]) (by simp [h26]) (by simp [h27]) (by simp [h28]) (by omega)
theorem rkids_any (x : Nd) (w : World) : Calls Tryz.prog 24 #[.agg #[.int .i64 x.op, .int .i64 x.a, .int .i64 x.b, .int .i64 x.c, .int .i64 x.n, .string (str x.name)]] w (IntsPost w (kidsM x)) := by
  obtain ⟨o, a, b, c, n, s⟩ := x
  show Calls Tryz.prog 24 #[.agg #[.int .i64 o, .int .i64 a, .int .i64 b, .int .i64 c, .int .i64 n, .string (str s)]] w _
  by_cases h4 : o = 4
  · subst h4; exact rkids_u4 a b c n _ w
  by_cases h5 : o = 5
  · subst h5; exact rkids_u5 a b c n _ w
  by_cases h21 : o = 21
  · subst h21; exact rkids_u21 a b c n _ w
  by_cases h22 : o = 22
  · subst h22; exact rkids_u22 a b c n _ w
  by_cases h23 : o = 23
  · subst h23; exact rkids_u23 a b c n _ w
  by_cases h24 : o = 24
  · subst h24; exact rkids_u24 a b c n _ w
  by_cases h25 : o = 25
  · subst h25; exact rkids_u25 a b c n _ w
  by_cases h26 : o = 26
  · subst h26; exact rkids_26 a b c n _ w
  by_cases h27 : o = 27
  · subst h27; exact rkids_27 a b c n _ w
  by_cases h28 : o = 28
  · subst h28; exact rkids_28 a b c n _ w
  by_cases hb : 6 ≤ o ∧ o ≤ 20
  · rw [kidsM_bin _ (by simp [binaryB, hb])]; exact rkids_bin o a b c n _ w hb.1 hb.2
  · rw [kidsM_else _ (by simp; omega) (by simp [binaryB]; omega)]
    exact rkids_else o a b c n _ w (by simp [h4]) (by simp [h5]) (by simp [h21]) (by simp [h22]) (by simp [h23]) (by simp [h24]) (by simp [h25]) (by simp [h26]) (by simp [h27]) (by simp [h28]) (by omega)
end Go.Proofs.YtobkcdkffcenbaaGreatDoor.Tr
namespace Go.Proofs.YtobkcdkffcenbaaGreatDoor.Tr
open Go.ChangeShapes Go.WideShapes Go.ChangeAt Go.RowKit
theorem deepF_take (D : List Nat) (l : List Int) : ∀ (acc : Nat) (j : Nat) (k : Int), l[j]? = some k →
    (l.take (j + 1)).foldl (fun (d : Nat) (k : Int) => if 0 ≤ k ∧ k < (D.length : Int) then max d (1 + D.getD k.toNat 0) else d) acc =
      if 0 ≤ k ∧ k < (D.length : Int) then max ((l.take j).foldl (fun (d : Nat) (k : Int) => if 0 ≤ k ∧ k < (D.length : Int) then max d (1 + D.getD k.toNat 0) else d) acc) (1 + D.getD k.toNat 0)
      else (l.take j).foldl (fun (d : Nat) (k : Int) => if 0 ≤ k ∧ k < (D.length : Int) then max d (1 + D.getD k.toNat 0) else d) acc := by
  intro acc j k h
  rw [List.take_add_one, h, List.foldl_append]; rfl
def dF (D : List Nat) (l : List Int) (j : Nat) : Nat := (l.take j).foldl (fun (d : Nat) (k : Int) => if 0 ≤ k ∧ k < (D.length : Int) then max d (1 + D.getD k.toNat 0) else d) 1
theorem dF_zero (D : List Nat) (l : List Int) : dF D l 0 = 1 := rfl
theorem dF_in {D : List Nat} {l : List Int} {j : Nat} {k : Int} (h : l[j]? = some k) (h0 : 0 ≤ k) (h1 : k < (D.length : Int)) : dF D l (j + 1) = max (dF D l j) (1 + D.getD k.toNat 0) := by
  unfold dF; rw [deepF_take D l 1 j k h, if_pos ⟨h0, h1⟩]
theorem dF_out {D : List Nat} {l : List Int} {j : Nat} {k : Int} (h : l[j]? = some k) (h0 : ¬ (0 ≤ k ∧ k < (D.length : Int))) : dF D l (j + 1) = dF D l j := by
  unfold dF; rw [deepF_take D l 1 j k h, if_neg h0]
theorem dF_all (D : List Nat) (x : Nd) : dF D (kidsM x) (kidsM x).length = deepF D x := by unfold dF deepF; rw [List.take_length]
theorem dF_le (D : List Nat) (B : Nat) (hD : ∀ d ∈ D, d ≤ B) (l : List Int) : ∀ j, dF D l j ≤ B + 1 := by
  intro j
  induction j with
  | zero => rw [dF_zero]; omega
  | succ j ih =>
    cases hl : l[j]? with
    | none =>
      have : l.length ≤ j := List.getElem?_eq_none_iff.1 hl
      unfold dF at ih ⊢
      rw [List.take_of_length_le (by omega)] at ih ⊢; exact ih
    | some k =>
      by_cases h : 0 ≤ k ∧ k < (D.length : Int)
      · rw [dF_in hl h.1 h.2]
        have hk : k.toNat < D.length := by omega
        have : D.getD k.toNat 0 ∈ D := by
          rw [List.getD, List.getElem?_eq_getElem hk]; exact List.getElem_mem _
        have := hD _ this
        omega
      · rw [dF_out hl h]; exact ih
theorem deeps_le (e : List Nd) : ∀ d ∈ deepsM e, d ≤ e.length := by
  generalize hr : e.reverse = r
  revert e
  induction r with
  | nil => intro e hr d hd; simp at hr; subst hr; simp [deepsM] at hd
  | cons n r ih =>
    intro e hr d hd
    have he : e = r.reverse ++ [n] := by rw [← List.reverse_reverse e, hr, List.reverse_cons]
    generalize hq : r.reverse = q at he
    subst he
    have hq' : q.reverse = r := by rw [← hq, List.reverse_reverse]
    rw [deeps_snoc] at hd
    have h1 := ih q hq'
    simp at hd
    rcases hd with hd | hd
    · have := h1 d hd; simp; omega
    · rw [hd, ← dF_all]
      have := dF_le (deepsM q) q.length h1 (kidsM n) (kidsM n).length
      simp; omega
theorem deeps_take (e : List Nd) (k : Nat) (x : Nd) (h : e[k]? = some x) : deepsM (e.take (k + 1)) = deepsM (e.take k) ++ [deepF (deepsM (e.take k)) x] := by
  rw [List.take_add_one, h]; exact deeps_snoc _ _
def laidD (e : List Nd) (k : Nat) : List Int := (deepsM (e.take k)).map (fun (d : Nat) => (d : Int)) ++ List.replicate (e.length - k) 0
theorem laidD_zero (e : List Nd) : laidD e 0 = List.replicate e.length 0 := by simp [laidD, deepsM]
theorem laidD_len (e : List Nd) (k : Nat) (h : k ≤ e.length) : (laidD e k).length = e.length := by
  unfold laidD; rw [List.length_append, List.length_map, deeps_len, List.length_take, List.length_replicate]; omega
theorem laidD_get (e : List Nd) (k : Nat) (h : k ≤ e.length) (j : Nat) (hj : j < k) : (laidD e k)[j]? = some (((deepsM (e.take k)).getD j 0 : Nat) : Int) := by
  have hl : (deepsM (e.take k)).length = k := by rw [deeps_len, List.length_take]; omega
  unfold laidD
  rw [List.getElem?_append_left (by rw [List.length_map, hl]; exact hj), List.getElem?_map, List.getElem?_eq_getElem (by rw [hl]; exact hj)]
  simp [List.getD, List.getElem?_eq_getElem (show j < (deepsM (e.take k)).length by rw [hl]; exact hj)]
theorem laidD_new (e : List Nd) (k : Nat) (h : k < e.length) : (laidD e k)[k]? = some 0 := by
  have hl : (deepsM (e.take k)).length = k := by rw [deeps_len, List.length_take]; omega
  unfold laidD
  rw [List.getElem?_append_right (by rw [List.length_map, hl]; exact Nat.le_refl _), List.length_map, hl, Nat.sub_self, List.getElem?_replicate]
  simp; omega
theorem laidD_set (e : List Nd) (k : Nat) (x : Nd) (h : e[k]? = some x) : (laidD e k).set k ((deepF (deepsM (e.take k)) x : Nat) : Int) = laidD e (k + 1) := by
  have hk : k < e.length := (List.getElem?_eq_some_iff.1 h).1
  have hl : (deepsM (e.take k)).length = k := by rw [deeps_len, List.length_take]; omega
  have e1 : e.length - k = (e.length - (k + 1)) + 1 := by omega
  unfold laidD
  rw [e1, List.replicate_succ, List.set_append_right _ _ (by rw [List.length_map, hl]; exact Nat.le_refl _), List.length_map, hl, Nat.sub_self, List.set_cons_zero, deeps_take e k x h, List.map_append, List.append_assoc]
  rfl
theorem intsOf_set (l : List Int) (k : Nat) (x : Int) : intsOf (l.set k x) = (intsOf l).set k (.int .i64 x) := by unfold intsOf; rw [List.map_set]
theorem intsOf_get (l : List Int) (k : Nat) (x : Int) (h : l[k]? = some x) : (intsOf l)[k]? = some (.int .i64 x) := by unfold intsOf; rw [List.getElem?_map, h]; rfl
theorem made_ints (n : Nat) : (madeCells #[Value.int .i64 0] n).toList = intsOf (List.replicate n 0) := by
  rw [toList_madeCells_one]; simp [intsOf]
def dOf (e : List Nd) (k : Nat) : Int := ((depthM (e.take k) : Nat) : Int)
theorem dOf_succ (e : List Nd) (k : Nat) (x : Nd) (h : e[k]? = some x) : dOf e (k + 1) = ((deepF (deepsM (e.take k)) x : Nat) : Int) := by
  unfold dOf depthM; rw [deeps_take e k x h]; simp
theorem dOf_all (e : List Nd) : dOf e e.length = ((depthM e : Nat) : Int) := by unfold dOf; rw [List.take_length]
set_option maxRecDepth 100000 in
set_option maxHeartbeats 4000000 in
theorem depth_any (v : Value) (e : List Nd) (w : World) (hv : Nodes w v e) (hn : e.length ≤ 100000) :
    Calls Tryz.prog 89 #[v] w fun r w' => r = .returned (.int .i64 ((depthM e : Nat) : Int)) ∧ Below w.heap.size w w' := by
  obtain ⟨A, c, rfl, h1, h2, hA⟩ := hv
  unfold maxLen at h2
  have HA := Lib.hid hA
  clear hA
  obtain ⟨i0, hi, hz0, hz1, hz2⟩ := info_parts info3
  go_enter Tryz.func89, Tryz.ntmps89
  go_wp2_with (at_make; refine wpList_make_full _ rfl _ _ 72 rfl w.heap.size 3 i0 _ 1 Tryz.underlying72 hi hz0 hz1 _ _ _ _ e.length rfl rfl rfl rfl (by rw [hz2]; omega) (by unfold maxLen; omega) (Nat.le_refl _) ?_)
  intro w1 hown hgrow
  have hb1 : Below w.heap.size w w1 := (Below.refl _ _).grown hgrow (Nat.le_refl _) (fun k hk => by simp at hk)
  have hown0 : w1.ownsRow w.heap.size 3 1 (.slice (some ⟨w.heap.size, 0, none⟩) e.length e.length) e.length (intsOf (laidD e 0)) := by
    rw [laidD_zero, ← made_ints]; exact hown
  clear hown hgrow
  go_wp2
  go_loopw [3, 14] (fun d i wr => ∃ k : Nat, k ≤ e.length ∧ i = .int .i64 k ∧ d = .int .i64 (dOf e k) ∧ wr.ownsRow w.heap.size 3 1 (.slice (some ⟨w.heap.size, 0, none⟩) e.length e.length) e.length (intsOf (laidD e k)) ∧ Below w.heap.size w wr) (fun _ i _ => e.length - (intOf i).toNat)
  case atStart => exact ⟨0, Nat.zero_le _, rfl, by simp [dOf, depthM, deepsM], hown0, hb1⟩
  case round =>
    obtain ⟨k, hk, rfl, rfl, hown, hb⟩ := hrel
    clear hown0 hb1
    by_cases hlt : k < e.length
    · obtain ⟨x, hx⟩ : ∃ x, e[k]? = some x := ⟨_, List.getElem?_eq_getElem hlt⟩
      obtain ⟨g, o, rfl, hg, a0, a1, a2, a3, a4, a5⟩ := HA.out k x hx
      have hcb := fun q => hb.cell (p := ⟨g, q, none⟩) hg
      have b0 := (hcb _).trans a0
      have b1 := (hcb _).trans a1
      have b2 := (hcb _).trans a2
      have b3 := (hcb _).trans a3
      have b4 := (hcb _).trans a4
      have b5 := (hcb _).trans a5
      have hzz := (hown.lt _ rfl).2
      have HX := Lib.hid hx
      have HO := Lib.hid hown
      have HB := Lib.hid hb
      clear hx hcb a0 a1 a2 a3 a4 a5 hown hb
      have hD : (deepsM (e.take k)).length = k := by rw [deeps_len, List.length_take]; omega
      have hDl := deeps_le (e.take k)
      have hDl' : ∀ d ∈ deepsM (e.take k), d ≤ k := fun d hd => by have := hDl d hd; rw [List.length_take] at this; omega
      obtain ⟨D, hDD⟩ : ∃ D, deepsM (e.take k) = D := ⟨_, rfl⟩
      obtain ⟨L, hL⟩ : ∃ L, kidsM x = L := ⟨_, rfl⟩
      have HL := Lib.hid hL
      have HN := Lib.hid (show dOf e (k + 1) = ((dF D L L.length : Nat) : Int) by rw [dOf_succ e k x HX.out, hDD, ← hL, dF_all])
      have HS := Lib.hid (show (laidD e k).set k ((dF D L L.length : Nat) : Int) = laidD e (k + 1) by rw [← laidD_set e k x HX.out, hDD, ← hL, dF_all])
      have HG : Hid (∀ j, j < k → (laidD e k)[j]? = some ((D.getD j 0 : Nat) : Int)) := Lib.hid (by rw [← hDD]; exact laidD_get e k hk)
      have HK := Lib.hid (laidD_new e k hlt)
      rw [hDD] at hD hDl'
      have HF := Lib.hid (dF_le D k hDl' L)
      have HDK := Lib.hid hDl'
      have HDL := Lib.hid hD
      clear hD hDl hDl' hDD hL
      go_wp2_with fail
      refine (kids_any x _).mono ?_
      rintro r w2 ⟨kv, rfl, hok, hb2⟩
      rw [HL.out] at hok
      obtain ⟨A2, c2, rfl, y1, y2, hA2⟩ := Ints.of_own hok
      have HA2 := Lib.hid hA2
      have hz2 := hb2.size
      simp at hz2
      have HO2 := Lib.hid (own_below (HO.out.alloc _) hb2)
      have HB2 := Lib.hid ((HB.out.alloc (by omega) _).trans (hb2.mono (by simp; omega)))
      clear hok hA2 hb2
      unfold maxLen at y2
      go_wp2
      go_loop [3, 22] (fun d c => ∃ j : Nat, j ≤ L.length ∧ c = .int .i64 j ∧ d = .int .i64 (dF D L j : Nat)) (fun _ c => L.length - (intOf c).toNat)
      case atStart => exact ⟨0, Nat.zero_le _, rfl, rfl⟩
      case round =>
        obtain ⟨j, hj, rfl, rfl⟩ := hrel
        have hf := HF.out j
        by_cases hlj : j < L.length
        · obtain ⟨q, hq⟩ : ∃ q, L[j]? = some q := ⟨_, List.getElem?_eq_getElem hlj⟩
          obtain ⟨g2, o2, rfl, hg2, d0⟩ := HA2.out j q hq
          have HQ := Lib.hid hq
          clear hq
          by_cases hq0 : 0 ≤ q
          · by_cases hqk : q < (k : Int)
            · obtain ⟨m, rfl⟩ := Int.eq_ofNat_of_zero_le hq0
              have hmk : m < k := by omega
              have hml : m < e.length := by omega
              have hd1 : D.getD m 0 ≤ k := by
                have hm : m < D.length := by rw [HDL.out]; exact hmk
                rw [List.getD, List.getElem?_eq_getElem hm]
                exact HDK.out _ (List.getElem_mem _)
              have c1 := (HO2.out.cellAt m (by omega)).trans (intsOf_get _ _ _ (HG.out m hmk))
              have HN2 := Lib.hid (show dF D L (j + 1) = max (dF D L j) (1 + D.getD m 0) by
                rw [dF_in HQ.out (by omega) (by rw [HDL.out]; omega)]; rfl)
              obtain ⟨dm, hdm⟩ : ∃ dm, D.getD m 0 = dm := ⟨_, rfl⟩
              rw [hdm] at c1 hd1 HN2
              obtain ⟨dj, hdj⟩ : ∃ dj, dF D L j = dj := ⟨_, rfl⟩
              rw [hdj] at hf HN2 ⊢
              clear hdm hdj
              go_wp2
              refine ⟨⟨j + 1, by omega, by go_num, by rw [HN2.out]; congr 1; split <;> omega⟩, by simp [intOf]; omega⟩
            · have HN2 := Lib.hid (show dF D L (j + 1) = dF D L j from dF_out HQ.out (by rw [HDL.out]; omega))
              go_wp2
              refine ⟨⟨j + 1, by omega, by go_num, by rw [HN2.out]⟩, by simp [intOf]; omega⟩
          · have HN2 := Lib.hid (show dF D L (j + 1) = dF D L j from dF_out HQ.out (by omega))
            go_wp2
            refine ⟨⟨j + 1, by omega, by go_num, by rw [HN2.out]⟩, by simp [intOf]; omega⟩
        · have hjl : j = L.length := by omega
          subst hjl
          have c1 := (HO2.out.cellAt k (by omega)).trans (intsOf_get _ _ _ HK.out)
          have f1 := HO2.out.frozenAt k
          clear hf
          go_wp2
          refine ⟨⟨k + 1, by omega, by go_num, by rw [HN.out], ?_, HB2.out.setCell (by simp) _⟩, by simp [intOf]; omega⟩
          have := (HO2.out.stored k (.int .i64 ((dF D L L.length : Nat) : Int))).1
          rw [← HS.out, intsOf_set]; exact this
    · have hkl : k = e.length := by omega
      subst hkl
      have HE := Lib.hid (dOf_all e)
      rw [HE.out]
      have HB := Lib.hid hb
      clear hb hown
      go_wp2
      go_ret
      exact ⟨rfl, HB.out⟩
end Go.Proofs.YtobkcdkffcenbaaGreatDoor.Tr

