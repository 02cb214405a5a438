/- Both functions Kids return the operands of a node, in order, in memory of their own. Conditions: none. -/
import Derived.Test.YtmggedjolocgdaaTreeC
import Derived.Deep.RegionHeld3
import Derived.Deep.AppendLies
import Derived.Laws.OwnMore
namespace Go.Proofs.Ytmggedjolocgdaa.Tr
open Go.ChangeShapes Go.WideShapes Go.ChangeAt Go.RowKit
set_option linter.unusedVariables false
set_option linter.unusedSimpArgs false

theorem ints_lit (w : World) (l : List Int) (h : l.length ≤ maxLen) : (w.alloc (.cells (intsOf l).toArray 3)).ownsRow w.heap.size 3 1 (.slice (some ⟨w.heap.size, 0, none⟩) l.length l.length) l.length (intsOf l) := by
  have := World.ownsRow_lit (base := w.heap.size) (e := 3) (size := 1) w (intsOf l).toArray l.length (Nat.le_refl _) h (by simp [intsOf])
  simpa using this
theorem ints_cell {w : World} {g : Nat} {x : Int} {c : Nat} (h : w.cell? ⟨g, 0, none⟩ = some (.int .i64 x)) (hc : 1 ≤ c) (hm : c ≤ maxLen) : Ints w (.slice (some ⟨g, 0, none⟩) 1 c) [x] := by
  refine ⟨some ⟨g, 0, none⟩, c, rfl, hc, hm, fun i y hi => ?_⟩
  cases i with
  | zero =>
    simp at hi; subst hi
    exact ⟨g, 0, rfl, World.block_lt_of_cell? w _ h, h⟩
  | succ i => simp at hi
/-- A literal of numbers, handed back where a box was laid ahead. -/
theorem post_lit (W : World) (o : Obj) (l : List Int) (h : l.length ≤ 100) : IntsPost W l (.returned (.slice (some ⟨W.heap.size + 1, 0, none⟩) l.length l.length)) ((W.alloc o).alloc (.cells (intsOf l).toArray 3)) := by
  have := ints_lit (W.alloc o) l (by unfold maxLen; omega)
  rw [show (W.alloc o).heap.size = W.heap.size + 1 from by simp] at this
  exact ⟨_, rfl, own_base this (by omega), ((Below.refl _ _).alloc (Nat.le_refl _) _).alloc (by simp) _⟩
theorem post_none (W w' : World) (h : Below W.heap.size W w') : IntsPost W [] (.returned (.slice none 0 0)) w' := ⟨_, rfl, World.ownsRow_nil _ _ _ _, h⟩

theorem kids_unary (x : Nd) (h : unaryB x.op = true) : kidsM x = [x.a] := by unfold kidsM; rw [if_pos h]
theorem kidsM_bin (x : Nd) (h : binaryB x.op = true) : kidsM x = [x.a, x.b] := by
  unfold binaryB at h; simp at h
  have : unaryB x.op = false := by unfold unaryB; simp; omega
  unfold kidsM
  rw [this, if_neg (by simp), if_neg (by omega), if_neg (by omega), if_neg (by omega), if_pos (by unfold binaryB; simp; omega)]
theorem kidsM_else (x : Nd) (h : ∀ k ∈ [4, 5, 21, 22, 23, 24, 25, 26, 27, 28], x.op ≠ k) (hb : binaryB x.op = false) : kidsM x = [] := by
  simp at h
  apply kids_none _ _ _ _ hb
  · unfold unaryB; simp; omega
  all_goals omega

theorem news_one {w : World} {g : Nat} {x : Value} (h : w.cell? ⟨g, 0, none⟩ = some x) : ∀ (j : Nat) u, [x][j]? = some u → w.cell? ((⟨g, 0, none⟩ : Addr).add j) = some u := by
  intro j u hj
  cases j with
  | zero => simp at hj; subst hj; exact h
  | succ j => simp at hj

set_option maxRecDepth 100000 in
set_option maxHeartbeats 3200000 in
theorem kids28 (a b c n : Int) (s : ByteArray) (w : World) : Calls Try.prog 14 #[.agg #[.int .i64 28, .int .i64 a, .int .i64 b, .int .i64 c, .int .i64 n, .string s]] w (IntsPost w (heldM [b] ++ [a])) := by
  obtain ⟨i0, hi, hz0, hz1, hz2⟩ := info_parts info3
  have hs : (heldM [b]).length ≤ 1 := held_le [b] 1
  go_enter Try.func14, Try.ntmps14
  go_wp2_with fail
  go_region_held3 (fun w' => w'.cell? ⟨w.heap.size, 1, none⟩ = some (.int .i64 a) ∧ w'.cell? ⟨w.heap.size, 2, none⟩ = some (.int .i64 b))
    (first
      | go_keep
      | (go_split_ands; refine ⟨?_, ?_⟩ <;> (rw [hgrow.cell_far _ (by have := hb1.size; simp at this; first | omega | (simp; omega)) (fun h => by have := hown1.lt _ h.symm; simp at this; omega)]; assumption))
      | (refine ⟨?_, ?_⟩ <;> (rw [hb1.cell (by simp <;> omega)]; simp [World.cell?_alloc_some, World.cell?_alloc_at])))
    (first
      | (go_at_call 32; refine (held_any _ [b] _ (by exact ints_cell (by go_simp) (Nat.le_refl _) (by unfold maxLen; omega)) (by simp)).mono ?_; rintro e w1 ⟨v, rfl, hown1, hb1⟩)
      | (refine step_append_lies _ (by rfl) _ _ _ (by rfl) w.heap.size 3 i0 _ 1 8 Try.underlying27 hi hz0 hz1 hz2 rfl (by omega) v (heldM [b]).length (intsOf (heldM [b])) (by rfl) (own_base (hown1.alloc _) (by simp <;> omega)) ⟨w1.heap.size, 0, none⟩ 1 1 [.int .i64 a] (by rfl) (by rfl) (World.news_of_block (cs := #[.int .i64 a]) (t := 3) (fr := (0, 0)) (heap_alloc_new _ _)) (by simp [Value.oneCell']) (by omega) (by unfold maxLen; omega) (by omega) (by simp; have := hb1.size; simp at this; omega) (w1.heap.size + 1) (by simp) ?_; intro gg cap w2 hown2 hgrow hat hlt)
      | (refine step_append_lies _ (by rfl) _ _ _ (by rfl) w.heap.size 3 i0 _ 1 8 Try.underlying27 hi hz0 hz1 hz2 rfl (by omega) v (heldM [b]).length (intsOf (heldM [b])) (by rfl) (own_base hown1 (by simp <;> omega)) ⟨w.heap.size + 1, 0, none⟩ 1 1 [.int .i64 a] (by rfl) (by rfl) (news_one (by rw [hb1.cell (by simp <;> omega)]; simp [World.cell?_alloc_some, World.cell?_alloc_at])) (by simp [Value.oneCell']) (by omega) (by unfold maxLen; omega) (by omega) (by have := hb1.size; simp at this; omega) w1.heap.size (by simp) ?_; intro gg cap w2 hown2 hgrow hat hlt)
      | (refine step_append_lies _ (by rfl) _ _ _ (by rfl) w.heap.size 3 i0 _ 1 8 Try.underlying27 hi hz0 hz1 hz2 rfl (by omega) v (heldM [b]).length (intsOf (heldM [b])) (by rfl) (own_base hown1 (by simp <;> omega)) ⟨w.heap.size + 1 + 1, 0, none⟩ 1 1 [.int .i64 a] (by rfl) (by rfl) (news_one (by rw [hb1.cell (by simp <;> omega)]; simp [World.cell?_alloc_some, World.cell?_alloc_at])) (by simp [Value.oneCell']) (by omega) (by unfold maxLen; omega) (by omega) (by have := hb1.size; simp at this; omega) w1.heap.size (by simp) ?_; intro gg cap w2 hown2 hgrow hat hlt))
  all_goals
    have hz := hb1.size
    have hb0 : Below w.heap.size w w1 := by
      refine Below.trans ?_ (hb1.mono (by simp <;> omega))
      first
        | exact (((Below.refl _ _).alloc (Nat.le_refl _) _).alloc (by simp) _).drew
        | exact ((((Below.refl _ _).alloc (Nat.le_refl _) _).alloc (by simp) _).alloc (by simp <;> omega) _).drew
    simp at hz
    have hb2 : Below w.heap.size w w2 := by
      first
        | exact hb0.grown hgrow (by omega) (fun j hj => by have := hown1.lt j hj; simp at this; omega)
        | exact (hb0.alloc (by omega) _).grown hgrow (by simp <;> omega) (fun j hj => by have := hown1.lt j hj; simp at this; omega)
    clear hgrow hb1 hown1 hat hlt hb0 hz
    try go_wp2
    go_ret
    refine ⟨_, rfl, ?_, hb2⟩
    rw [ints_snoc, List.length_append]
    exact hown2
theorem kids_u4 (a b c n : Int) (s : ByteArray) (w : World) : Calls Try.prog 14 #[.agg #[.int .i64 4, .int .i64 a, .int .i64 b, .int .i64 c, .int .i64 n, .string s]] w (IntsPost w [a]) := by
  go_enter Try.func14, Try.ntmps14
  go_wp2
  go_ret
  exact post_lit w _ [a] (by simp)
theorem kids_u5 (a b c n : Int) (s : ByteArray) (w : World) : Calls Try.prog 14 #[.agg #[.int .i64 5, .int .i64 a, .int .i64 b, .int .i64 c, .int .i64 n, .string s]] w (IntsPost w [a]) := by
  go_enter Try.func14, Try.ntmps14
  go_wp2
  go_ret
  exact post_lit w _ [a] (by simp)
theorem kids_u21 (a b c n : Int) (s : ByteArray) (w : World) : Calls Try.prog 14 #[.agg #[.int .i64 21, .int .i64 a, .int .i64 b, .int .i64 c, .int .i64 n, .string s]] w (IntsPost w [a]) := by
  go_enter Try.func14, Try.ntmps14
  go_wp2
  go_ret
  exact post_lit w _ [a] (by simp)
theorem kids_u22 (a b c n : Int) (s : ByteArray) (w : World) : Calls Try.prog 14 #[.agg #[.int .i64 22, .int .i64 a, .int .i64 b, .int .i64 c, .int .i64 n, .string s]] w (IntsPost w [a]) := by
  go_enter Try.func14, Try.ntmps14
  go_wp2
  go_ret
  exact post_lit w _ [a] (by simp)
theorem kids_u23 (a b c n : Int) (s : ByteArray) (w : World) : Calls Try.prog 14 #[.agg #[.int .i64 23, .int .i64 a, .int .i64 b, .int .i64 c, .int .i64 n, .string s]] w (IntsPost w [a]) := by
  go_enter Try.func14, Try.ntmps14
  go_wp2
  go_ret
  exact post_lit w _ [a] (by simp)
theorem kids_u24 (a b c n : Int) (s : ByteArray) (w : World) : Calls Try.prog 14 #[.agg #[.int .i64 24, .int .i64 a, .int .i64 b, .int .i64 c, .int .i64 n, .string s]] w (IntsPost w [a]) := by
  go_enter Try.func14, Try.ntmps14
  go_wp2
  go_ret
  exact post_lit w _ [a] (by simp)
theorem kids_u25 (a b c n : Int) (s : ByteArray) (w : World) : Calls Try.prog 14 #[.agg #[.int .i64 25, .int .i64 a, .int .i64 b, .int .i64 c, .int .i64 n, .string s]] w (IntsPost w [a]) := by
  go_enter Try.func14, Try.ntmps14
  go_wp2
  go_ret
  exact post_lit w _ [a] (by simp)
theorem kids_26 (a b c n : Int) (s : ByteArray) (w : World) : Calls Try.prog 14 #[.agg #[.int .i64 26, .int .i64 a, .int .i64 b, .int .i64 c, .int .i64 n, .string s]] w (IntsPost w [a, b, c]) := by
  go_enter Try.func14, Try.ntmps14
  go_wp2
  go_ret
  exact post_lit w _ [a, b, c] (by simp)
set_option maxHeartbeats 800000 in
theorem kids_bin (o a b c n : Int) (s : ByteArray) (w : World) (h1 : 6 ≤ o) (h2 : o ≤ 20) : Calls Try.prog 14 #[.agg #[.int .i64 o, .int .i64 a, .int .i64 b, .int .i64 c, .int .i64 n, .string s]] w (IntsPost w [a, b]) := by
  have h4 : (o == 4) = false := by rw [beq_eq_false_iff_ne]; omega
  have h5 : (o == 5) = false := by rw [beq_eq_false_iff_ne]; omega
  have h21 : (o == 21) = false := by rw [beq_eq_false_iff_ne]; omega
  have h22 : (o == 22) = false := by rw [beq_eq_false_iff_ne]; omega
  have h23 : (o == 23) = false := by rw [beq_eq_false_iff_ne]; omega
  have h24 : (o == 24) = false := by rw [beq_eq_false_iff_ne]; omega
  have h25 : (o == 25) = false := by rw [beq_eq_false_iff_ne]; omega
  have h26 : (o == 26) = false := by rw [beq_eq_false_iff_ne]; omega
  have h27 : (o == 27) = false := by rw [beq_eq_false_iff_ne]; omega
  have h28 : (o == 28) = false := by rw [beq_eq_false_iff_ne]; omega
  go_enter Try.func14, Try.ntmps14
  go_wp2
  try go_quiet (fail)
  try go_wp2
  go_ret
  exact post_lit w _ [a, b] (by simp)
set_option maxHeartbeats 800000 in
theorem kids_else (o a b c n : Int) (s : ByteArray) (w : World) (h4 : (o == 4) = false) (h5 : (o == 5) = false) (h21 : (o == 21) = false) (h22 : (o == 22) = false) (h23 : (o == 23) = false) (h24 : (o == 24) = false) (h25 : (o == 25) = false) (h26 : (o == 26) = false) (h27 : (o == 27) = false) (h28 : (o == 28) = false) (hb : o < 6 ∨ 20 < o) : Calls Try.prog 14 #[.agg #[.int .i64 o, .int .i64 a, .int .i64 b, .int .i64 c, .int .i64 n, .string s]] w (IntsPost w []) := by
  by_cases h1 : 6 ≤ o
  · have h2 : 20 < o := by omega
    clear hb
    go_enter Try.func14, Try.ntmps14
    go_wp2
    go_ret
    exact post_none w _ ((Below.refl _ _).alloc (Nat.le_refl _) _)
  · clear hb
    go_enter Try.func14, Try.ntmps14
    go_wp2
    go_ret
    exact post_none w _ ((Below.refl _ _).alloc (Nat.le_refl _) _)
theorem rkids_u4 (a b c n : Int) (s : ByteArray) (w : World) : Calls Try.prog 15 #[.agg #[.int .i64 4, .int .i64 a, .int .i64 b, .int .i64 c, .int .i64 n, .string s]] w (IntsPost w [a]) := by
  go_enter Try.func15, Try.ntmps15
  go_wp2
  go_ret
  exact post_lit w _ [a] (by simp)
theorem rkids_u5 (a b c n : Int) (s : ByteArray) (w : World) : Calls Try.prog 15 #[.agg #[.int .i64 5, .int .i64 a, .int .i64 b, .int .i64 c, .int .i64 n, .string s]] w (IntsPost w [a]) := by
  go_enter Try.func15, Try.ntmps15
  go_wp2
  go_ret
  exact post_lit w _ [a] (by simp)
theorem rkids_u21 (a b c n : Int) (s : ByteArray) (w : World) : Calls Try.prog 15 #[.agg #[.int .i64 21, .int .i64 a, .int .i64 b, .int .i64 c, .int .i64 n, .string s]] w (IntsPost w [a]) := by
  go_enter Try.func15, Try.ntmps15
  go_wp2
  go_ret
  exact post_lit w _ [a] (by simp)
theorem rkids_u22 (a b c n : Int) (s : ByteArray) (w : World) : Calls Try.prog 15 #[.agg #[.int .i64 22, .int .i64 a, .int .i64 b, .int .i64 c, .int .i64 n, .string s]] w (IntsPost w [a]) := by
  go_enter Try.func15, Try.ntmps15
  go_wp2
  go_ret
  exact post_lit w _ [a] (by simp)
theorem rkids_u23 (a b c n : Int) (s : ByteArray) (w : World) : Calls Try.prog 15 #[.agg #[.int .i64 23, .int .i64 a, .int .i64 b, .int .i64 c, .int .i64 n, .string s]] w (IntsPost w [a]) := by
  go_enter Try.func15, Try.ntmps15
  go_wp2
  go_ret
  exact post_lit w _ [a] (by simp)
theorem rkids_u24 (a b c n : Int) (s : ByteArray) (w : World) : Calls Try.prog 15 #[.agg #[.int .i64 24, .int .i64 a, .int .i64 b, .int .i64 c, .int .i64 n, .string s]] w (IntsPost w [a]) := by
  go_enter Try.func15, Try.ntmps15
  go_wp2
  go_ret
  exact post_lit w _ [a] (by simp)
theorem rkids_u25 (a b c n : Int) (s : ByteArray) (w : World) : Calls Try.prog 15 #[.agg #[.int .i64 25, .int .i64 a, .int .i64 b, .int .i64 c, .int .i64 n, .string s]] w (IntsPost w [a]) := by
  go_enter Try.func15, Try.ntmps15
  go_wp2
  go_ret
  exact post_lit w _ [a] (by simp)
theorem rkids_26 (a b c n : Int) (s : ByteArray) (w : World) : Calls Try.prog 15 #[.agg #[.int .i64 26, .int .i64 a, .int .i64 b, .int .i64 c, .int .i64 n, .string s]] w (IntsPost w [a, b, c]) := by
  go_enter Try.func15, Try.ntmps15
  go_wp2
  go_ret
  exact post_lit w _ [a, b, c] (by simp)
set_option maxHeartbeats 800000 in
theorem rkids_bin (o a b c n : Int) (s : ByteArray) (w : World) (h1 : 6 ≤ o) (h2 : o ≤ 20) : Calls Try.prog 15 #[.agg #[.int .i64 o, .int .i64 a, .int .i64 b, .int .i64 c, .int .i64 n, .string s]] w (IntsPost w [a, b]) := by
  have h4 : (o == 4) = false := by rw [beq_eq_false_iff_ne]; omega
  have h5 : (o == 5) = false := by rw [beq_eq_false_iff_ne]; omega
  have h21 : (o == 21) = false := by rw [beq_eq_false_iff_ne]; omega
  have h22 : (o == 22) = false := by rw [beq_eq_false_iff_ne]; omega
  have h23 : (o == 23) = false := by rw [beq_eq_false_iff_ne]; omega
  have h24 : (o == 24) = false := by rw [beq_eq_false_iff_ne]; omega
  have h25 : (o == 25) = false := by rw [beq_eq_false_iff_ne]; omega
  have h26 : (o == 26) = false := by rw [beq_eq_false_iff_ne]; omega
  have h27 : (o == 27) = false := by rw [beq_eq_false_iff_ne]; omega
  have h28 : (o == 28) = false := by rw [beq_eq_false_iff_ne]; omega
  go_enter Try.func15, Try.ntmps15
  go_wp2
  try go_quiet (fail)
  try go_wp2
  go_ret
  exact post_lit w _ [a, b] (by simp)
set_option maxHeartbeats 800000 in
theorem rkids_else (o a b c n : Int) (s : ByteArray) (w : World) (h4 : (o == 4) = false) (h5 : (o == 5) = false) (h21 : (o == 21) = false) (h22 : (o == 22) = false) (h23 : (o == 23) = false) (h24 : (o == 24) = false) (h25 : (o == 25) = false) (h26 : (o == 26) = false) (h27 : (o == 27) = false) (h28 : (o == 28) = false) (hb : o < 6 ∨ 20 < o) : Calls Try.prog 15 #[.agg #[.int .i64 o, .int .i64 a, .int .i64 b, .int .i64 c, .int .i64 n, .string s]] w (IntsPost w []) := by
  by_cases h1 : 6 ≤ o
  · have h2 : 20 < o := by omega
    clear hb
    go_enter Try.func15, Try.ntmps15
    go_wp2
    go_ret
    exact post_none w _ ((Below.refl _ _).alloc (Nat.le_refl _) _)
  · clear hb
    go_enter Try.func15, Try.ntmps15
    go_wp2
    go_ret
    exact post_none w _ ((Below.refl _ _).alloc (Nat.le_refl _) _)
theorem kids_27 (a b c n : Int) (s : ByteArray) (w : World) : Calls Try.prog 14 #[.agg #[.int .i64 27, .int .i64 a, .int .i64 b, .int .i64 c, .int .i64 n, .string s]] w (IntsPost w (heldM [a])) := by
  go_enter Try.func14, Try.ntmps14
  go_wp2_with fail
  refine (held_any _ [a] _ (by exact ints_cell (by go_simp) (Nat.le_refl _) (by unfold maxLen; omega)) (by simp)).mono ?_
  rintro e w1 ⟨v, rfl, hown1, hb1⟩
  go_wp2
  go_ret
  exact ⟨_, rfl, own_base hown1 (by simp <;> omega), (((Below.refl _ _).alloc (Nat.le_refl _) _).alloc (by simp) _).trans (hb1.mono (by simp <;> omega))⟩
theorem rkids_27 (a b c n : Int) (s : ByteArray) (w : World) : Calls Try.prog 15 #[.agg #[.int .i64 27, .int .i64 a, .int .i64 b, .int .i64 c, .int .i64 n, .string s]] w (IntsPost w (heldM [a])) := by
  by_cases h : a = -1
  · subst h
    go_enter Try.func15, Try.ntmps15
    go_wp2
    go_ret
    exact post_none w _ ((Below.refl _ _).alloc (Nat.le_refl _) _)
  · have h' : (a != -1) = true := by simp [h]
    have H := Lib.hid (show heldM [a] = [a] by simp [heldM, h])
    clear h
    rw [H.out]
    go_enter Try.func15, Try.ntmps15
    go_wp2
    go_ret
    exact post_lit w _ [a] (by simp)
theorem rkids_28 (a b c n : Int) (s : ByteArray) (w : World) : Calls Try.prog 15 #[.agg #[.int .i64 28, .int .i64 a, .int .i64 b, .int .i64 c, .int .i64 n, .string s]] w (IntsPost w (heldM [b] ++ [a])) := by
  by_cases h : b = -1
  · subst h
    go_enter Try.func15, Try.ntmps15
    go_wp2
    go_ret
    exact post_lit w _ [a] (by simp)
  · have h' : (b != -1) = true := by simp [h]
    have H := Lib.hid (show heldM [b] ++ [a] = [b, a] by simp [heldM, h])
    clear h
    rw [H.out]
    go_enter Try.func15, Try.ntmps15
    go_wp2
    go_ret
    exact post_lit w _ [b, a] (by simp)
theorem kids_any (x : Nd) (w : World) : Calls Try.prog 14 #[.agg #[.int .i64 x.op, .int .i64 x.a, .int .i64 x.b, .int .i64 x.c, .int .i64 x.n, .string (str x.name)]] w (IntsPost w (kidsM x)) := by
  obtain ⟨o, a, b, c, n, s⟩ := x
  show Calls Try.prog 14 #[.agg #[.int .i64 o, .int .i64 a, .int .i64 b, .int .i64 c, .int .i64 n, .string (str s)]] w _
  by_cases h4 : o = 4
  · subst h4; exact kids_u4 a b c n _ w
  by_cases h5 : o = 5
  · subst h5; exact kids_u5 a b c n _ w
  by_cases h21 : o = 21
  · subst h21; exact kids_u21 a b c n _ w
  by_cases h22 : o = 22
  · subst h22; exact kids_u22 a b c n _ w
  by_cases h23 : o = 23
  · subst h23; exact kids_u23 a b c n _ w
  by_cases h24 : o = 24
  · subst h24; exact kids_u24 a b c n _ w
  by_cases h25 : o = 25
  · subst h25; exact kids_u25 a b c n _ w
  by_cases h26 : o = 26
  · subst h26; exact kids_26 a b c n _ w
  by_cases h27 : o = 27
  · subst h27; exact kids_27 a b c n _ w
  by_cases h28 : o = 28
  · subst h28; exact kids28 a b c n _ w
  by_cases hb : 6 ≤ o ∧ o ≤ 20
  · rw [kidsM_bin _ (by simp [binaryB, hb])]; exact kids_bin o a b c n _ w hb.1 hb.2
  · rw [kidsM_else _ (by simp; omega) (by simp [binaryB]; omega)]
    exact kids_else o a b c n _ w (by simp [h4]) (by simp [h5]) (by simp [h21]) (by simp [h22]) (by simp [h23]) (by simp [h24]) (by simp [h25]) (by simp [h26]) (by simp [h27]) (by simp [h28]) (by omega)
theorem rkids_any (x : Nd) (w : World) : Calls Try.prog 15 #[.agg #[.int .i64 x.op, .int .i64 x.a, .int .i64 x.b, .int .i64 x.c, .int .i64 x.n, .string (str x.name)]] w (IntsPost w (kidsM x)) := by
  obtain ⟨o, a, b, c, n, s⟩ := x
  show Calls Try.prog 15 #[.agg #[.int .i64 o, .int .i64 a, .int .i64 b, .int .i64 c, .int .i64 n, .string (str s)]] w _
  by_cases h4 : o = 4
  · subst h4; exact rkids_u4 a b c n _ w
  by_cases h5 : o = 5
  · subst h5; exact rkids_u5 a b c n _ w
  by_cases h21 : o = 21
  · subst h21; exact rkids_u21 a b c n _ w
  by_cases h22 : o = 22
  · subst h22; exact rkids_u22 a b c n _ w
  by_cases h23 : o = 23
  · subst h23; exact rkids_u23 a b c n _ w
  by_cases h24 : o = 24
  · subst h24; exact rkids_u24 a b c n _ w
  by_cases h25 : o = 25
  · subst h25; exact rkids_u25 a b c n _ w
  by_cases h26 : o = 26
  · subst h26; exact rkids_26 a b c n _ w
  by_cases h27 : o = 27
  · subst h27; exact rkids_27 a b c n _ w
  by_cases h28 : o = 28
  · subst h28; exact rkids_28 a b c n _ w
  by_cases hb : 6 ≤ o ∧ o ≤ 20
  · rw [kidsM_bin _ (by simp [binaryB, hb])]; exact rkids_bin o a b c n _ w hb.1 hb.2
  · rw [kidsM_else _ (by simp; omega) (by simp [binaryB]; omega)]
    exact rkids_else o a b c n _ w (by simp [h4]) (by simp [h5]) (by simp [h21]) (by simp [h22]) (by simp [h23]) (by simp [h24]) (by simp [h25]) (by simp [h26]) (by simp [h27]) (by simp [h28]) (by omega)
end Go.Proofs.Ytmggedjolocgdaa.Tr
