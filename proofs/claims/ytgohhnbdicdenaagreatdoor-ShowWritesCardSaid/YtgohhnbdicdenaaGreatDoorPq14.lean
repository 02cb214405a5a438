/- What a reader reads without a fault is a tree. Conditions: none. -/
import Derived.Test.YtgohhnbdicdenaaGreatDoorPk10
import Derived.Test.YtgohhnbdicdenaaGreatDoorPk01
import Derived.Deep.RegionHeld3
import Derived.StillTailTactics
import Derived.Test.YtgohhnbdicdenaaGreatDoorPk13
namespace Go.Proofs.YtgohhnbdicdenaaGreatDoor.Ex
open Go.Proofs.YtgohhnbdicdenaaGreatDoor.Tr Go.RowKit
set_option linter.unusedVariables false
set_option linter.unusedSimpArgs false

theorem wrap_small (k f : Int) (h0 : 0 ≤ k) (h1 : 0 ≤ f) (h : k + f ≤ 1000000000) : wrap64 (k + f) = k + f := by unfold wrap64; omega
theorem on_mkL (f : Nat) (x : Lab) (l : List Int) (hl : l.length ≤ 3) (h : ∀ k ∈ l, 0 ≤ k ∧ k + (f : Int) ≤ 1000000000) : onNd (f : Int) (mkL x l) = mkL x (l.map (· + (f : Int))) := by
  have one : ∀ k ∈ l, onM (f : Int) k = k + (f : Int) := fun k hk => by
    have := h k hk
    unfold onM; rw [if_pos this.1]; exact wrap_small _ _ this.1 (by omega) this.2
  have neg : onM (f : Int) (-1) = -1 := by unfold onM; rw [if_neg (by omega)]
  match l, hl with
  | [], _ => simp [mkL, onNd, neg]
  | [i], _ => simp [mkL, onNd, neg, one i (by simp)]
  | [i, j], _ =>
    have a := one i (by simp); have b := one j (by simp)
    by_cases h28 : x.op = 28 <;> simp [mkL, onNd, neg, a, b, h28]
  | [i, j, k], _ => simp [mkL, onNd, neg, one i (by simp), one j (by simp), one k (by simp)]
theorem flat_shift (t : T) : ∀ (b f : Nat), b + f + t.size ≤ 1000000000 → (t.flat b).map (onNd (f : Int)) = t.flat (b + f) := by
  induction t with
  | l0 x => intro b f h; simp [T.flat, on_mkL f x [] (by simp) (by simp)]
  | l1 x p ih =>
    intro b f h
    have := p.size_pos
    simp only [T.size] at h
    simp only [T.flat, List.map_append, List.map_cons, List.map_nil, ih b f (by omega)]
    rw [on_mkL f x _ (by simp) (by simp; omega)]
    congr 3
    simp; omega
  | l2 x p q ih1 ih2 =>
    intro b f h
    have := p.size_pos; have := q.size_pos
    simp only [T.size] at h
    simp only [T.flat, List.map_append, List.map_cons, List.map_nil, ih1 b f (by omega), ih2 (b + p.size) f (by omega)]
    rw [on_mkL f x _ (by simp) (by simp; omega)]
    have e1 : b + p.size + f = b + f + p.size := by omega
    rw [e1]
    congr 3
    simp; omega
  | l3 x p q r ih1 ih2 ih3 =>
    intro b f h
    have := p.size_pos; have := q.size_pos; have := r.size_pos
    simp only [T.size] at h
    simp only [T.flat, List.map_append, List.map_cons, List.map_nil, ih1 b f (by omega), ih2 (b + p.size) f (by omega), ih3 (b + p.size + q.size) f (by omega)]
    rw [on_mkL f x _ (by simp) (by simp; omega)]
    have e1 : b + p.size + f = b + f + p.size := by omega
    have e2 : b + p.size + q.size + f = b + f + p.size + q.size := by omega
    rw [e1, e2]
    congr 3
    simp; omega
theorem behind_flat (a : List Nd) (t : T) (h : a.length + t.size ≤ 1000000000) : behindM a (t.flat 0) = a ++ t.flat a.length := by
  unfold behindM; rw [flat_shift t 0 a.length (by omega), Nat.zero_add]
theorem flat_ne (t : T) (b : Nat) : t.flat b ≠ [] := fun h => by
  have := T.flat_len t b; rw [h] at this; have := t.size_pos; simp at *; omega

/-- The tree of a Call. -/
def argsC (acc : T) : List T → T
  | [] => acc
  | t :: ts => argsC (.l2 ⟨28, 0, []⟩ acc t) ts
def callT (s : Bytes) : List T → T
  | [] => .l0 ⟨27, 0, s⟩
  | t :: ts => .l1 ⟨27, 0, s⟩ (argsC (.l1 ⟨28, 0, []⟩ t) ts)
theorem argsC_size (ts : List T) : ∀ acc, (argsC acc ts).size = acc.size + (ts.map T.size).sum + ts.length := by
  induction ts with
  | nil => intro acc; rfl
  | cons t r ih => intro acc; rw [argsC, ih]; simp [T.size]; omega
theorem callT_size (s : Bytes) (ts : List T) : (callT s ts).size = 1 + (ts.map T.size).sum + ts.length := by
  cases ts with
  | nil => rfl
  | cons t r => rw [callT, T.size, argsC_size]; simp [T.size]; omega
theorem callF_chain (ts : List T) : ∀ acc : T, acc.size + (ts.map T.size).sum + ts.length ≤ 1000000 →
    (ts.map (fun t => t.flat 0)).foldl callStep (acc.flat 0, (acc.size : Int) - 1) = ((argsC acc ts).flat 0, ((argsC acc ts).size : Int) - 1) := by
  induction ts with
  | nil => intro acc _; rfl
  | cons t r ih =>
    intro acc h
    simp only [List.map_cons, List.sum_cons, List.length_cons] at h
    have := acc.size_pos; have := t.size_pos
    rw [List.map_cons, List.foldl_cons]
    have e : callStep (acc.flat 0, (acc.size : Int) - 1) (t.flat 0) = ((T.l2 ⟨28, 0, []⟩ acc t).flat 0, ((T.l2 ⟨28, 0, []⟩ acc t).size : Int) - 1) := by
      unfold callStep
      simp only
      rw [behind_flat _ _ (by rw [T.flat_len]; omega), List.length_append, T.flat_len, T.flat_len]
      simp only [T.flat, T.size, overM, mkL, Nat.zero_add]
      simp
      omega
    rw [e, ih _ (by simp only [T.size]; omega)]
    rfl
theorem joinM_call (s : Bytes) (ts : List T) (h : (callT s ts).size ≤ 1000000) : joinM 27 0 s (ts.map (fun t => t.flat 0)) = (callT s ts).flat 0 := by
  have hany : (ts.map (fun t => t.flat 0)).any List.isEmpty = false := by
    rw [List.any_map]; simp only [List.any_eq_false]; intro t _; simpa using flat_ne t 0
  unfold joinM
  rw [hany]
  simp only [Bool.false_eq_true, if_false, if_true]
  rw [if_neg (by decide)]
  cases ts with
  | nil => simp [callM, callF, callT, T.flat, overM, mkL]
  | cons t r =>
    rw [callT_size] at h
    simp only [List.map_cons, List.sum_cons, List.length_cons] at h
    have := t.size_pos
    unfold callM callF
    rw [List.map_cons, List.foldl_cons]
    have e : callStep ([], -1) (t.flat 0) = ((T.l1 ⟨28, 0, []⟩ t).flat 0, ((T.l1 ⟨28, 0, []⟩ t).size : Int) - 1) := by
      unfold callStep
      simp only
      rw [behind_flat _ _ (by simp; omega)]
      simp only [List.nil_append, List.length_nil, T.flat_len, T.flat, T.size, overM, mkL, Nat.zero_add]
      simp
      omega
    rw [e, callF_chain _ _ (by simp only [T.size]; omega)]
    simp only [callT, T.flat, T.size, overM, mkL, Nat.zero_add]
    have hp := (argsC (.l1 ⟨28, 0, []⟩ t) r).size_pos
    simp
    omega
theorem lay1 (a : T) (h : a.size ≤ 1000000) : layF [a.flat 0] = (a.flat 0, [(a.size : Int) - 1]) := by
  simp only [layF, List.foldl_cons, List.foldl_nil, layStep]
  rw [behind_flat _ _ (by simp; omega)]
  simp [T.flat_len]
theorem lay2 (a b : T) (h : a.size + b.size ≤ 1000000) : layF [a.flat 0, b.flat 0] = (a.flat 0 ++ b.flat a.size, [(a.size : Int) - 1, (a.size : Int) + (b.size : Int) - 1]) := by
  simp only [layF, List.foldl_cons, List.foldl_nil, layStep]
  rw [behind_flat [] a (by simp; omega)]
  rw [behind_flat _ b (by simp [T.flat_len]; omega)]
  simp [T.flat_len]
theorem lay3 (a b c : T) (h : a.size + b.size + c.size ≤ 1000000) : layF [a.flat 0, b.flat 0, c.flat 0] = (a.flat 0 ++ b.flat a.size ++ c.flat (a.size + b.size), [(a.size : Int) - 1, (a.size : Int) + (b.size : Int) - 1, (a.size : Int) + (b.size : Int) + (c.size : Int) - 1]) := by
  simp only [layF, List.foldl_cons, List.foldl_nil, layStep]
  rw [behind_flat [] a (by simp; omega)]
  rw [behind_flat _ b (by simp [T.flat_len]; omega)]
  rw [behind_flat _ c (by simp [T.flat_len]; omega)]
  simp [T.flat_len]; omega
theorem joinM_eq (o n : Int) (s : Bytes) (ls : List (List Nd)) (h0 : ls.any List.isEmpty = false) (h27 : o ≠ 27) (h28 : o ≠ 28) (hk : (kidsM (overM o n s [])).length = ls.length) :
    joinM o n s ls = (layF ls).1 ++ [overM o n s (layF ls).2] := by
  unfold joinM
  rw [h0, if_neg h28, if_neg h27, if_pos hk]; simp
theorem flat_any (ts : List T) : (ts.map (fun t => t.flat 0)).any List.isEmpty = false := by
  rw [List.any_map]; simp only [List.any_eq_false]; intro t _; simpa using flat_ne t 0
theorem kids_un (o n : Int) (s : Bytes) (h : unaryB o = true) : (kidsM (overM o n s [])).length = 1 := by simp [kidsM, overM, h]
theorem kids_bin (o n : Int) (s : Bytes) (h : binaryB o = true) : (kidsM (overM o n s [])).length = 2 := by
  have hb := h
  simp [binaryB] at hb
  have hu : unaryB o = false := by simp [unaryB]; omega
  have e26 : o ≠ 26 := by omega
  have e27 : o ≠ 27 := by omega
  have e28 : o ≠ 28 := by omega
  simp [kidsM, overM, hu, h, e26, e27, e28]
theorem kids_leaf (o n : Int) (s : Bytes) (h : 1 ≤ o ∧ o ≤ 3) : (kidsM (overM o n s [])).length = 0 := by
  have hu : unaryB o = false := by simp [unaryB]; omega
  have hb : binaryB o = false := by simp [binaryB]; omega
  have e26 : o ≠ 26 := by omega
  have e27 : o ≠ 27 := by omega
  have e28 : o ≠ 28 := by omega
  simp [kidsM, overM, hu, hb, e26, e27, e28]
theorem joinM_leaf (o n : Int) (s : Bytes) (h : 1 ≤ o ∧ o ≤ 3) : joinM o n s [] = (T.l0 ⟨o, n, s⟩).flat 0 := by
  rw [joinM_eq o n s [] rfl (by omega) (by omega) (kids_leaf o n s h)]
  simp [layF, T.flat, overM, mkL]
theorem joinM_un (o n : Int) (s : Bytes) (a : T) (h : unaryB o = true) (hs : a.size ≤ 1000000) : joinM o n s [a.flat 0] = (T.l1 ⟨o, n, s⟩ a).flat 0 := by
  have hu := h
  simp [unaryB] at hu
  rw [joinM_eq o n s [a.flat 0] (by simpa using flat_any [a]) (by omega) (by omega) (kids_un o n s h), lay1 a hs]
  have := a.size_pos
  simp [T.flat, overM, mkL]; omega
theorem joinM_bin (o n : Int) (s : Bytes) (a b : T) (h : binaryB o = true) (hs : a.size + b.size ≤ 1000000) : joinM o n s [a.flat 0, b.flat 0] = (T.l2 ⟨o, n, s⟩ a b).flat 0 := by
  have hu := h
  simp [binaryB] at hu
  rw [joinM_eq o n s [a.flat 0, b.flat 0] (by simpa using flat_any [a, b]) (by omega) (by omega) (kids_bin o n s h), lay2 a b hs]
  have := a.size_pos; have := b.size_pos
  have h28 : o ≠ 28 := by omega
  simp [T.flat, overM, mkL, h28]; omega
theorem joinM_if (n : Int) (s : Bytes) (a b c : T) (hs : a.size + b.size + c.size ≤ 1000000) : joinM 26 n s [a.flat 0, b.flat 0, c.flat 0] = (T.l3 ⟨26, n, s⟩ a b c).flat 0 := by
  rw [joinM_eq 26 n s [a.flat 0, b.flat 0, c.flat 0] (by simpa using flat_any [a, b, c]) (by decide) (by decide) (by simp [kidsM, overM, unaryB]), lay3 a b c hs]
  have := a.size_pos; have := b.size_pos; have := c.size_pos
  simp [T.flat, overM, mkL]; omega

/-- What is told of a tree. -/
def ptOf (t : T) : Pt := ⟨if t.size ≤ 5000 ∧ t.depth ≤ 40 then t.flat 0 else [], t.size, t.depth⟩
theorem ptOf_zero_op (o n : Int) (s : Bytes) (h : 1 ≤ o ∧ o ≤ 3) : joined o n s [] = ptOf (.l0 ⟨o, n, s⟩) := by
  unfold joined ptOf
  have e : nodesOf o [] = 1 := rfl
  have e2 : deepOf o [] = 1 := rfl
  rw [e, e2, if_pos (by omega), List.map_nil, joinM_leaf o n s h]
  simp [T.size, T.depth]
theorem ptOf_un (o n : Int) (s : Bytes) (a : T) (h : unaryB o = true) : joined o n s [ptOf a] = ptOf (.l1 ⟨o, n, s⟩ a) := by
  have hu := h
  simp [unaryB] at hu
  have h27 : o ≠ 27 := by omega
  unfold joined
  have e : nodesOf o [ptOf a] = (T.l1 ⟨o, n, s⟩ a).size := by rw [nodes_eq, if_neg h27]; simp [ptOf, T.size]; omega
  have e2 : deepOf o [ptOf a] = (T.l1 ⟨o, n, s⟩ a).depth := by simp [deepOf, ptOf, h27, T.depth]; omega
  rw [e, e2]
  show Pt.mk _ _ _ = Pt.mk _ _ _
  congr 1
  by_cases hs : (T.l1 ⟨o, n, s⟩ a).size ≤ 5000 ∧ (T.l1 ⟨o, n, s⟩ a).depth ≤ 40
  · rw [if_pos hs, if_pos hs]
    simp only [T.size, T.depth] at hs
    simp only [List.map_cons, List.map_nil, ptOf]
    rw [if_pos (by omega)]
    exact joinM_un o n s a h (by omega)
  · rw [if_neg hs, if_neg hs]
theorem ptOf_bin (o n : Int) (s : Bytes) (a b : T) (h : binaryB o = true) : joined o n s [ptOf a, ptOf b] = ptOf (.l2 ⟨o, n, s⟩ a b) := by
  have hu := h
  simp [binaryB] at hu
  have h27 : o ≠ 27 := by omega
  unfold joined
  have e : nodesOf o [ptOf a, ptOf b] = (T.l2 ⟨o, n, s⟩ a b).size := by rw [nodes_eq, if_neg h27]; simp [ptOf, T.size]; omega
  have e2 : deepOf o [ptOf a, ptOf b] = (T.l2 ⟨o, n, s⟩ a b).depth := by simp [deepOf, ptOf, h27, T.depth]; omega
  rw [e, e2]
  show Pt.mk _ _ _ = Pt.mk _ _ _
  congr 1
  by_cases hs : (T.l2 ⟨o, n, s⟩ a b).size ≤ 5000 ∧ (T.l2 ⟨o, n, s⟩ a b).depth ≤ 40
  · rw [if_pos hs, if_pos hs]
    simp only [T.size, T.depth] at hs
    simp only [List.map_cons, List.map_nil, ptOf]
    rw [if_pos (by omega), if_pos (by omega)]
    exact joinM_bin o n s a b h (by omega)
  · rw [if_neg hs, if_neg hs]
theorem ptOf_if (n : Int) (s : Bytes) (a b c : T) : joined 26 n s [ptOf a, ptOf b, ptOf c] = ptOf (.l3 ⟨26, n, s⟩ a b c) := by
  unfold joined
  have e : nodesOf 26 [ptOf a, ptOf b, ptOf c] = (T.l3 ⟨26, n, s⟩ a b c).size := by rw [nodes_eq, if_neg (by decide)]; simp [ptOf, T.size]; omega
  have e2 : deepOf 26 [ptOf a, ptOf b, ptOf c] = (T.l3 ⟨26, n, s⟩ a b c).depth := by simp [deepOf, ptOf, T.depth]; omega
  rw [e, e2]
  show Pt.mk _ _ _ = Pt.mk _ _ _
  congr 1
  by_cases hs : (T.l3 ⟨26, n, s⟩ a b c).size ≤ 5000 ∧ (T.l3 ⟨26, n, s⟩ a b c).depth ≤ 40
  · rw [if_pos hs, if_pos hs]
    simp only [T.size, T.depth] at hs
    simp only [List.map_cons, List.map_nil, ptOf]
    rw [if_pos (by omega), if_pos (by omega), if_pos (by omega)]
    exact joinM_if n s a b c (by omega)
  · rw [if_neg hs, if_neg hs]
theorem argsC_deep (ts : List T) : ∀ acc : T, (ts.map ptOf).foldl (fun (a : Nat) (p : Pt) => max a (1 + p.deep) + if (27 : Int) = 27 then 1 else 0) (acc.depth + 1) = (argsC acc ts).depth + 1 := by
  induction ts with
  | nil => intro acc; rfl
  | cons t r ih =>
    intro acc
    rw [List.map_cons, List.foldl_cons]
    have e : (max (acc.depth + 1) (1 + (ptOf t).deep) + if (27 : Int) = 27 then 1 else 0) = (T.l2 ⟨28, 0, []⟩ acc t).depth + 1 := by
      simp only [T.depth, ptOf, if_true]; omega
    rw [e, ih]; rfl
theorem callT_deep (s : Bytes) (ts : List T) : deepOf 27 (ts.map ptOf) = (callT s ts).depth := by
  cases ts with
  | nil => rfl
  | cons t r =>
    unfold deepOf
    rw [List.map_cons, List.foldl_cons]
    have e : (max 1 (1 + (ptOf t).deep) + if (27 : Int) = 27 then 1 else 0) = (T.l1 ⟨28, 0, []⟩ t).depth + 1 := by
      simp only [T.depth, ptOf, if_true]; omega
    rw [e, argsC_deep]; rfl
theorem argsC_parts (ts : List T) : ∀ acc : T, acc.depth ≤ (argsC acc ts).depth ∧ ∀ t ∈ ts, t.depth ≤ (argsC acc ts).depth := by
  induction ts with
  | nil => intro acc; exact ⟨Nat.le_refl _, by simp⟩
  | cons t r ih =>
    intro acc
    have := ih (.l2 ⟨28, 0, []⟩ acc t)
    rw [argsC]
    simp only [T.depth] at this
    refine ⟨by omega, fun u hu => ?_⟩
    rcases List.mem_cons.1 hu with rfl | hu
    · omega
    · exact this.2 u hu
theorem callT_parts (s : Bytes) (ts : List T) : ∀ t ∈ ts, t.depth ≤ (callT s ts).depth ∧ t.size ≤ (callT s ts).size := by
  intro u hu
  have h2 : u.size ≤ (ts.map T.size).sum := by
    clear s
    induction ts with
    | nil => simp at hu
    | cons t r ih =>
      rw [List.map_cons, List.sum_cons]
      rcases List.mem_cons.1 hu with rfl | hu
      · omega
      · have := ih hu; omega
  refine ⟨?_, by rw [callT_size]; omega⟩
  cases ts with
  | nil => simp at hu
  | cons t r =>
    have := argsC_parts r (.l1 ⟨28, 0, []⟩ t)
    simp only [T.depth] at this
    rw [callT]
    simp only [T.depth]
    rcases List.mem_cons.1 hu with rfl | hu
    · omega
    · have := this.2 u hu; omega
theorem ptOf_call (s : Bytes) (ts : List T) : joined 27 0 s (ts.map ptOf) = ptOf (callT s ts) := by
  unfold joined
  have e : nodesOf 27 (ts.map ptOf) = (callT s ts).size := by
    rw [nodes_eq, if_pos rfl, callT_size, List.map_map, List.length_map]; rfl
  rw [e, callT_deep s]
  show Pt.mk _ _ _ = Pt.mk _ _ _
  congr 1
  by_cases hs : (callT s ts).size ≤ 5000 ∧ (callT s ts).depth ≤ 40
  · rw [if_pos hs, if_pos hs]
    rw [List.map_map]
    have : ts.map (Pt.e ∘ ptOf) = ts.map (fun t => t.flat 0) := List.map_congr_left fun t ht => by
      have := callT_parts s ts t ht
      simp only [Function.comp, ptOf]
      rw [if_pos (by omega)]
    rw [this]
    exact joinM_call s ts (by omega)
  · rw [if_neg hs, if_neg hs]

/-- A tree that may stand as an operand. -/
def okT (t : T) : Prop := t.okB = true ∧ t.lab.op ≠ 28
def okP (p : Pt) : Prop := ∃ t, okT t ∧ p = ptOf t
theorem ok_leaf (o n : Int) (s : Bytes) (h : 1 ≤ o ∧ o ≤ 3) (hp : plainB ⟨o, n, s⟩ = true) : okP (joined o n s []) := by
  refine ⟨_, ⟨?_, ?_⟩, ptOf_zero_op o n s h⟩
  · simp only [T.okB, hp, Bool.true_and]
    have hu : unaryB o = false := by simp [unaryB]; omega
    have hb : binaryB o = false := by simp [binaryB]; omega
    have e26 : o ≠ 26 := by omega
    have e27 : o ≠ 27 := by omega
    have e28 : o ≠ 28 := by omega
    simp [fitsB, hu, hb, e26, e27, e28]
  · simp [T.lab]; omega
theorem ok_un (o n : Int) (a : Pt) (h : unaryB o = true) (hp : plainB ⟨o, n, []⟩ = true) (ha : okP a) : okP (joined o n [] [a]) := by
  obtain ⟨t, ⟨h1, h2⟩, rfl⟩ := ha
  have hu := h
  simp [unaryB] at hu
  have e27 : o ≠ 27 := by omega
  refine ⟨_, ⟨?_, by simp [T.lab]; omega⟩, ptOf_un o n [] t h⟩
  have b1 : (t.lab.op == 28) = false := by simpa using h2
  have b2 : (o == 27) = false := by simpa using e27
  simp [T.okB, hp, fitsB, h, argsT, argsL, h1, b1, b2]
theorem plain_op (o : Int) (h : 4 ≤ o ∧ o ≤ 24) : plainB ⟨o, 0, []⟩ = true := by
  have e1 : o ≠ 1 := by omega
  have e2 : o ≠ 2 := by omega
  have e3 : o ≠ 3 := by omega
  have e25 : o ≠ 25 := by omega
  have e27 : o ≠ 27 := by omega
  simp [plainB, e1, e2, e3, e25, e27]; omega
theorem ok_bin (o : Int) (a b : Pt) (h : binaryB o = true) (ha : okP a) (hb : okP b) : okP (joined o 0 [] [a, b]) := by
  obtain ⟨t, ⟨h1, h2⟩, rfl⟩ := ha
  obtain ⟨u, ⟨h3, h4⟩, rfl⟩ := hb
  have hu := h
  simp [binaryB] at hu
  have hun : unaryB o = false := by simp [unaryB]; omega
  have e26 : o ≠ 26 := by omega
  have e27 : o ≠ 27 := by omega
  have e28 : o ≠ 28 := by omega
  have hp := plain_op o (by omega)
  refine ⟨_, ⟨?_, by simp [T.lab]; omega⟩, ptOf_bin o 0 [] t u h⟩
  have b1 : (t.lab.op == 28) = false := by simpa using h2
  have b3 : (u.lab.op == 28) = false := by simpa using h4
  have b2 : (o == 27) = false := by simpa using e27
  have b4 : (o == 28) = false := by simpa using e28
  simp [T.okB, hp, fitsB, h, hun, argsT, argsL, h1, h3, b1, b2, b3, b4, e26, e27, e28]
theorem ok_if (a b c : Pt) (ha : okP a) (hb : okP b) (hc : okP c) : okP (joined 26 0 [] [a, b, c]) := by
  obtain ⟨t, ⟨h1, h2⟩, rfl⟩ := ha
  obtain ⟨u, ⟨h3, h4⟩, rfl⟩ := hb
  obtain ⟨v, ⟨h5, h6⟩, rfl⟩ := hc
  refine ⟨_, ⟨?_, by simp [T.lab]⟩, ptOf_if 0 [] t u v⟩
  simp [T.okB, plainB, fitsB, unaryB, argsT, argsL, h1, h2, h3, h4, h5, h6]
theorem argsC_ok (ts : List T) (h : ∀ t ∈ ts, okT t) : ∀ acc : T, acc.okB = true → acc.lab.op = 28 → (argsC acc ts).okB = true ∧ (argsC acc ts).lab.op = 28 := by
  induction ts with
  | nil => intro acc h1 h2; exact ⟨h1, h2⟩
  | cons t r ih =>
    intro acc h1 h2
    have ht := h t (by simp)
    refine ih (fun u hu => h u (by simp [hu])) _ ?_ rfl
    have h3 := ht.1
    have h4 := ht.2
    simp [T.okB, plainB, fitsB, unaryB, argsT, argsL, h1, h2, h3, h4]
theorem ok_call (s : Bytes) (ps : List Pt) (hs : s ≠ []) (h : ∀ p ∈ ps, okP p) : okP (joined 27 0 s ps) := by
  obtain ⟨ts, hts, rfl⟩ : ∃ ts : List T, (∀ t ∈ ts, okT t) ∧ ps = ts.map ptOf := by
    induction ps with
    | nil => exact ⟨[], by simp, rfl⟩
    | cons p r ih =>
      obtain ⟨t, ht, rfl⟩ := h p (by simp)
      obtain ⟨ts, h1, rfl⟩ := ih (fun q hq => h q (by simp [hq]))
      exact ⟨t :: ts, by intro u hu; rcases List.mem_cons.1 hu with rfl | hu; exact ht; exact h1 u hu, rfl⟩
  have hp : plainB ⟨27, 0, s⟩ = true := by simp [plainB, hs]
  refine ⟨_, ⟨?_, ?_⟩, ptOf_call s ts⟩
  · cases ts with
    | nil => simp [callT, T.okB, hp, fitsB, unaryB]
    | cons t r =>
      have ht := hts t (by simp)
      have := argsC_ok r (fun u hu => hts u (by simp [hu])) (.l1 ⟨28, 0, []⟩ t) (by simp [T.okB, plainB, fitsB, unaryB, argsT, argsL, ht.1, ht.2]) rfl
      simp [callT, T.okB, hp, fitsB, unaryB, argsT, argsL, this.1, this.2]
  · cases ts <;> simp [callT, T.lab]
def binB (s : Int × Bool) : Bool := binaryB s.1
theorem signs_bin (n : Nat) (h : n ≤ 8) : ∀ x ∈ signsM n, binB x.2 = true := by
  match n, h with
  | 0, _ => simp [signsM]
  | 1, _ => decide
  | 2, _ => decide
  | 3, _ => decide
  | 4, _ => decide
  | 5, _ => decide
  | 6, _ => decide
  | 7, _ => decide
  | 8, _ => decide
theorem sign_bin {r : Rd} {n : Nat} {s : Int × Bool} (hn : n ≤ 8) (h : r.sign n = some s) : binaryB s.1 = true := by
  unfold Rd.sign at h
  split at h
  · exact signs_bin n hn _ (lookup_mem _ _ _ h)
  · cases h
def unB (s : Int × Bool) : Bool := unaryB s.1 && decide (4 ≤ s.1) && decide (s.1 ≤ 25)
theorem signs_un : ∀ x ∈ signsM 9, unB x.2 = true := by decide
theorem sign_un {r : Rd} {s : Int × Bool} (h : r.sign 9 = some s) : unaryB s.1 = true := by
  unfold Rd.sign at h
  split at h
  · have := signs_un _ (lookup_mem _ _ _ h); simp [unB] at this; exact this.1.1
  · cases h
theorem ok_sjoin (s : Int × Bool) (a b : Pt) (h : binaryB s.1 = true) (ha : okP a) (hb : okP b) : okP (sjoin s a b) := by
  unfold sjoin
  split
  · exact ok_bin _ _ _ h hb ha
  · exact ok_bin _ _ _ h ha hb
theorem ok_foldR : ∀ (ps : List Pt) (ops : List (Int × Bool)), ps.length = ops.length + 1 → (∀ p ∈ ps, okP p) → (∀ s ∈ ops, binaryB s.1 = true) → okP (foldR ps ops)
  | p :: ps, o :: os, h, h1, h2 => ok_sjoin o p _ (h2 o (by simp)) (h1 p (by simp)) (ok_foldR ps os (by simpa using h) (fun q hq => h1 q (by simp [hq])) (fun q hq => h2 q (by simp [hq])))
  | p :: _, [], _, h1, _ => h1 p (by simp)
  | [], _, h, _, _ => by simp at h
def Task.tree (r : Rd) : Task → Prop
  | .lev n => n ≤ 9
  | .rl n ps ops => n ≤ 8 ∧ (∀ p ∈ ps, okP p) ∧ (∀ s ∈ ops, binaryB s.1 = true) ∧ ps.length = ops.length + 1
  | .ll n p => n ≤ 8 ∧ okP p
  | .named s => s ≠ []
  | .args s ps => s ≠ [] ∧ ∀ p ∈ ps, okP p
  | _ => True
theorem fail_code (e : Int) (he : e ≠ 0) (r : Rd) : (r.fail e).code ≠ 0 := by
  unfold Rd.fail; split
  · exact he
  · assumption
/-- Behind a fault there is one. -/
theorem run_code : ∀ (f : Nat) (t : Task) (r : Rd) (p : Pt) (r' : Rd), run f t r = some (p, r') → r.code ≠ 0 → r'.code = r.code ∧ r'.at_ = r.at_ := by
  have fl : ∀ (e : Int) (r : Rd), r.code ≠ 0 → (r.fail e).code = r.code ∧ (r.fail e).at_ = r.at_ := fun e r h => by unfold Rd.fail; rw [if_neg h]; exact ⟨rfl, rfl⟩
  have nd : ∀ (s : Bytes) (r : Rd), r.code ≠ 0 → (r.need s).code = r.code ∧ (r.need s).at_ = r.at_ := fun s r h => by
    unfold Rd.need; split
    · exact ⟨rfl, rfl⟩
    · exact fl 5 r h
  have nm : ∀ (m : Nat) (r : Rd), r.code ≠ 0 → (r.numR m).code = r.code ∧ (r.numR m).at_ = r.at_ := fun m r h => by
    unfold Rd.numR; split
    · exact ⟨rfl, rfl⟩
    · exact fl 5 r h
  intro f
  induction f with
  | zero => intro t r p r' h; cases h
  | succ f ih =>
    intro t r p r' h hc
    have IH : ∀ {t : Task} {r1 : Rd} {p : Pt} {r' : Rd}, run f t r1 = some (p, r') → (r1.code = r.code ∧ r1.at_ = r.at_) → r'.code = r.code ∧ r'.at_ = r.at_ := fun h1 h2 => by
      have := ih _ _ _ _ h1 (by rw [h2.1]; exact hc)
      exact ⟨this.1.trans h2.1, this.2.trans h2.2⟩
    have N : ∀ (s : Bytes) {r1 : Rd}, (r1.code = r.code ∧ r1.at_ = r.at_) → (r1.need s).code = r.code ∧ (r1.need s).at_ = r.at_ := fun s {r1} h2 => by
      have := nd s r1 (by rw [h2.1]; exact hc)
      exact ⟨this.1.trans h2.1, this.2.trans h2.2⟩
    cases t with
    | lev n =>
      simp only [run] at h
      split at h
      · exact IH h ⟨rfl, rfl⟩
      · obtain ⟨⟨q, r1⟩, h1, h2⟩ := bind_some h
        simp only at h2
        split at h2 <;> exact IH h2 (IH h1 ⟨rfl, rfl⟩)
    | rl n ps ops =>
      simp only [run] at h
      split at h
      · simp only [Option.some.injEq, Prod.mk.injEq] at h
        obtain ⟨rfl, rfl⟩ := h; exact ⟨rfl, rfl⟩
      · obtain ⟨⟨q, r1⟩, h1, h2⟩ := bind_some h
        exact IH h2 (IH h1 ⟨rfl, rfl⟩)
    | ll n p0 =>
      simp only [run] at h
      split at h
      · simp only [Option.some.injEq, Prod.mk.injEq] at h
        obtain ⟨rfl, rfl⟩ := h; exact ⟨rfl, rfl⟩
      · obtain ⟨⟨q, r1⟩, h1, h2⟩ := bind_some h
        simp only at h2
        split at h2
        · simp only [Option.some.injEq, Prod.mk.injEq] at h2
          obtain ⟨rfl, rfl⟩ := h2; exact IH h1 ⟨rfl, rfl⟩
        · exact IH h2 (IH h1 ⟨rfl, rfl⟩)
    | opnd =>
      simp only [run] at h
      split at h
      · simp only [Option.some.injEq, Prod.mk.injEq] at h
        obtain ⟨rfl, rfl⟩ := h; exact fl 6 r hc
      · split at h
        · obtain ⟨⟨q, r1⟩, h1, h2⟩ := map_some h
          simp only [Prod.mk.injEq] at h2
          obtain ⟨rfl, rfl⟩ := h2
          exact IH (r' := r1) h1 ⟨rfl, rfl⟩
        · obtain ⟨⟨q, r1⟩, h1, h2⟩ := map_some h
          simp only [Prod.mk.injEq] at h2
          obtain ⟨rfl, rfl⟩ := h2
          refine IH (r' := r1) h1 ?_
          split
          · exact nm 1000 r.open_.adv hc
          · exact ⟨rfl, rfl⟩
    | single =>
      simp only [run] at h
      split at h
      · obtain ⟨⟨q, r1⟩, h1, h2⟩ := map_some h
        simp only [Prod.mk.injEq] at h2
        obtain ⟨rfl, rfl⟩ := h2
        exact N _ (IH h1 ⟨rfl, rfl⟩)
      · split at h
        · obtain ⟨⟨a, r1⟩, h1, h⟩ := bind_some h
          obtain ⟨⟨b, r2⟩, h2, h⟩ := bind_some h
          obtain ⟨⟨c, r3⟩, h3, h⟩ := map_some h
          simp only [Prod.mk.injEq] at h
          obtain ⟨rfl, rfl⟩ := h
          exact IH h3 (N _ (IH h2 (N _ (IH h1 ⟨rfl, rfl⟩))))
        · split at h
          · simp only [Option.some.injEq, Prod.mk.injEq] at h
            obtain ⟨rfl, rfl⟩ := h; exact ⟨rfl, rfl⟩
          · split at h
            · simp only [Option.some.injEq, Prod.mk.injEq] at h
              obtain ⟨rfl, rfl⟩ := h; exact ⟨rfl, rfl⟩
            · split at h
              · simp only [Option.some.injEq, Prod.mk.injEq] at h
                obtain ⟨rfl, rfl⟩ := h; exact nm _ r hc
              · split at h
                · exact IH h ⟨rfl, rfl⟩
                · simp only [Option.some.injEq, Prod.mk.injEq] at h
                  obtain ⟨rfl, rfl⟩ := h; exact fl 5 r hc
    | named s =>
      simp only [run] at h
      split at h
      · split at h
        · simp only [Option.some.injEq, Prod.mk.injEq] at h
          obtain ⟨rfl, rfl⟩ := h; exact ⟨rfl, rfl⟩
        · obtain ⟨⟨q, r1⟩, h1, h2⟩ := bind_some h
          exact IH h2 (IH h1 ⟨rfl, rfl⟩)
      · simp only [Option.some.injEq, Prod.mk.injEq] at h
        obtain ⟨rfl, rfl⟩ := h; exact ⟨rfl, rfl⟩
    | args s ps =>
      simp only [run] at h
      split at h
      · obtain ⟨⟨q, r1⟩, h1, h2⟩ := bind_some h
        exact IH h2 (IH h1 ⟨rfl, rfl⟩)
      · simp only [Option.some.injEq, Prod.mk.injEq] at h
        obtain ⟨rfl, rfl⟩ := h; exact nd rp r hc
theorem run_ok0 {f : Nat} {t : Task} {r : Rd} {p : Pt} {r' : Rd} (h : run f t r = some (p, r')) (hc : r'.code = 0) : r.code = 0 := by
  apply Classical.byContradiction
  intro h0
  exact h0 ((run_code f t r p r' h h0).1.symm.trans hc)
theorem need_ok {s : Bytes} {r : Rd} (h : (r.need s).code = 0) : r.isB s = true ∧ r.need s = r.adv := by
  unfold Rd.need at h ⊢
  split at h
  · rename_i hb; exact ⟨hb, by rw [if_pos hb]⟩
  · exact absurd h (fail_code 5 (by decide) r)
theorem numR_ok {m : Nat} {r : Rd} (h : (r.numR m).code = 0) : numB m r.cur = true ∧ r.numR m = r.adv ∧ r.num m = Lx.val r.cur.text := by
  unfold Rd.numR at h ⊢
  split at h
  · rename_i hb; exact ⟨hb, by rw [if_pos hb], by unfold Rd.num; rw [if_pos hb]⟩
  · exact absurd h (fail_code 5 (by decide) r)
/-- What is read without a fault is a tree. -/
theorem run_tree : ∀ (f : Nat) (t : Task) (r : Rd) (p : Pt) (r' : Rd), run f t r = some (p, r') → r'.code = 0 → t.tree r → okP p := by
  intro f
  induction f with
  | zero => intro t r p r' h; cases h
  | succ f ih =>
    intro t r p r' h hc ht
    cases t with
    | lev n =>
      simp only [run] at h
      simp only [Task.tree] at ht
      split at h
      · exact ih .opnd _ _ _ h hc trivial
      · obtain ⟨⟨q, r1⟩, h1, h2⟩ := bind_some h
        simp only at h2
        split at h2
        · exact ih _ _ _ _ h2 hc ⟨by omega, by simpa using ih _ _ _ _ h1 (run_ok0 h2 hc) (by simp only [Task.tree]; omega), by simp, rfl⟩
        · exact ih _ _ _ _ h2 hc ⟨by omega, ih _ _ _ _ h1 (run_ok0 h2 hc) (by simp only [Task.tree]; omega)⟩
    | rl n ps ops =>
      simp only [run] at h
      obtain ⟨hn, h1, h2, h3⟩ := ht
      split at h
      · simp only [Option.some.injEq, Prod.mk.injEq] at h
        obtain ⟨rfl, rfl⟩ := h; exact ok_foldR _ _ h3 h1 h2
      · rename_i s hs
        obtain ⟨⟨q, r1⟩, k1, k2⟩ := bind_some h
        have hq := ih _ _ _ _ k1 (run_ok0 k2 hc) (by simp only [Task.tree]; omega)
        exact ih _ _ _ _ k2 hc ⟨hn, by intro x hx; simp at hx; rcases hx with hx | hx; exact h1 x hx; subst hx; exact hq, by intro x hx; simp at hx; rcases hx with hx | hx; exact h2 x hx; subst hx; exact sign_bin hn hs, by simp [h3]⟩
    | ll n p0 =>
      simp only [run] at h
      obtain ⟨hn, h1⟩ := ht
      split at h
      · simp only [Option.some.injEq, Prod.mk.injEq] at h
        obtain ⟨rfl, rfl⟩ := h; exact h1
      · rename_i s hs
        obtain ⟨⟨q, r1⟩, k1, k2⟩ := bind_some h
        simp only at k2
        split at k2
        · simp only [Option.some.injEq, Prod.mk.injEq] at k2
          obtain ⟨rfl, rfl⟩ := k2
          exact ok_sjoin _ _ _ (sign_bin hn hs) h1 (ih _ _ _ _ k1 hc (by simp only [Task.tree]; omega))
        · exact ih _ _ _ _ k2 hc ⟨hn, ok_sjoin _ _ _ (sign_bin hn hs) h1 (ih _ _ _ _ k1 (run_ok0 k2 hc) (by simp only [Task.tree]; omega))⟩
    | opnd =>
      simp only [run] at h
      split at h
      · simp only [Option.some.injEq, Prod.mk.injEq] at h
        obtain ⟨rfl, rfl⟩ := h; exact absurd hc (fail_code 6 (by decide) r)
      · split at h
        · obtain ⟨⟨q, r1⟩, h1, h2⟩ := map_some h
          simp only [Prod.mk.injEq] at h2
          obtain ⟨rfl, rfl⟩ := h2
          exact ih .single _ _ _ h1 hc trivial
        · rename_i s hs
          obtain ⟨⟨q, r1⟩, h1, h2⟩ := map_some h
          simp only [Prod.mk.injEq] at h2
          obtain ⟨rfl, rfl⟩ := h2
          have hq := ih .opnd _ _ _ h1 hc trivial
          have hu := sign_un hs
          have hso := sign_ops hs
          refine ok_un _ _ _ hu ?_ hq
          split
          · rename_i h25
            rw [if_pos h25] at h1
            obtain ⟨hb, _, hv⟩ := numR_ok (run_ok0 h1 hc)
            rw [hv]
            simp [numB] at hb
            have := hb.2
            rw [h25]
            simp [plainB]; omega
          · exact plain_op _ (by omega)
    | single =>
      simp only [run] at h
      split at h
      · obtain ⟨⟨q, r1⟩, h1, h2⟩ := map_some h
        simp only [Prod.mk.injEq] at h2
        obtain ⟨rfl, rfl⟩ := h2
        have := need_ok hc
        rw [this.2] at hc
        exact ih _ _ _ _ h1 hc (by simp [Task.tree])
      · split at h
        · obtain ⟨⟨a, r1⟩, h1, h⟩ := bind_some h
          obtain ⟨⟨b, r2⟩, h2, h⟩ := bind_some h
          obtain ⟨⟨c, r3⟩, h3, h⟩ := map_some h
          simp only [Prod.mk.injEq] at h
          obtain ⟨rfl, rfl⟩ := h
          have c2 := run_ok0 h3 hc
          rw [(need_ok c2).2] at c2
          have c1 := run_ok0 h2 c2
          rw [(need_ok c1).2] at c1
          exact ok_if _ _ _ (ih _ _ _ _ h1 c1 (by simp [Task.tree])) (ih _ _ _ _ h2 c2 (by simp [Task.tree])) (ih _ _ _ _ h3 hc (by simp [Task.tree]))
        · split at h
          · simp only [Option.some.injEq, Prod.mk.injEq] at h
            obtain ⟨rfl, rfl⟩ := h; exact ok_leaf 2 1 [] (by decide) (by decide)
          · split at h
            · simp only [Option.some.injEq, Prod.mk.injEq] at h
              obtain ⟨rfl, rfl⟩ := h; exact ok_leaf 2 0 [] (by decide) (by decide)
            · split at h
              · simp only [Option.some.injEq, Prod.mk.injEq] at h
                obtain ⟨rfl, rfl⟩ := h
                obtain ⟨hb, _, hv⟩ := numR_ok hc
                rw [hv]
                simp [numB] at hb
                exact ok_leaf 1 _ [] (by decide) (by simp [plainB]; omega)
              · split at h
                · rename_i hk
                  exact ih (.named r.cur.text) _ _ _ h hc hk.2
                · simp only [Option.some.injEq, Prod.mk.injEq] at h
                  obtain ⟨rfl, rfl⟩ := h; exact absurd hc (fail_code 5 (by decide) r)
    | named s =>
      simp only [run] at h
      simp only [Task.tree] at ht
      split at h
      · split at h
        · simp only [Option.some.injEq, Prod.mk.injEq] at h
          obtain ⟨rfl, rfl⟩ := h; exact ok_call s [] ht (by simp)
        · obtain ⟨⟨q, r1⟩, h1, h2⟩ := bind_some h
          exact ih _ _ _ _ h2 hc ⟨ht, by simpa using ih _ _ _ _ h1 (run_ok0 h2 hc) (by simp [Task.tree])⟩
      · simp only [Option.some.injEq, Prod.mk.injEq] at h
        obtain ⟨rfl, rfl⟩ := h; exact ok_leaf 3 0 s (by decide) (by simp [plainB, ht])
    | args s ps =>
      simp only [run] at h
      obtain ⟨hs, hps⟩ := ht
      split at h
      · obtain ⟨⟨q, r1⟩, h1, h2⟩ := bind_some h
        have hq := ih _ _ _ _ h1 (run_ok0 h2 hc) (by simp [Task.tree])
        exact ih _ _ _ _ h2 hc ⟨hs, by intro x hx; simp at hx; rcases hx with hx | hx; exact hps x hx; subst hx; exact hq⟩
      · simp only [Option.some.injEq, Prod.mk.injEq] at h
        obtain ⟨rfl, rfl⟩ := h; exact ok_call s ps hs hps
end Go.Proofs.YtgohhnbdicdenaaGreatDoor.Ex

/- What a reader reads among other tokens: what stands ahead, behind, and where tokens stand, is of no moment. Conditions: as each says. -/
namespace Go.Proofs.YtgohhnbdicdenaaGreatDoor.Ex
open Go.Proofs.YtgohhnbdicdenaaGreatDoor.Tr
set_option linter.unusedVariables false
set_option linter.unusedSimpArgs false

theorem fine0 {r : Rd} (h : r.code = 0) : r.fine := fun hc => absurd h hc
/-- Whoever reads without a fault has a token to read. -/
theorem run_lt {f : Nat} {t : Task} {r : Rd} {p : Pt} {r' : Rd} (h : run f t r = some (p, r')) (hc : r'.code = 0) (hp : t.pre r) (ht : t.tree r) (hb : t.base = 0) : r.next < r.l.length := by
  obtain ⟨s, _, hm⟩ := run_step f t r p r' h (fine0 (run_ok0 h hc)) hp
  obtain ⟨u, _, rfl⟩ := run_tree f t r p r' h hc ht
  have h1 := u.size_pos
  have h2 : (ptOf u).nodes = u.size := rfl
  have h0 := run_ok0 h hc
  have h3 := s.top
  unfold Rd.mu at hm
  rw [h0, hc, hb, h2] at hm
  simp at hm
  omega

def Task.low : Task → Nat
  | .rl _ ps ops => (ps.map Pt.nodes).sum + ops.length
  | .ll _ p => p.nodes
  | .args _ ps => 1 + (ps.map Pt.nodes).sum + ps.length
  | .named _ => 1
  | _ => 0
def Task.shape : Task → Prop
  | .rl n ps ops => ps.length = ops.length + 1 ∧ ∀ s ∈ ops, s.1 ≤ 25
  | _ => True
theorem foldR_low : ∀ (ps : List Pt) (ops : List (Int × Bool)), ps.length = ops.length + 1 → (∀ s ∈ ops, s.1 ≤ 25) → (ps.map Pt.nodes).sum + ops.length ≤ (foldR ps ops).nodes
  | p :: ps, o :: os, h, h2 => by
    have := foldR_low ps os (by simpa using h) (fun q hq => h2 q (by simp [hq]))
    show _ ≤ (sjoin o p (foldR ps os)).nodes
    rw [sjoin_nodes _ _ _ (h2 o (by simp))]; simp; omega
  | [p], [], _, _ => by show _ ≤ p.nodes; simp
  | _ :: _ :: _, [], h, _ => by simp at h
  | [], _, h, _ => by simp at h
/-- What is read has what had been read. -/
theorem run_low : ∀ (f : Nat) (t : Task) (r : Rd) (p : Pt) (r' : Rd), run f t r = some (p, r') → t.shape → t.low ≤ p.nodes := by
  intro f
  induction f with
  | zero => intro t r p r' h; cases h
  | succ f ih =>
    intro t r p r' h ht
    cases t with
    | lev n => exact Nat.zero_le _
    | opnd => exact Nat.zero_le _
    | single => exact Nat.zero_le _
    | rl n ps ops =>
      simp only [run] at h
      obtain ⟨h1, h2⟩ := ht
      split at h
      · simp only [Option.some.injEq, Prod.mk.injEq] at h
        obtain ⟨rfl, rfl⟩ := h
        exact foldR_low ps ops h1 h2
      · rename_i s hs
        obtain ⟨⟨q, r1⟩, k1, k2⟩ := bind_some h
        have := ih _ _ _ _ k2 ⟨by simp [h1], by intro x hx; simp at hx; rcases hx with hx | hx; exact h2 x hx; subst hx; exact (sign_ops hs).2⟩
        simp only [Task.low, List.map_append, List.sum_append, List.length_append] at this ⊢
        omega
    | ll n p0 =>
      simp only [run] at h
      split at h
      · simp only [Option.some.injEq, Prod.mk.injEq] at h
        obtain ⟨rfl, rfl⟩ := h
        exact Nat.le_refl _
      · rename_i s hs
        obtain ⟨⟨q, r1⟩, k1, k2⟩ := bind_some h
        have hj := sjoin_nodes s p0 q (sign_ops hs).2
        simp only at k2
        split at k2
        · simp only [Option.some.injEq, Prod.mk.injEq] at k2
          obtain ⟨rfl, rfl⟩ := k2
          simp only [Task.low]; omega
        · have := ih _ _ _ _ k2 trivial
          simp only [Task.low] at this ⊢; omega
    | named s =>
      simp only [run] at h
      split at h
      · split at h
        · simp only [Option.some.injEq, Prod.mk.injEq] at h
          obtain ⟨rfl, rfl⟩ := h
          rw [joined_nodes]; simp [Task.low]
        · obtain ⟨⟨q, r1⟩, k1, k2⟩ := bind_some h
          have := ih _ _ _ _ k2 trivial
          simp only [Task.low] at this ⊢; omega
      · simp only [Option.some.injEq, Prod.mk.injEq] at h
        obtain ⟨rfl, rfl⟩ := h
        rw [joined_nodes]; simp [Task.low]
    | args s ps =>
      simp only [run] at h
      split at h
      · obtain ⟨⟨q, r1⟩, k1, k2⟩ := bind_some h
        have := ih _ _ _ _ k2 trivial
        simp only [Task.low, List.map_append, List.sum_append, List.length_append] at this ⊢
        omega
      · simp only [Option.some.injEq, Prod.mk.injEq] at h
        obtain ⟨rfl, rfl⟩ := h
        rw [joined_nodes, if_pos rfl]
        exact Nat.le_refl _

/-- No expression goes on with the first of these tokens. -/
def Stop (x : List Tok) : Prop := ∀ t, x[0]? = some t → (t.kind = 3 ∨ t.kind = 4) → t.text ≠ lp ∧ ∀ n, n ≤ 8 → (signsM n).lookup t.text = none
def Like (l m : List Tok) : Prop := m.length = l.length ∧ ∀ (i : Nat) t, l[i]? = some t → ∃ u : Tok, m[i]? = some u ∧ u.kind = t.kind ∧ u.text = t.text

structure Sim (pre m x l : List Tok) (d : Nat) (r q : Rd) : Prop where
  rl : r.l = l
  ql : q.l = pre ++ m ++ x
  rc : r.code = 0
  qc : q.code = 0
  nx : q.next = pre.length + r.next
  le : r.next ≤ l.length
  bg : q.begun = r.begun + d
section
variable {pre m x l : List Tok} {d : Nat} {r q : Rd}
theorem Sim.cur (h : Sim pre m x l d r q) (hl : Like l m) (hlt : r.next < l.length) : q.cur.kind = r.cur.kind ∧ q.cur.text = r.cur.text ∧ q.next < q.l.length ∧ r.next < r.l.length := by
  obtain ⟨t, ht⟩ : ∃ t, l[r.next]? = some t := ⟨_, List.getElem?_eq_getElem hlt⟩
  obtain ⟨u, hu, hk, htx⟩ := hl.2 _ _ ht
  have e1 : r.cur = t := by unfold Rd.cur; rw [h.rl, ht]; rfl
  have e2 : q.cur = u := by
    unfold Rd.cur
    rw [h.ql, h.nx, List.append_assoc, List.getElem?_append_right (by omega), List.getElem?_append_left (by rw [hl.1]; omega), Nat.add_sub_cancel_left, hu]; rfl
  rw [e1, e2]
  refine ⟨hk, htx, ?_, by rw [h.rl]; exact hlt⟩
  rw [h.ql, h.nx, List.length_append, List.length_append, hl.1]; omega
theorem Sim.ws (h : Sim pre m x l d r q) (hl : Like l m) (hlt : r.next < l.length) : q.ws = r.ws := by
  obtain ⟨h1, h2, h3, h4⟩ := h.cur hl hlt
  unfold Rd.ws
  rw [h1]; simp [h3, h4]
theorem Sim.isB (h : Sim pre m x l d r q) (hl : Like l m) (hlt : r.next < l.length) (s : Bytes) : q.isB s = r.isB s := by
  unfold Rd.isB
  rw [h.ws hl hlt, (h.cur hl hlt).2.1]
theorem Sim.sign (h : Sim pre m x l d r q) (hl : Like l m) (hlt : r.next < l.length) (n : Nat) : q.sign n = r.sign n := by
  unfold Rd.sign
  rw [h.ws hl hlt, (h.cur hl hlt).2.1]
theorem Sim.numB (h : Sim pre m x l d r q) (hl : Like l m) (hlt : r.next < l.length) (k : Nat) : numB k q.cur = numB k r.cur := by
  unfold Ex.numB
  rw [(h.cur hl hlt).1, (h.cur hl hlt).2.1]
theorem Sim.adv (h : Sim pre m x l d r q) (hlt : r.next < l.length) : Sim pre m x l d r.adv q.adv :=
  ⟨h.rl, h.ql, h.rc, h.qc, by simp [Rd.adv, h.nx]; omega, by simp [Rd.adv]; omega, h.bg⟩
theorem Sim.open_ (h : Sim pre m x l d r q) : Sim pre m x l d r.open_ q.open_ := ⟨h.rl, h.ql, h.rc, h.qc, h.nx, h.le, by simp [Rd.open_, h.bg]; omega⟩
theorem Sim.shut (h : Sim pre m x l d r q) (hb : 1 ≤ r.begun) : Sim pre m x l d r.shut q.shut := ⟨h.rl, h.ql, h.rc, h.qc, h.nx, h.le, by simp [Rd.shut, h.bg]; omega⟩
theorem end_ws (h : Sim pre m x l d r q) (he : r.next = l.length) : r.ws = false := by
  unfold Rd.ws; rw [h.rl, he]; simp
theorem end_sign (h : Sim pre m x l d r q) (he : r.next = l.length) (n : Nat) : r.sign n = none := by
  unfold Rd.sign; rw [end_ws h he]; rfl
theorem end_isB (h : Sim pre m x l d r q) (he : r.next = l.length) (s : Bytes) : r.isB s = false := by
  unfold Rd.isB; rw [end_ws h he]; rfl
theorem end_cur (h : Sim pre m x l d r q) (hl : Like l m) (he : r.next = l.length) : q.cur = (x[0]?).getD noTok := by
  unfold Rd.cur
  rw [h.ql, h.nx, he, List.append_assoc, List.getElem?_append_right (by omega), List.getElem?_append_right (by rw [hl.1]; omega), hl.1]
  congr 2; omega
theorem stop_sign (h : Sim pre m x l d r q) (hl : Like l m) (he : r.next = l.length) (hx : Stop x) (n : Nat) (hn : n ≤ 8) : q.sign n = none := by
  unfold Rd.sign
  split
  · rename_i hw
    have hc := end_cur h hl he
    have hlt := ws_lt hw
    simp only [Rd.ws, Bool.and_eq_true, Bool.or_eq_true, beq_iff_eq] at hw
    cases h0 : x[0]? with
    | none => rw [hc, h0] at hw; simp [noTok] at hw
    | some t =>
      rw [hc, h0] at hw ⊢
      exact (hx t h0 hw.2).2 n hn
  · rfl
theorem stop_lp (h : Sim pre m x l d r q) (hl : Like l m) (he : r.next = l.length) (hx : Stop x) : q.isB lp = false := by
  unfold Rd.isB
  cases hw : q.ws with
  | false => rfl
  | true =>
    have hc := end_cur h hl he
    simp only [Rd.ws, Bool.and_eq_true, Bool.or_eq_true, beq_iff_eq] at hw
    cases h0 : x[0]? with
    | none => rw [hc, h0] at hw; simp [noTok] at hw
    | some t =>
      rw [hc, h0] at hw ⊢
      have := (hx t h0 hw.2).1
      simpa using this
end
def Same (pre m x l : List Tok) (d : Nat) (p p' : Pt) (r' q' : Rd) : Prop :=
  (0 < d ∧ q'.code = 6) ∨ (p' = p ∧ Sim pre m x l d r' q') ∨ (r'.next = l.length ∧ r'.l = l ∧ ¬ Stop x ∧ (q'.code = 0 → p.nodes ≤ p'.nodes))

theorem need_code6 {q : Rd} (s : Bytes) (h : q.code = 6) : (q.need s).code = 6 := by
  unfold Rd.need
  split
  · exact h
  · unfold Rd.fail; rw [if_neg (by omega)]; exact h
theorem end_rl {f n : Nat} {ps : List Pt} {ops : List (Int × Bool)} {r : Rd} {p : Pt} {r' : Rd} (h : run f (.rl n ps ops) r = some (p, r')) (he : r.next = r.l.length) : p = foldR ps ops ∧ r' = r := by
  cases f with
  | zero => cases h
  | succ f =>
    have hs : r.sign n = none := by unfold Rd.sign Rd.ws; rw [he]; simp
    simp only [run, hs, Option.some.injEq, Prod.mk.injEq] at h
    exact ⟨h.1.symm, h.2.symm⟩
theorem end_ll {f n : Nat} {p0 : Pt} {r : Rd} {p : Pt} {r' : Rd} (h : run f (.ll n p0) r = some (p, r')) (he : r.next = r.l.length) : p = p0 ∧ r' = r := by
  cases f with
  | zero => cases h
  | succ f =>
    have hs : r.sign n = none := by unfold Rd.sign Rd.ws; rw [he]; simp
    simp only [run, hs, Option.some.injEq, Prod.mk.injEq] at h
    exact ⟨h.1.symm, h.2.symm⟩
theorem end_args {f : Nat} {s : Bytes} {ps : List Pt} {r : Rd} {p : Pt} {r' : Rd} (h : run f (.args s ps) r = some (p, r')) (hc : r'.code = 0) : r.next < r.l.length := by
  cases f with
  | zero => cases h
  | succ f =>
    simp only [run] at h
    split at h
    · rename_i hb; exact isB_lt hb
    · simp only [Option.some.injEq, Prod.mk.injEq] at h
      obtain ⟨_, rfl⟩ := h
      exact isB_lt (need_ok hc).1

theorem run_sim {pre m x l : List Tok} {d : Nat} (hl : Like l m) : ∀ (f g : Nat) (t : Task) (r q : Rd) (p p' : Pt) (r' q' : Rd),
    run f t r = some (p, r') → run g t q = some (p', q') → r'.code = 0 → t.pre r → t.tree r → Sim pre m x l d r q → Same pre m x l d p p' r' q' := by
  intro f
  induction f with
  | zero => intro g t r q p p' r' q' h; cases h
  | succ f ih =>
    intro g t r q p p' r' q' h k hc hpre htree hS
    cases g with
    | zero => cases k
    | succ g =>
    cases t with
    | lev n =>
      simp only [run] at h k
      simp only [Task.pre] at hpre
      split at h
      · rename_i h9
        rw [if_pos h9] at k
        exact ih _ .opnd _ _ _ _ _ _ h k hc trivial trivial hS
      · rename_i h9
        rw [if_neg h9] at k
        obtain ⟨⟨a, r1⟩, h1, h2⟩ := bind_some h
        obtain ⟨⟨b, q1⟩, k1, k2⟩ := bind_some k
        simp only at h2 k2
        have hn : n + 1 ≤ 9 := by omega
        have hc1 : r1.code = 0 := by split at h2 <;> exact run_ok0 h2 hc
        have ha := run_tree _ _ _ _ _ h1 hc1 (by simp only [Task.tree]; omega)
        have hao := (run_step _ _ _ _ _ h1 (fine0 hS.rc) (by simp only [Task.pre]; omega)).2.1
        rcases ih _ _ _ _ _ _ _ _ h1 k1 hc1 (by simp only [Task.pre]; omega) (by simp only [Task.tree]; omega) hS with ⟨hd, h6⟩ | ⟨rfl, hS1⟩ | ⟨he, hrl, hns, hle⟩
        · left; refine ⟨hd, ?_⟩
          split at k2 <;> (have := (run_code _ _ _ _ _ k2 (by omega)).1; omega)
        · split at h2
          · rename_i hn2
            rw [if_pos hn2] at k2
            exact ih _ _ _ _ _ _ _ _ h2 k2 hc ⟨by omega, by simp [hao], by simp⟩ ⟨by omega, by simpa using ha, by simp, rfl⟩ hS1
          · rename_i hn2
            rw [if_neg hn2] at k2
            exact ih _ _ _ _ _ _ _ _ h2 k2 hc ⟨by omega, hao⟩ ⟨by omega, ha⟩ hS1
        · right; right
          split at h2
          · rename_i hn2
            rw [if_pos hn2] at k2
            obtain ⟨rfl, rfl⟩ := end_rl h2 (by rw [hrl]; exact he)
            refine ⟨he, hrl, hns, fun hq => ?_⟩
            have := run_low _ _ _ _ _ k2 ⟨rfl, by simp⟩
            have h0 := hle (run_ok0 k2 hq)
            simp [Task.low] at this
            omega
          · rename_i hn2
            rw [if_neg hn2] at k2
            obtain ⟨rfl, rfl⟩ := end_ll h2 (by rw [hrl]; exact he)
            refine ⟨he, hrl, hns, fun hq => ?_⟩
            have := run_low _ _ _ _ _ k2 trivial
            have h0 := hle (run_ok0 k2 hq)
            simp [Task.low] at this
            omega
    | rl n ps ops =>
      obtain ⟨hn, hps, hops⟩ := hpre
      obtain ⟨_, hps2, hops2, hlen⟩ := htree
      by_cases hlt : r.next < l.length
      · simp only [run] at h k
        rw [hS.sign hl hlt n] at k
        split at h
        · rename_i hs
          rw [hs] at k
          simp only [Option.some.injEq, Prod.mk.injEq] at h k
          obtain ⟨rfl, rfl⟩ := h
          obtain ⟨rfl, rfl⟩ := k
          exact .inr (.inl ⟨rfl, hS⟩)
        · rename_i s hs
          rw [hs] at k
          obtain ⟨⟨a, r1⟩, h1, h2⟩ := bind_some h
          obtain ⟨⟨b, q1⟩, k1, k2⟩ := bind_some k
          simp only at h2 k2
          have hc1 := run_ok0 h2 hc
          have ha := run_tree _ _ _ _ _ h1 hc1 (by simp only [Task.tree]; omega)
          have hao := (run_step _ _ _ _ _ h1 (fine0 hS.rc) (by simp only [Task.pre]; omega)).2.1
          rcases ih _ _ _ _ _ _ _ _ h1 k1 hc1 (by simp only [Task.pre]; omega) (by simp only [Task.tree]; omega) (hS.adv hlt) with ⟨hd, h6⟩ | ⟨rfl, hS1⟩ | ⟨he, hrl, hns, hle⟩
          · left; exact ⟨hd, by have := (run_code _ _ _ _ _ k2 (by omega)).1; omega⟩
          · exact ih _ _ _ _ _ _ _ _ h2 k2 hc
              ⟨hn, by intro y hy; simp at hy; rcases hy with hy | hy; exact hps y hy; subst hy; exact hao, by intro y hy; simp at hy; rcases hy with hy | hy; exact hops y hy; subst hy; exact (sign_ops hs).2⟩
              ⟨hn, by intro y hy; simp at hy; rcases hy with hy | hy; exact hps2 y hy; subst hy; exact ha, by intro y hy; simp at hy; rcases hy with hy | hy; exact hops2 y hy; subst hy; exact sign_bin hn hs, by simp [hlen]⟩ hS1
          · right; right
            obtain ⟨rfl, rfl⟩ := end_rl h2 (by rw [hrl]; exact he)
            refine ⟨he, hrl, hns, fun hq => ?_⟩
            have hso : ∀ y ∈ ops ++ [s], y.1 ≤ 25 := by intro y hy; simp at hy; rcases hy with hy | hy; exact hops y hy; subst hy; exact (sign_ops hs).2
            have h3 := run_low _ _ _ _ _ k2 ⟨by simp [hlen], hso⟩
            have h4 := foldR_nodes (ps ++ [a]) (ops ++ [s]) hso
            have h0 := hle (run_ok0 k2 hq)
            simp only [Task.low, List.map_append, List.map_cons, List.map_nil, List.sum_append, List.sum_cons, List.sum_nil, List.length_append, List.length_cons, List.length_nil] at h3 h4
            omega
      · have he : r.next = l.length := by have := hS.le; omega
        obtain ⟨rfl, rfl⟩ := end_rl h (by rw [hS.rl]; exact he)
        by_cases hx : Stop x
        · simp only [run] at k
          rw [stop_sign hS hl he hx n hn] at k
          simp only [Option.some.injEq, Prod.mk.injEq] at k
          obtain ⟨rfl, rfl⟩ := k
          exact .inr (.inl ⟨rfl, hS⟩)
        · right; right
          refine ⟨he, hS.rl, hx, fun hq => ?_⟩
          have h3 := run_low _ _ _ _ _ k ⟨hlen, hops⟩
          have h4 := foldR_nodes ps ops hops
          simp only [Task.low] at h3
          omega
    | ll n p0 =>
      obtain ⟨hn, hp0⟩ := hpre
      obtain ⟨_, hp2⟩ := htree
      by_cases hlt : r.next < l.length
      · simp only [run] at h k
        rw [hS.sign hl hlt n] at k
        split at h
        · rename_i hs
          rw [hs] at k
          simp only [Option.some.injEq, Prod.mk.injEq] at h k
          obtain ⟨rfl, rfl⟩ := h
          obtain ⟨rfl, rfl⟩ := k
          exact .inr (.inl ⟨rfl, hS⟩)
        · rename_i s hs
          rw [hs] at k
          obtain ⟨⟨a, r1⟩, h1, h2⟩ := bind_some h
          obtain ⟨⟨b, q1⟩, k1, k2⟩ := bind_some k
          simp only at h2 k2
          have hc1 : r1.code = 0 := by
            split at h2
            · simp only [Option.some.injEq, Prod.mk.injEq] at h2
              rw [h2.2]; exact hc
            · exact run_ok0 h2 hc
          have ha := run_tree _ _ _ _ _ h1 hc1 (by simp only [Task.tree]; omega)
          have hao := (run_step _ _ _ _ _ h1 (fine0 hS.rc) (by simp only [Task.pre]; omega)).2.1
          have hja := sjoin_nodes s p0 a (sign_ops hs).2
          have hjb := sjoin_nodes s p0 b (sign_ops hs).2
          rcases ih _ _ _ _ _ _ _ _ h1 k1 hc1 (by simp only [Task.pre]; omega) (by simp only [Task.tree]; omega) (hS.adv hlt) with ⟨hd, h6⟩ | ⟨rfl, hS1⟩ | ⟨he, hrl, hns, hle⟩
          · left; refine ⟨hd, ?_⟩
            split at k2
            · simp only [Option.some.injEq, Prod.mk.injEq] at k2
              rw [← k2.2]; exact h6
            · have := (run_code _ _ _ _ _ k2 (by omega)).1; omega
          · split at h2
            · rename_i h6
              rw [if_pos h6] at k2
              simp only [Option.some.injEq, Prod.mk.injEq] at h2 k2
              obtain ⟨rfl, rfl⟩ := h2
              obtain ⟨rfl, rfl⟩ := k2
              exact .inr (.inl ⟨rfl, hS1⟩)
            · rename_i h6
              rw [if_neg h6] at k2
              exact ih _ _ _ _ _ _ _ _ h2 k2 hc ⟨hn, sjoin_ok _ _ _ hp0 hao⟩ ⟨hn, ok_sjoin _ _ _ (sign_bin hn hs) hp2 ha⟩ hS1
          · right; right
            split at h2
            · rename_i h6
              rw [if_pos h6] at k2
              simp only [Option.some.injEq, Prod.mk.injEq] at h2 k2
              obtain ⟨rfl, rfl⟩ := h2
              obtain ⟨rfl, rfl⟩ := k2
              exact ⟨he, hrl, hns, fun hq => by have := hle hq; omega⟩
            · rename_i h6
              rw [if_neg h6] at k2
              obtain ⟨rfl, rfl⟩ := end_ll h2 (by rw [hrl]; exact he)
              refine ⟨he, hrl, hns, fun hq => ?_⟩
              have h3 := run_low _ _ _ _ _ k2 trivial
              have h0 := hle (run_ok0 k2 hq)
              simp only [Task.low] at h3
              omega
      · have he : r.next = l.length := by have := hS.le; omega
        obtain ⟨rfl, rfl⟩ := end_ll h (by rw [hS.rl]; exact he)
        by_cases hx : Stop x
        · simp only [run] at k
          rw [stop_sign hS hl he hx n hn] at k
          simp only [Option.some.injEq, Prod.mk.injEq] at k
          obtain ⟨rfl, rfl⟩ := k
          exact .inr (.inl ⟨rfl, hS⟩)
        · right; right
          refine ⟨he, hS.rl, hx, fun hq => ?_⟩
          have h3 := run_low _ _ _ _ _ k trivial
          simpa [Task.low] using h3
    | opnd =>
      have hlt : r.next < l.length := by rw [← hS.rl]; exact run_lt h hc trivial trivial rfl
      simp only [run] at h k
      split at h
      · simp only [Option.some.injEq, Prod.mk.injEq] at h
        obtain ⟨_, rfl⟩ := h; exact absurd hc (fail_code 6 (by decide) r)
      · rename_i h200
        split at k
        · rename_i q200
          simp only [Option.some.injEq, Prod.mk.injEq] at k
          obtain ⟨_, rfl⟩ := k
          left
          have := hS.bg
          refine ⟨by omega, ?_⟩
          unfold Rd.fail; rw [if_pos hS.qc]
        · have hSo := hS.open_
          rw [hSo.sign hl hlt 9] at k
          split at h
          · rename_i hs
            rw [hs] at k
            obtain ⟨⟨a, r1⟩, h1, h2⟩ := map_some h
            obtain ⟨⟨b, q1⟩, k1, k2⟩ := map_some k
            simp only [Prod.mk.injEq] at h2 k2
            obtain ⟨rfl, rfl⟩ := h2
            obtain ⟨rfl, rfl⟩ := k2
            have hbg := (run_step _ .single _ _ _ h1 (fine0 hSo.rc) trivial).1.beg
            rcases ih _ .single _ _ _ _ _ _ h1 k1 hc trivial trivial hSo with ⟨hd, h6⟩ | ⟨rfl, hS1⟩ | ⟨he, hrl, hns, hle⟩
            · exact .inl ⟨hd, h6⟩
            · exact .inr (.inl ⟨rfl, hS1.shut (by rw [hbg]; simp [Rd.open_])⟩)
            · exact .inr (.inr ⟨he, hrl, hns, hle⟩)
          · rename_i s hs
            rw [hs] at k
            obtain ⟨⟨a, r1⟩, h1, h2⟩ := map_some h
            obtain ⟨⟨b, q1⟩, k1, k2⟩ := map_some k
            simp only [Prod.mk.injEq] at h2 k2
            obtain ⟨rfl, rfl⟩ := h2
            obtain ⟨rfl, rfl⟩ := k2
            have hso := sign_ops hs
            have hSa := hSo.adv hlt
            have hw : Sim pre m x l d (if s.1 = 25 then r.open_.adv.numR 1000 else r.open_.adv) (if s.1 = 25 then q.open_.adv.numR 1000 else q.open_.adv) ∧
                (if s.1 = 25 then (r.open_.adv.num 1000 : Int) else 0) = (if s.1 = 25 then (q.open_.adv.num 1000 : Int) else 0) := by
              split
              · rename_i h25
                rw [if_pos h25] at h1
                obtain ⟨hb, e1, e2⟩ := numR_ok (run_ok0 h1 hc)
                have hlt2 : r.open_.adv.next < l.length := by rw [← hSa.rl]; exact num_lt hb
                have hb2 : numB 1000 q.open_.adv.cur = true := by rw [hSa.numB hl hlt2]; exact hb
                refine ⟨?_, ?_⟩
                · rw [e1]; unfold Rd.numR; rw [if_pos hb2]; exact hSa.adv hlt2
                · rw [e2]; unfold Rd.num; rw [if_pos hb2, (hSa.cur hl hlt2).2.1]
              · exact ⟨hSa, rfl⟩
            have hbg := (run_step _ .opnd _ _ _ h1 (fine0 hw.1.rc) trivial).1.beg
            have hbg2 : (if s.1 = 25 then r.open_.adv.numR 1000 else r.open_.adv).begun = r.begun + 1 := by
              split
              · exact (numR_step 1000 _ (fine0 hSa.rc)).beg
              · rfl
            have hna := joined_nodes s.1 (if s.1 = 25 then (r.open_.adv.num 1000 : Int) else 0) [] [a]
            have hnb := joined_nodes s.1 (if s.1 = 25 then (q.open_.adv.num 1000 : Int) else 0) [] [b]
            rw [if_neg (show ¬ s.1 = 27 by omega)] at hna hnb
            simp only [List.map_cons, List.map_nil, List.sum_cons, List.sum_nil] at hna hnb
            rcases ih _ .opnd _ _ _ _ _ _ h1 k1 hc trivial trivial hw.1 with ⟨hd, h6⟩ | ⟨rfl, hS1⟩ | ⟨he, hrl, hns, hle⟩
            · exact .inl ⟨hd, h6⟩
            · exact .inr (.inl ⟨by rw [hw.2], hS1.shut (by rw [hbg, hbg2]; omega)⟩)
            · exact .inr (.inr ⟨he, hrl, hns, fun hq => by have := hle hq; omega⟩)
    | single =>
      have hlt : r.next < l.length := by rw [← hS.rl]; exact run_lt h hc trivial trivial rfl
      simp only [run] at h k
      simp only [hS.isB hl hlt, (hS.cur hl hlt).1, (hS.cur hl hlt).2.1] at k
      split at h
      · rename_i hb
        rw [if_pos hb] at k
        obtain ⟨⟨a, r1⟩, h1, h2⟩ := map_some h
        obtain ⟨⟨b, q1⟩, k1, k2⟩ := map_some k
        simp only [Prod.mk.injEq] at h2 k2
        obtain ⟨rfl, rfl⟩ := h2
        obtain ⟨rfl, rfl⟩ := k2
        have hnd := need_ok hc
        have hc1 : r1.code = 0 := by rw [hnd.2] at hc; exact hc
        have hlt1 := isB_lt hnd.1
        rcases ih _ _ _ _ _ _ _ _ h1 k1 hc1 (by simp [Task.pre]) (by simp [Task.tree]) (hS.adv hlt) with ⟨hd, h6⟩ | ⟨rfl, hS1⟩ | ⟨he, hrl, hns, hle⟩
        · exact .inl ⟨hd, need_code6 _ h6⟩
        · rw [hS1.rl] at hlt1
          refine .inr (.inl ⟨rfl, ?_⟩)
          rw [hnd.2]; unfold Rd.need; rw [hS1.isB hl hlt1, if_pos hnd.1]; exact hS1.adv hlt1
        · rw [hrl] at hlt1; omega
      · rename_i hb
        rw [if_neg hb] at k
        split at h
        · rename_i hb
          rw [if_pos hb] at k
          obtain ⟨⟨a, r1⟩, h1, h⟩ := bind_some h
          obtain ⟨⟨b, r2⟩, h2, h⟩ := bind_some h
          obtain ⟨⟨c, r3⟩, h3, h⟩ := map_some h
          simp only [Prod.mk.injEq] at h
          obtain ⟨rfl, rfl⟩ := h
          obtain ⟨⟨a', q1⟩, k1, k⟩ := bind_some k
          obtain ⟨⟨b', q2⟩, k2, k⟩ := bind_some k
          obtain ⟨⟨c', q3⟩, k3, k⟩ := map_some k
          simp only at h2 h3 k2 k3
          simp only [Prod.mk.injEq] at k
          obtain ⟨rfl, rfl⟩ := k
          have c2 := run_ok0 h3 hc
          have n2 := need_ok c2
          have c2' := c2
          rw [n2.2] at c2'
          have c1 := run_ok0 h2 c2'
          have n1 := need_ok c1
          have c1' := c1
          rw [n1.2] at c1'
          have l1 := isB_lt n1.1
          have l2 := isB_lt n2.1
          rcases ih _ _ _ _ _ _ _ _ h1 k1 c1' (by simp [Task.pre]) (by simp [Task.tree]) (hS.adv hlt) with ⟨hd, h6⟩ | ⟨rfl, hS1⟩ | ⟨he, hrl, hns, hle⟩
          · have e1 := need_code6 [116, 104, 101, 110] h6
            have e2 := (run_code _ _ _ _ _ k2 (by omega)).1
            have e3 := need_code6 [101, 108, 115, 101] (e2.trans e1)
            have e4 := (run_code _ _ _ _ _ k3 (by omega)).1
            exact .inl ⟨hd, e4.trans e3⟩
          · rw [hS1.rl] at l1
            have hS1' : Sim pre m x l d (r1.need [116, 104, 101, 110]) (q1.need [116, 104, 101, 110]) := by
              rw [n1.2]; unfold Rd.need; rw [hS1.isB hl l1, if_pos n1.1]; exact hS1.adv l1
            rcases ih _ _ _ _ _ _ _ _ h2 k2 c2' (by simp [Task.pre]) (by simp [Task.tree]) hS1' with ⟨hd, h6⟩ | ⟨rfl, hS2⟩ | ⟨he, hrl, hns, hle⟩
            · have e3 := need_code6 [101, 108, 115, 101] h6
              have e4 := (run_code _ _ _ _ _ k3 (by omega)).1
              exact .inl ⟨hd, e4.trans e3⟩
            · rw [hS2.rl] at l2
              have hS2' : Sim pre m x l d (r2.need [101, 108, 115, 101]) (q2.need [101, 108, 115, 101]) := by
                rw [n2.2]; unfold Rd.need; rw [hS2.isB hl l2, if_pos n2.1]; exact hS2.adv l2
              rcases ih _ _ _ _ _ _ _ _ h3 k3 hc (by simp [Task.pre]) (by simp [Task.tree]) hS2' with ⟨hd, h6⟩ | ⟨rfl, hS3⟩ | ⟨he, hrl, hns, hle⟩
              · exact .inl ⟨hd, h6⟩
              · exact .inr (.inl ⟨rfl, hS3⟩)
              · refine .inr (.inr ⟨he, hrl, hns, fun hq => ?_⟩)
                have := hle hq
                rw [joined_nodes, joined_nodes]; simp; omega
            · rw [hrl] at l2; omega
          · rw [hrl] at l1; omega
        · rename_i hb
          rw [if_neg hb] at k
          split at h
          · rename_i hb
            rw [if_pos hb] at k
            simp only [Option.some.injEq, Prod.mk.injEq] at h k
            obtain ⟨rfl, rfl⟩ := h
            obtain ⟨rfl, rfl⟩ := k
            exact .inr (.inl ⟨rfl, hS.adv hlt⟩)
          · rename_i hb
            rw [if_neg hb] at k
            split at h
            · rename_i hb
              rw [if_pos hb] at k
              simp only [Option.some.injEq, Prod.mk.injEq] at h k
              obtain ⟨rfl, rfl⟩ := h
              obtain ⟨rfl, rfl⟩ := k
              exact .inr (.inl ⟨rfl, hS.adv hlt⟩)
            · rename_i hb
              rw [if_neg hb] at k
              split at h
              · rename_i hb
                rw [if_pos hb] at k
                simp only [Option.some.injEq, Prod.mk.injEq] at h k
                obtain ⟨rfl, rfl⟩ := h
                obtain ⟨rfl, rfl⟩ := k
                obtain ⟨hn, e1, e2⟩ := numR_ok hc
                have hn2 : numB 2147483647 q.cur = true := by rw [hS.numB hl hlt]; exact hn
                refine .inr (.inl ⟨?_, ?_⟩)
                · rw [e2]; unfold Rd.num; rw [if_pos hn2, (hS.cur hl hlt).2.1]
                · rw [e1]; unfold Rd.numR; rw [if_pos hn2]; exact hS.adv hlt
              · rename_i hb
                rw [if_neg hb] at k
                split at h
                · rename_i hb
                  rw [if_pos hb] at k
                  exact ih _ (.named r.cur.text) _ _ _ _ _ _ h k hc (by show r.next < r.l.length; rw [hS.rl]; exact hlt) hb.2 hS
                · simp only [Option.some.injEq, Prod.mk.injEq] at h
                  obtain ⟨_, rfl⟩ := h; exact absurd hc (fail_code 5 (by decide) r)
    | named s =>
      have hlt : r.next < l.length := by rw [← hS.rl]; exact hpre
      have hlow := run_low _ _ _ _ _ k trivial
      simp only [run] at h k
      have hSa := hS.adv hlt
      by_cases hlt2 : r.adv.next < l.length
      · rw [hSa.isB hl hlt2] at k
        split at h
        · rename_i hb
          rw [if_pos hb] at k
          have hSb := hSa.adv hlt2
          split at h
          · rename_i hb2
            have hlt3 := isB_lt hb2
            rw [hSb.rl] at hlt3
            rw [hSb.isB hl hlt3, if_pos hb2] at k
            simp only [Option.some.injEq, Prod.mk.injEq] at h k
            obtain ⟨rfl, rfl⟩ := h
            obtain ⟨rfl, rfl⟩ := k
            exact .inr (.inl ⟨rfl, hSb.adv hlt3⟩)
          · rename_i hb2
            obtain ⟨⟨a, r1⟩, h1, h2⟩ := bind_some h
            have hc1 := run_ok0 h2 hc
            have hlt3 := run_lt h1 hc1 (by simp [Task.pre]) (by simp [Task.tree]) rfl
            rw [hSb.rl] at hlt3
            rw [hSb.isB hl hlt3, if_neg hb2] at k
            obtain ⟨⟨b, q1⟩, k1, k2⟩ := bind_some k
            simp only at h2 k2
            have ha := run_tree _ _ _ _ _ h1 hc1 (by simp [Task.tree])
            have hao := (run_step _ _ _ _ _ h1 (fine0 hSb.rc) (by simp [Task.pre])).2.1
            rcases ih _ _ _ _ _ _ _ _ h1 k1 hc1 (by simp [Task.pre]) (by simp [Task.tree]) hSb with ⟨hd, h6⟩ | ⟨rfl, hS1⟩ | ⟨he, hrl, hns, hle⟩
            · left; exact ⟨hd, by have := (run_code _ _ _ _ _ k2 (by omega)).1; omega⟩
            · exact ih _ _ _ _ _ _ _ _ h2 k2 hc (by simp [Task.pre, hao]) ⟨htree, by simpa using ha⟩ hS1
            · have := end_args h2 hc
              rw [hrl] at this; omega
        · rename_i hb
          rw [if_neg hb] at k
          simp only [Option.some.injEq, Prod.mk.injEq] at h k
          obtain ⟨rfl, rfl⟩ := h
          obtain ⟨rfl, rfl⟩ := k
          exact .inr (.inl ⟨rfl, hSa⟩)
      · have he : r.adv.next = l.length := by have := hSa.le; omega
        rw [end_isB hSa he] at h
        simp only [Bool.false_eq_true, if_false, Option.some.injEq, Prod.mk.injEq] at h
        obtain ⟨rfl, rfl⟩ := h
        by_cases hx : Stop x
        · rw [stop_lp hSa hl he hx] at k
          simp only [Bool.false_eq_true, if_false, Option.some.injEq, Prod.mk.injEq] at k
          obtain ⟨rfl, rfl⟩ := k
          exact .inr (.inl ⟨rfl, hSa⟩)
        · refine .inr (.inr ⟨he, hSa.rl, hx, fun _ => ?_⟩)
          rw [joined_nodes]; simpa [Task.low] using hlow
    | args s ps =>
      have hlt := end_args h hc
      rw [hS.rl] at hlt
      obtain ⟨hs, hps⟩ := htree
      simp only [run] at h k
      rw [hS.isB hl hlt] at k
      split at h
      · rename_i hb
        rw [if_pos hb] at k
        obtain ⟨⟨a, r1⟩, h1, h2⟩ := bind_some h
        obtain ⟨⟨b, q1⟩, k1, k2⟩ := bind_some k
        simp only at h2 k2
        have hc1 := run_ok0 h2 hc
        have ha := run_tree _ _ _ _ _ h1 hc1 (by simp [Task.tree])
        have hao := (run_step _ _ _ _ _ h1 (fine0 hS.rc) (by simp [Task.pre])).2.1
        rcases ih _ _ _ _ _ _ _ _ h1 k1 hc1 (by simp [Task.pre]) (by simp [Task.tree]) (hS.adv hlt) with ⟨hd, h6⟩ | ⟨rfl, hS1⟩ | ⟨he, hrl, hns, hle⟩
        · left; exact ⟨hd, by have := (run_code _ _ _ _ _ k2 (by omega)).1; omega⟩
        · exact ih _ _ _ _ _ _ _ _ h2 k2 hc (by intro y hy; simp at hy; rcases hy with hy | hy; exact hpre y hy; subst hy; exact hao) ⟨hs, by intro y hy; simp at hy; rcases hy with hy | hy; exact hps y hy; subst hy; exact ha⟩ hS1
        · have := end_args h2 hc
          rw [hrl] at this; omega
      · rename_i hb
        rw [if_neg hb] at k
        simp only [Option.some.injEq, Prod.mk.injEq] at h k
        obtain ⟨rfl, rfl⟩ := h
        obtain ⟨rfl, rfl⟩ := k
        have hnd := need_ok hc
        refine .inr (.inl ⟨rfl, ?_⟩)
        rw [hnd.2]; unfold Rd.need; rw [hS.isB hl hlt, if_pos hnd.1]; exact hS.adv hlt
end Go.Proofs.YtgohhnbdicdenaaGreatDoor.Ex

/- What reading tells of round signs, of what stands behind, of faults: plain facts. Conditions: none. -/
namespace Go.Proofs.YtgohhnbdicdenaaGreatDoor.Ex
open Go.Proofs.YtgohhnbdicdenaaGreatDoor.Tr
set_option linter.unusedVariables false
set_option linter.unusedSimpArgs false

/-- What a level's reading is of an operand's. -/
theorem lev_opnd : ∀ (k n : Nat), n + k = 9 → ∀ (g : Nat) (q : Rd) (p' : Pt) (q' : Rd), run g (.lev n) q = some (p', q') →
    ∃ f a b, run f .opnd q = some (a, b) ∧ ((∀ n, n ≤ 8 → b.sign n = none) → p' = a ∧ q' = b) ∧ (b.code ≠ 0 → q'.code = b.code) := by
  intro k
  induction k with
  | zero =>
    intro n hn g q p' q' h
    cases g with
    | zero => cases h
    | succ g =>
      simp only [run] at h
      rw [if_pos (by omega)] at h
      exact ⟨g, p', q', h, fun _ => ⟨rfl, rfl⟩, fun _ => rfl⟩
  | succ k ih =>
    intro n hn g q p' q' h
    cases g with
    | zero => cases h
    | succ g =>
      simp only [run] at h
      rw [if_neg (by omega)] at h
      obtain ⟨⟨a, r1⟩, h1, h2⟩ := bind_some h
      obtain ⟨f, a', b, e1, e2, e3⟩ := ih (n + 1) (by omega) g q a r1 h1
      refine ⟨f, a', b, e1, fun hs => ?_, fun hc => ?_⟩
      · obtain ⟨rfl, rfl⟩ := e2 hs
        simp only at h2
        cases g with
        | zero => split at h2 <;> cases h2
        | succ g =>
          split at h2
          · simp only [run, hs n (by omega), Option.some.injEq, Prod.mk.injEq] at h2
            exact ⟨by rw [← h2.1]; rfl, h2.2.symm⟩
          · simp only [run, hs n (by omega), Option.some.injEq, Prod.mk.injEq] at h2
            exact ⟨h2.1.symm, h2.2.symm⟩
      · have h3 := e3 hc
        simp only at h2
        split at h2
        · have := (run_code _ _ _ _ _ h2 (by omega)).1; omega
        · have := (run_code _ _ _ _ _ h2 (by omega)).1; omega

/-- An operand in round signs. -/
theorem opnd_paren {f : Nat} {q : Rd} {a : Pt} {b : Rd} (h : run f .opnd q = some (a, b)) (hb : q.begun ≠ 200) (hp : q.open_.isB lp = true) :
    ∃ f' r1, run f' (.lev 1) q.open_.adv = some (a, r1) ∧ b = (r1.need rp).shut := by
  cases f with
  | zero => cases h
  | succ f =>
    have hs : q.open_.sign 9 = none := by
      unfold Rd.sign
      unfold Rd.isB at hp
      simp only [Bool.and_eq_true, beq_iff_eq] at hp
      rw [if_pos hp.1, hp.2]
      decide
    simp only [run, if_neg hb, hs] at h
    obtain ⟨⟨x, r2⟩, h1, h2⟩ := map_some h
    simp only [Prod.mk.injEq] at h2
    obtain ⟨rfl, rfl⟩ := h2
    cases f with
    | zero => cases h1
    | succ f =>
      simp only [run, if_pos hp] at h1
      obtain ⟨⟨y, r3⟩, h3, h4⟩ := map_some h1
      simp only [Prod.mk.injEq] at h4
      obtain ⟨rfl, rfl⟩ := h4
      exact ⟨f, r3, h3, rfl⟩

theorem shift_like (l : List Tok) (k : Nat) : Like l (l.map (Lx.Tok.shift k)) :=
  ⟨by simp, fun i t h => ⟨Lx.Tok.shift k t, by simp [h], rfl, rfl⟩⟩
theorem Like.self (l : List Tok) : Like l l := ⟨rfl, fun i t h => ⟨t, h, rfl, rfl⟩⟩

/-- A source's tokens, in round signs. -/
theorem lex_round {s : Bytes} {l : List Tok} (hs : s.length ≤ 1500) (h : Lx.lexM s = .ok l) :
    Lx.lexM (40 :: (s ++ [10, 41])) = .ok (⟨4, [40], 0⟩ :: (l.map (Lx.Tok.shift 1) ++ [⟨4, [41], s.length + 2⟩])) := by
  have e : 40 :: (s ++ [10, 41]) = (40 :: s) ++ 10 :: [41] := rfl
  have h1 : Lx.one (40 :: s) = ([40], 4, 0) := by
    have e1 : Lx.signOf (40 :: s) = [40] := by
      unfold Lx.signOf
      have : Lx.signs2.contains ((40 :: s).take 2) = false := by
        cases s with
        | nil => decide
        | cons c r => simp [Lx.signs2]
      rw [this]; rfl
    unfold Lx.one
    rw [show Lx.digitB ((40 :: s).headD 0) = false from rfl, show Lx.ofNameB ((40 :: s).headD 0) = false from rfl, e1]
    rfl
  have h2 : Lx.lexS (40 :: s) 0 = Lx.Res.cons ⟨4, [40], 0⟩ (Lx.lexS s 1) := by
    rw [Lx.lexS_cons 40 s 0 (by decide) (by intro h; exact absurd h.1 (by decide)) (by rw [h1]), h1]; rfl
  have h3 : Lx.lexS s 1 = .ok (l.map (Lx.Tok.shift 1)) := by
    have := Lx.lexS_shift s 0 1
    rw [Nat.zero_add] at this
    rw [this, ← Lx.lexM_S s (by omega), h]; rfl
  rw [e, Lx.lexM_S _ (by simp; omega), Lx.lex_line _ (40 :: s) [41] 0 (Nat.le_refl _), h2, h3]
  have h4 : Lx.lexS [41] (0 + (40 :: s).length + 1) = .ok [⟨4, [41], s.length + 2⟩] := by
    have := Lx.lexS_shift [41] 0 (0 + (40 :: s).length + 1)
    rw [Nat.zero_add] at this
    rw [this, show Lx.lexS [41] 0 = .ok [⟨4, [41], 0⟩] from by decide +kernel]
    simp [Lx.Res.shift, Lx.Tok.shift]
  rw [h4]
  rfl

theorem read_bad {s : Bytes} (h : (readM s).2.1 ≠ 0) : (readM s).1 = [] := by
  unfold readM at h ⊢
  split
  · rfl
  · rename_i l hl
    rw [hl] at h
    simp only at h
    split
    · rfl
    · rename_i h2
      rw [if_neg h2] at h
      simp only at h ⊢
      unfold parseM at h ⊢
      split
      · rename_i x hx
        rw [hx] at h
        obtain ⟨p, r⟩ := x
        simp only [parseOf] at h ⊢
        split
        · rfl
        · rename_i h3
          split
          · rfl
          · rename_i h4
            split
            · rfl
            · rename_i h5
              rw [if_neg h3, if_neg h4, if_neg h5] at h
              exact absurd rfl h
      · rfl

def rd0 (l : List Tok) : Rd := ⟨l, 0, 0, 0, 0⟩
theorem rd_total (l : List Tok) : ∃ p r, run (fuelOf l 0) (.lev 1) (rd0 l) = some (p, r) := by
  obtain ⟨⟨p, r⟩, h⟩ := run_total (fuelOf l 0) (.lev 1) (rd0 l) (fun hc => absurd rfl hc) (by simp [Task.pre]) (by unfold fuelOf Rd.rem Task.wt rd0; simp; omega)
  exact ⟨p, r, h⟩
/-- What is parsed without a fault. -/
structure Parsed (l : List Tok) (p : Pt) (r : Rd) : Prop where
  eq : run (fuelOf l 0) (.lev 1) (rd0 l) = some (p, r)
  code : r.code = 0
  nodes : p.nodes ≤ 5000
  deep : p.deep ≤ 40
theorem Parsed.val {l : List Tok} {p : Pt} {r : Rd} (h : Parsed l p r) : parseM l 0 = (p.e, r.next, 0, 0) := by
  have e := h.eq
  unfold rd0 at e
  unfold parseM
  rw [e]
  simp only [parseOf]
  rw [if_neg (by simp [h.code]), if_neg (by have := h.nodes; omega), if_neg (by have := h.deep; omega)]
theorem parsed_of {l : List Tok} (h : (parseM l 0).2.2.1 = 0) : ∃ p r, Parsed l p r := by
  obtain ⟨p, r, e⟩ := rd_total l
  have e' := e
  unfold rd0 at e'
  unfold parseM at h
  rw [e'] at h
  simp only [parseOf] at h
  refine ⟨p, r, ?_⟩
  by_cases h1 : r.code ≠ 0
  · rw [if_pos h1] at h; exact absurd h h1
  · rw [if_neg h1] at h
    by_cases h2 : 5000 < p.nodes
    · rw [if_pos h2] at h; cases h
    · rw [if_neg h2] at h
      by_cases h3 : 40 < p.deep
      · rw [if_pos h3] at h; cases h
      · exact ⟨e, by omega, by omega, by omega⟩
theorem Parsed.step {l : List Tok} {p : Pt} {r : Rd} (h : Parsed l p r) : Step (rd0 l) r := (run_step _ _ _ _ _ h.eq (fun hc => absurd rfl hc) (by simp [Task.pre])).1
theorem Parsed.next_le {l : List Tok} {p : Pt} {r : Rd} (h : Parsed l p r) : r.next ≤ l.length := by
  have := h.step.top; simp [rd0] at this; exact this
theorem Parsed.pos {l : List Tok} {p : Pt} {r : Rd} (h : Parsed l p r) : 0 < l.length := by
  have := run_lt h.eq h.code (by simp [Task.pre]) (by simp [Task.tree]) rfl
  exact this
theorem Parsed.ok {l : List Tok} {p : Pt} {r : Rd} (h : Parsed l p r) : ∃ t, okT t ∧ p = ptOf t ∧ p.e = t.flat 0 ∧ t.size ≤ 5000 ∧ t.depth ≤ 40 := by
  obtain ⟨t, ht, rfl⟩ := run_tree _ _ _ _ _ h.eq h.code (by simp [Task.tree])
  have h1 := h.nodes
  have h2 := h.deep
  simp only [ptOf] at h1 h2
  exact ⟨t, ht, rfl, by simp only [ptOf]; rw [if_pos ⟨h1, h2⟩], h1, h2⟩
theorem Parsed.len {l : List Tok} {p : Pt} {r : Rd} (h : Parsed l p r) : p.e.length = p.nodes := by
  obtain ⟨t, ht, rfl, he, _⟩ := h.ok
  rw [he, T.flat_len]; rfl
theorem Parsed.may {l : List Tok} {p : Pt} {r : Rd} (h : Parsed l p r) : May p.e := by
  obtain ⟨t, ht, rfl, he, h1, h2⟩ := h.ok
  rw [he]; exact may_flat t ht.1 ht.2 h1 h2
/-- What is read without a fault. -/
theorem read_ok {s : Bytes} (h : (readM s).2.1 = 0) : ∃ l p r, Lx.lexM s = .ok l ∧ Parsed l p r ∧ r.next = l.length ∧ readM s = (p.e, 0, 0) := by
  unfold readM at h
  cases hl : Lx.lexM s with
  | bad c a =>
    rw [hl] at h
    simp only at h
    exfalso
    by_cases hs : 100000 < s.length
    · unfold Lx.lexM at hl; rw [if_pos hs] at hl; cases hl; cases h
    · exact (Lx.lexM_code _ (by omega) c a hl).1 h
  | ok l =>
    rw [hl] at h
    simp only at h
    by_cases hc : (parseM l 0).2.2.1 = 0 ∧ (parseM l 0).2.1 < l.length
    · rw [if_pos hc] at h; cases h
    · rw [if_neg hc] at h
      simp only at h
      obtain ⟨p, r, hp⟩ := parsed_of h
      have hv := hp.val
      have hn := hp.next_le
      have he : r.next = l.length := by
        rw [hv] at hc
        have : ¬ r.next < l.length := fun hlt => hc ⟨rfl, hlt⟩
        omega
      refine ⟨l, p, r, rfl, hp, he, ?_⟩
      unfold readM
      rw [hl]
      simp only
      rw [if_neg hc, hv]
def stopB (T : Bytes) : Bool := (T != lp) && [0, 1, 2, 3, 4, 5, 6, 7, 8].all fun n => (signsM n).lookup T == none
theorem stop_of {T : Bytes} (h : stopB T = true) (k : Int) (a : Nat) : Stop [⟨k, T, a⟩] := by
  intro t ht _
  simp at ht; subst ht
  simp only [stopB, Bool.and_eq_true, bne_iff_ne, ne_eq, List.all_eq_true, beq_iff_eq] at h
  exact ⟨h.1, fun n hn => h.2 n (by simp; omega)⟩
theorem stop_rp (a : Nat) : Stop [⟨4, [41], a⟩] := stop_of (by decide) _ _

/-- Round signs around what is read. -/
theorem round_law {s : Bytes} (hs : s.length ≤ 1500) (h : (readM s).2.1 = 0) :
    May (readM s).1 ∧ ((readM (40 :: (s ++ [10, 41]))).2.1 = 6 ∨ ((readM (40 :: (s ++ [10, 41]))).2.1 = 0 ∧ (readM (40 :: (s ++ [10, 41]))).1 = (readM s).1)) := by
  obtain ⟨l, p, r, hl, hp, hn, hr⟩ := read_ok h
  rw [hr]
  refine ⟨hp.may, ?_⟩
  have hL := lex_round hs hl
  obtain ⟨L, hLe⟩ : ∃ L, (⟨4, [40], 0⟩ :: (l.map (Lx.Tok.shift 1) ++ [⟨4, [41], s.length + 2⟩]) : List Tok) = L := ⟨_, rfl⟩
  rw [hLe] at hL
  obtain ⟨p', q', e⟩ := rd_total L
  obtain ⟨f, a, b, e1, e2, e3⟩ := lev_opnd 8 1 rfl _ _ _ _ e
  have h0 : (rd0 L).open_.isB lp = true := by
    subst hLe
    simp [Rd.isB, Rd.ws, Rd.cur, Rd.open_, rd0, lp]
  obtain ⟨f', r1, e4, rfl⟩ := opnd_paren e1 (by simp [rd0]) h0
  have hsim : Sim [⟨4, [40], 0⟩] (l.map (Lx.Tok.shift 1)) [⟨4, [41], s.length + 2⟩] l 1 (rd0 l) (rd0 L).open_.adv :=
    ⟨rfl, by rw [← hLe]; rfl, rfl, rfl, rfl, Nat.zero_le _, rfl⟩
  rcases run_sim (shift_like l 1) _ _ _ _ _ _ _ _ _ hp.eq e4 hp.code (by simp [Task.pre]) (by simp [Task.tree]) hsim with ⟨_, h6⟩ | ⟨rfl, hS⟩ | ⟨_, _, hns, _⟩
  · left
    have hc : (r1.need rp).shut.code = 6 := need_code6 rp h6
    have hq := e3 (by omega)
    rw [hc] at hq
    unfold rd0 at e
    unfold readM
    rw [hL]
    have : (parseM L 0).2.2.1 = 6 := by
      unfold parseM; rw [e]; simp only [parseOf]; rw [if_pos (by omega)]; exact hq
    simp only
    rw [if_neg (by omega)]
    exact this
  · right
    have hlen : L.length = l.length + 2 := by rw [← hLe]; simp
    have hnx : r1.next = 1 + l.length := by have := hS.nx; rw [hn] at this; exact this
    have hcur : r1.cur = ⟨4, [41], s.length + 2⟩ := by
      rw [end_cur hS (shift_like l 1) hn]; rfl
    have hB : r1.isB rp = true := by
      unfold Rd.isB Rd.ws
      rw [hcur, hS.ql]
      simp [hnx, rp]; omega
    have hneed : r1.need rp = r1.adv := by unfold Rd.need; rw [if_pos hB]
    have hend : (r1.need rp).shut.next = (r1.need rp).shut.l.length := by
      rw [hneed]
      show r1.next + 1 = r1.l.length
      rw [hnx, hS.ql]; simp; omega
    obtain ⟨rfl, rfl⟩ := e2 (fun n _ => by unfold Rd.sign Rd.ws; rw [hend]; simp)
    have hP : Parsed L p' (r1.need rp).shut := ⟨e, by rw [hneed]; exact hS.qc, hp.nodes, hp.deep⟩
    have hv := hP.val
    have hnl : (r1.need rp).shut.next = L.length := by rw [hneed]; show r1.next + 1 = _; omega
    unfold readM
    rw [hL]
    simp only
    rw [hv, if_neg (by simp only; omega)]
    exact ⟨rfl, rfl⟩
  · exact absurd (stop_rp _) hns

/-- What stands behind what is read. -/
theorem behind_law {s : Bytes} {l : List Tok} (hl : Lx.lexM s = .ok l) (h : (readM s).2.1 = 0) (t : Tok) (ht : Stop [t]) :
    parseM (l ++ [t]) 0 = ((readM s).1, l.length, 0, 0) := by
  obtain ⟨l', p, r, hl', hp, hn, hr⟩ := read_ok h
  obtain rfl : l = l' := by rw [hl] at hl'; cases hl'; rfl
  obtain ⟨p', q', e⟩ := rd_total (l ++ [t])
  have hsim : Sim [] l [t] l 0 (rd0 l) (rd0 (l ++ [t])) := ⟨rfl, rfl, rfl, rfl, rfl, Nat.zero_le _, rfl⟩
  rcases run_sim (Like.self l) _ _ _ _ _ _ _ _ _ hp.eq e hp.code (by simp [Task.pre]) (by simp [Task.tree]) hsim with ⟨h0, _⟩ | ⟨rfl, hS⟩ | ⟨_, _, hns, _⟩
  · omega
  · have hP : Parsed (l ++ [t]) p' q' := ⟨e, hS.qc, hp.nodes, hp.deep⟩
    rw [hP.val, hr]
    have := hS.nx
    rw [hn] at this
    simp at this
    rw [this]
  · exact absurd ht hns

/-- Without its last token an expression is none, or one that is no longer. -/
theorem less_law {s : Bytes} (h : (readM s).2.1 = 0) : ∃ l, Lx.lexM s = .ok l ∧ 0 < l.length ∧
    ((parseM (l.take (l.length - 1)) 0).2.2.1 = 0 → (parseM (l.take (l.length - 1)) 0).2.1 < l.length ∧ (parseM (l.take (l.length - 1)) 0).1.length ≤ (readM s).1.length) := by
  obtain ⟨l, p, r, hl, hp, hn, hr⟩ := read_ok h
  have hpos := hp.pos
  refine ⟨l, hl, hpos, fun hc => ?_⟩
  obtain ⟨p1, r1, hq⟩ := parsed_of hc
  rw [hq.val, hr]
  have hnl := hq.next_le
  rw [List.length_take] at hnl
  refine ⟨by simp only; omega, ?_⟩
  show p1.e.length ≤ p.e.length
  have hsp : l = l.take (l.length - 1) ++ l.drop (l.length - 1) := (List.take_append_drop _ l).symm
  have hsim : Sim [] (l.take (l.length - 1)) (l.drop (l.length - 1)) (l.take (l.length - 1)) 0 (rd0 (l.take (l.length - 1))) (rd0 l) := ⟨rfl, hsp, rfl, rfl, rfl, Nat.zero_le _, rfl⟩
  rw [hq.len, hp.len]
  rcases run_sim (Like.self _) _ _ _ _ _ _ _ _ _ hq.eq hp.eq hq.code (by simp [Task.pre]) (by simp [Task.tree]) hsim with ⟨h0, _⟩ | ⟨rfl, hS⟩ | ⟨_, _, hns, hle⟩
  · omega
  · exact Nat.le_refl _
  · exact hle hp.code
end Go.Proofs.YtgohhnbdicdenaaGreatDoor.Ex

/- What layer show makes of expressions, as plain functions: levels, texts, tokens. What reading makes of tokens that are seen. Conditions: none. -/
namespace Go.Proofs.YtgohhnbdicdenaaGreatDoor.Sh
open Go.Proofs.YtgohhnbdicdenaaGreatDoor.Tr Go.Proofs.YtgohhnbdicdenaaGreatDoor.Ex
set_option linter.unusedVariables false
set_option linter.unusedSimpArgs false

/-- The operators' texts and levels, by their numbers. -/
def opTexts : List Bytes := [[], [], [], [], [110, 111, 116], [45], [97, 110, 100], [111, 114], [120, 111, 114], [61, 62], [61], [60, 62], [60], [60, 61], [43], [45], [42], [100, 105, 118], [109, 111, 100], [45, 62], [115, 105, 110, 99, 101], [112, 114, 101], [111, 110, 99, 101], [104, 105, 115, 116], [112, 114, 101, 118], [119, 105, 116, 104, 105, 110], [105, 102]]
def levels : List Int := [-1, 10, 10, 10, 9, 9, 5, 4, 4, 2, 6, 6, 6, 6, 7, 7, 8, 8, 8, 1, 3, 9, 9, 9, 9, 9, 0, 10]
def opText (o : Int) : Bytes := if o < 0 then [] else (opTexts[o.toNat]?).getD []
def levM (o : Int) : Int := if o < 0 then -1 else (levels[o.toNat]?).getD (-1)

/-- A number's digits. -/
def digs (n : Nat) : Bytes := if n < 10 then [(48 + n).toUInt8] else digs (n / 10) ++ [(48 + n % 10).toUInt8]
termination_by n

abbrev KT := Int × Bytes
/-- A word, or a sign. -/
def kd (s : Bytes) : KT := (if Lx.wordB s then 3 else 4, s)
def tLp : KT := (4, [40])
def tRp : KT := (4, [41])
def tCo : KT := (4, [44])
def tTrue : KT := (3, [116, 114, 117, 101])
def tFalse : KT := (3, [102, 97, 108, 115, 101])
def tIf : KT := (3, [105, 102])
def tThen : KT := (3, [116, 104, 101, 110])
def tElse : KT := (3, [101, 108, 115, 101])
def numT (n : Int) : KT := (2, digs n.toNat)
def nameT (s : Bytes) : KT := (1, s)
def sur (b : Bool) (l : List KT) : List KT := if b then tLp :: (l ++ [tRp]) else l
def leftOf (L : Int) : Int := if L ≤ 2 then L + 1 else if L = 6 then 7 else L
def rightOf (L : Int) : Int := if L ≤ 2 then L else L + 1
/-- The tokens of a tree; of an Args those of its operands, with commas between. -/
def toks : T → List KT
  | .l0 x => if x.op = 1 then [numT x.n] else if x.op = 2 then [if x.n = 1 then tTrue else tFalse] else if x.op = 27 then [nameT x.name, tLp, tRp] else [nameT x.name]
  | .l1 x p =>
    if x.op = 27 then nameT x.name :: tLp :: (toks p ++ [tRp]) else if x.op = 28 then toks p
    else kd (opText x.op) :: ((if x.op = 25 then [numT x.n] else []) ++ sur (decide (levM p.lab.op < 9)) (toks p))
  | .l2 x p q =>
    if x.op = 28 then toks p ++ tCo :: toks q
    else sur (decide (levM p.lab.op < leftOf (levM x.op))) (toks p) ++ kd (opText x.op) :: sur (decide (levM q.lab.op < rightOf (levM x.op))) (toks q)
  | .l3 x a b c => tIf :: (toks a ++ tThen :: (toks b ++ tElse :: toks c))
def partT (asked : Int) (t : T) : List KT := sur (decide (levM t.lab.op < asked)) (toks t)
/-- The names of its streams and calls are names. -/
def namedT : T → Bool
  | .l0 x => (x.name == []) || Lx.nameB x.name
  | .l1 x p => ((x.name == []) || Lx.nameB x.name) && namedT p
  | .l2 x p q => ((x.name == []) || Lx.nameB x.name) && namedT p && namedT q
  | .l3 x p q r => ((x.name == []) || Lx.nameB x.name) && namedT p && namedT q && namedT r

/-- What is seen of tokens. -/
def kt (t : Tok) : KT := (t.kind, t.text)
def see (r : Rd) : List KT := (r.l.drop r.next).map kt
def wsL : List KT → Bool
  | x :: _ => x.1 == 3 || x.1 == 4
  | [] => false
def isBL (s : Bytes) : List KT → Bool
  | x :: _ => (x.1 == 3 || x.1 == 4) && x.2 == s
  | [] => false
def signL (n : Nat) : List KT → Option (Int × Bool)
  | x :: _ => if x.1 == 3 || x.1 == 4 then (signsM n).lookup x.2 else none
  | [] => none
def fwd (r : Rd) (k : Nat) : Rd := ⟨r.l, r.next + k, r.begun, r.code, r.at_⟩
theorem fwd_zero (r : Rd) : fwd r 0 = r := rfl
theorem fwd_fwd (r : Rd) (a b : Nat) : fwd (fwd r a) b = fwd r (a + b) := by simp [fwd, Nat.add_assoc]
theorem fwd_adv (r : Rd) : r.adv = fwd r 1 := rfl
theorem fwd_open (r : Rd) (k : Nat) : (fwd r.open_ k).shut = fwd r k := by simp [fwd, Rd.open_, Rd.shut]
theorem see_fwd (r : Rd) (k : Nat) : see (fwd r k) = (see r).drop k := by
  unfold see fwd
  rw [← List.map_drop, List.drop_drop]
theorem see_open (r : Rd) : see r.open_ = see r := rfl
theorem see_app {r : Rd} {a b : List KT} (h : see r = a ++ b) {k : Nat} (hk : k = a.length) : see (fwd r k) = b := by
  rw [see_fwd, h, hk, List.drop_left]
theorem see_cons {r : Rd} {x : KT} {b : List KT} (h : see r = x :: b) : r.cur.kind = x.1 ∧ r.cur.text = x.2 ∧ r.next < r.l.length ∧ see r.adv = b := by
  have hlt : r.next < r.l.length := by
    rcases Nat.lt_or_ge r.next r.l.length with h1 | h1
    · exact h1
    · unfold see at h; rw [List.drop_eq_nil_of_le h1] at h; cases h
  have h2 := h
  unfold see at h2
  rw [List.drop_eq_getElem_cons hlt, List.map_cons] at h2
  simp only [List.cons.injEq] at h2
  have hc : r.cur = r.l[r.next] := by unfold Rd.cur; rw [List.getElem?_eq_getElem hlt]; rfl
  refine ⟨by rw [hc, ← h2.1]; rfl, by rw [hc, ← h2.1]; rfl, hlt, ?_⟩
  rw [fwd_adv, see_fwd, h]; rfl
theorem see_nil {r : Rd} (h : see r = []) : ¬ r.next < r.l.length := fun hlt => by
  unfold see at h
  rw [List.drop_eq_getElem_cons hlt] at h; cases h
theorem ws_see (r : Rd) : r.ws = wsL (see r) := by
  cases h : see r with
  | nil => have := see_nil h; unfold Rd.ws; simp [this, wsL]
  | cons x b => obtain ⟨h1, _, h3, _⟩ := see_cons h; unfold Rd.ws; rw [h1]; simp [h3, wsL]
theorem isB_see (s : Bytes) (r : Rd) : r.isB s = isBL s (see r) := by
  unfold Rd.isB
  rw [ws_see]
  cases h : see r with
  | nil => rfl
  | cons x b => obtain ⟨_, h2, _, _⟩ := see_cons h; rw [h2]; rfl
theorem sign_see (n : Nat) (r : Rd) : r.sign n = signL n (see r) := by
  unfold Rd.sign
  rw [ws_see]
  cases h : see r with
  | nil => rfl
  | cons x b => obtain ⟨_, h2, _, _⟩ := see_cons h; rw [h2]; rfl

/-- More fuel changes nothing. -/
theorem run_more : ∀ (f : Nat) (t : Task) (r : Rd) (x : Pt × Rd), run f t r = some x → run (f + 1) t r = some x := by
  intro f
  induction f with
  | zero => intro t r x h; cases h
  | succ f ih =>
    intro t r x h
    have IH : ∀ {t : Task} {r : Rd} {x : Pt × Rd}, run f t r = some x → run (f + 1) t r = some x := fun h => ih _ _ _ h
    cases t with
    | lev n =>
      rw [run] at h ⊢
      split at h
      · rename_i h9; rw [if_pos h9]; exact IH h
      · rename_i h9; rw [if_neg h9]
        obtain ⟨⟨a, b⟩, h1, h2⟩ := bind_some h
        rw [IH h1]
        simp only [Option.bind_some] at h2 ⊢
        by_cases h3 : n ≤ 2
        · rw [if_pos h3] at h2 ⊢; exact IH h2
        · rw [if_neg h3] at h2 ⊢; exact IH h2
    | rl n ps ops =>
      rw [run] at h ⊢
      cases hs : r.sign n with
      | none => rw [hs] at h; exact h
      | some s =>
        rw [hs] at h
        obtain ⟨a, h1, h2⟩ := bind_some h
        simp only
        rw [IH h1]
        exact IH h2
    | ll n p0 =>
      rw [run] at h ⊢
      cases hs : r.sign n with
      | none => rw [hs] at h; exact h
      | some s =>
        rw [hs] at h
        obtain ⟨⟨a, b⟩, h1, h2⟩ := bind_some h
        simp only
        rw [IH h1]
        simp only [Option.bind_some] at h2 ⊢
        by_cases h3 : n = 6
        · rw [if_pos h3] at h2 ⊢; exact h2
        · rw [if_neg h3] at h2 ⊢; exact IH h2
    | opnd =>
      rw [run] at h ⊢
      split at h
      · rename_i h3; rw [if_pos h3]; exact h
      · rename_i h3; rw [if_neg h3]
        cases hs : r.open_.sign 9 with
        | none => rw [hs] at h; obtain ⟨a, h1, h2⟩ := map_some h; simp only; rw [IH h1]; exact congrArg some h2
        | some s => rw [hs] at h; obtain ⟨a, h1, h2⟩ := map_some h; simp only; rw [IH h1]; exact congrArg some h2
    | single =>
      rw [run] at h ⊢
      split at h
      · rename_i h3; rw [if_pos h3]; obtain ⟨a, h1, h2⟩ := map_some h; rw [IH h1]; exact congrArg some h2
      · rename_i h3; rw [if_neg h3]
        split at h
        · rename_i h4; rw [if_pos h4]
          obtain ⟨a, h1, h⟩ := bind_some h
          obtain ⟨b, h2, h⟩ := bind_some h
          obtain ⟨c, h3, h⟩ := map_some h
          rw [IH h1]; simp only [Option.bind_some]; rw [IH h2]; simp only [Option.bind_some]; rw [IH h3]
          exact congrArg some h
        · rename_i h4; rw [if_neg h4]
          split at h
          · rename_i h5; rw [if_pos h5]; exact h
          · rename_i h5; rw [if_neg h5]
            split at h
            · rename_i h6; rw [if_pos h6]; exact h
            · rename_i h6; rw [if_neg h6]
              split at h
              · rename_i h7; rw [if_pos h7]; exact h
              · rename_i h7; rw [if_neg h7]
                split at h
                · rename_i h8; rw [if_pos h8]; exact IH h
                · rename_i h8; rw [if_neg h8]; exact h
    | named s =>
      rw [run] at h ⊢
      split at h
      · rename_i h3; rw [if_pos h3]
        split at h
        · rename_i h4; rw [if_pos h4]; exact h
        · rename_i h4; rw [if_neg h4]; obtain ⟨a, h1, h2⟩ := bind_some h; rw [IH h1]; exact IH h2
      · rename_i h3; rw [if_neg h3]; exact h
    | args s ps =>
      rw [run] at h ⊢
      split at h
      · rename_i h3; rw [if_pos h3]; obtain ⟨a, h1, h2⟩ := bind_some h; rw [IH h1]; exact IH h2
      · rename_i h3; rw [if_neg h3]; exact h
theorem run_mono {f g : Nat} (hfg : f ≤ g) {t : Task} {r : Rd} {x : Pt × Rd} (h : run f t r = some x) : run g t r = some x := by
  induction hfg with
  | refl => exact h
  | step _ ih => exact run_more _ _ _ _ ih
/-- It is read so, at some fuel. -/
def Gets (t : Task) (r : Rd) (p : Pt) (r' : Rd) : Prop := ∃ f, run f t r = some (p, r')
theorem Gets.det {t : Task} {r : Rd} {p p' : Pt} {r1 r2 : Rd} {f : Nat} (h : Gets t r p r1) (h2 : run f t r = some (p', r2)) : p' = p ∧ r2 = r1 := by
  obtain ⟨g, h⟩ := h
  have a := run_mono (Nat.le_max_left f g) h2
  have b := run_mono (Nat.le_max_right f g) h
  rw [a] at b
  simpa using b
end Go.Proofs.YtgohhnbdicdenaaGreatDoor.Sh

/- The functions Same and held and both functions Kids return what the plain functions say. Conditions: slices are read as lists. -/
namespace Go.Proofs.YtgohhnbdicdenaaGreatDoor.Tr
open Go.ChangeShapes Go.WideShapes Go.ChangeAt Go.RowKit
set_option linter.unusedVariables false

theorem und30 : Tryz.prog.underlying 58 = some (.struct (Tryz.prog.fieldsOf 58)) := by kernel_rfl
theorem stood30 : Tryz.prog.stoodInHeld 58 = false := by kernel_rfl
theorem guard30 : Tryz.prog.eqGuardType Tryz.prog.depth 58 = false := by kernel_rfl
/-- Whether two nodes are the same, of their cells. -/
def ndB (o a b c n o' a' b' c' n' : Int) (s s' : ByteArray) : Bool := o == o' && (a == a' && (b == b' && (c == c' && (n == n' && s.toList == s'.toList))))
theorem equal_nd (d : Nat) (o a b c n o' a' b' c' n' : Int) (s s' : ByteArray) (w : World) :
    (Op.equalIn (d + 2) 58 (.agg #[.int .i64 o, .int .i64 a, .int .i64 b, .int .i64 c, .int .i64 n, .string s]) (.agg #[.int .i64 o', .int .i64 a', .int .i64 b', .int .i64 c', .int .i64 n', .string s'])).run Tryz.prog w =
      .ok (ndB o a b c n o' a' b' c' n' s s') w := by
  rw [run_equalIn_agg w (d + 1) 58 _ _ und30 stood30]
  simp only [Program.fieldsOf, Tryz.underlying58]
  unfold ndB
  rcases Bool.eq_false_or_eq_true (o == o') with h1 | h1
  rotate_left
  · simp [go_sem, h1, Tryz.underlying3, Tryz.underlying9]
  rcases Bool.eq_false_or_eq_true (a == a') with h2 | h2
  rotate_left
  · simp [go_sem, h1, h2, Tryz.underlying3, Tryz.underlying9]
  rcases Bool.eq_false_or_eq_true (b == b') with h3 | h3
  rotate_left
  · simp [go_sem, h1, h2, h3, Tryz.underlying3, Tryz.underlying9]
  rcases Bool.eq_false_or_eq_true (c == c') with h4 | h4
  rotate_left
  · simp [go_sem, h1, h2, h3, h4, Tryz.underlying3, Tryz.underlying9]
  rcases Bool.eq_false_or_eq_true (n == n') with h5 | h5
  rotate_left
  · simp [go_sem, h1, h2, h3, h4, h5, Tryz.underlying3, Tryz.underlying9]
  rcases Bool.eq_false_or_eq_true (s.toList == s'.toList) with h6 | h6
  rotate_left
  · simp [go_sem, h1, h2, h3, h4, h5, h6, Tryz.underlying3, Tryz.underlying9]
  simp [go_sem, h1, h2, h3, h4, h5, h6, Tryz.underlying3, Tryz.underlying9]
theorem neq_nd (o a b c n o' a' b' c' n' : Int) (s s' : ByteArray) (w : World) :
    (binOp .neq 58 (.agg #[.int .i64 o, .int .i64 a, .int .i64 b, .int .i64 c, .int .i64 n, .string s]) (.agg #[.int .i64 o', .int .i64 a', .int .i64 b', .int .i64 c', .int .i64 n', .string s'])).run Tryz.prog w = .ok (.bool (!ndB o a b c n o' a' b' c' n' s s')) w := by
  rw [run_neq_struct, show (10000 : Nat) = 9998 + 2 from rfl, equal_nd]; rfl
theorem eql_nd (o a b c n o' a' b' c' n' : Int) (s s' : ByteArray) (w : World) :
    (binOp .eql 58 (.agg #[.int .i64 o, .int .i64 a, .int .i64 b, .int .i64 c, .int .i64 n, .string s]) (.agg #[.int .i64 o', .int .i64 a', .int .i64 b', .int .i64 c', .int .i64 n', .string s'])).run Tryz.prog w = .ok (.bool (ndB o a b c n o' a' b' c' n' s s')) w := by
  rw [run_eql_struct, show (10000 : Nat) = 9998 + 2 from rfl, equal_nd]; rfl
theorem guard_nd (op : BinOp) (x y : Operand) (xs ys : Array Value) (w : World) : (eqGuard op 58 x y (.agg xs) (.agg ys)).run Tryz.prog w = .ok () w := run_eqGuard_agg w op 58 x y xs ys guard30
theorem ndB_str (x y : Nd) : ndB x.op x.a x.b x.c x.n y.op y.a y.b y.c y.n (str x.name) (str y.name) = decide (x = y) := by
  unfold ndB; rw [str_toList, str_toList, Bool.eq_iff_iff]
  obtain ⟨o, a, b, c, n, s⟩ := x
  obtain ⟨o', a', b', c', n', s'⟩ := y
  simp [Nd.mk.injEq]

attribute [local go_sem ↓] neq_nd eql_nd guard_nd
set_option maxHeartbeats 1600000 in
theorem same_any (u v : Value) (l m : List Nd) (w : World) (hu : Nodes w u l) (hv : Nodes w v m) :
    Calls Tryz.prog 37 #[u, v] w fun e w' => e = .returned (.bool (decide (l = m))) ∧ ∃ n, w' = w.drewN n := by
  obtain ⟨A, c, rfl, h1, h2, hA⟩ := hu
  obtain ⟨B, d, rfl, h3, h4, hB⟩ := hv
  unfold maxLen at h2 h4
  have HA := Lib.hid hA
  have HB := Lib.hid hB
  clear hA hB
  by_cases hlm : l.length = m.length
  · have hE : ((l.length : Int) != (m.length : Int)) = false := by simp [hlm]
    have HLM := Lib.hid hlm
    clear hlm
    go_enter Tryz.func37, Tryz.ntmps37
    go_wp2
    go_loopw [5] (fun i wr => ∃ k n : Nat, k ≤ l.length ∧ i = .int .i64 k ∧ wr = w.drewN n ∧ l.take k = m.take k) (fun i _ => l.length - (intOf i).toNat)
    case atStart => exact ⟨0, 0, Nat.zero_le _, rfl, rfl, by simp⟩
    case round =>
      obtain ⟨k, n, hk, rfl, rfl, ht⟩ := hrel
      have HT := Lib.hid ht
      clear ht
      by_cases hlt : k < l.length
      · have hlt2 : k < m.length := by rw [← HLM.out]; exact hlt
        obtain ⟨t1, ht1⟩ : ∃ t, l[k]? = some t := ⟨_, List.getElem?_eq_getElem hlt⟩
        obtain ⟨t2, ht2⟩ : ∃ t, m[k]? = some t := ⟨_, List.getElem?_eq_getElem hlt2⟩
        obtain ⟨g, o, rfl, hg, a0, a1, a2, a3, a4, a5⟩ := HA.out k t1 ht1
        obtain ⟨g', o', rfl, hg', b0, b1, b2, b3, b4, b5⟩ := HB.out k t2 ht2
        have H1 := Lib.hid ht1
        have H2 := Lib.hid ht2
        clear ht1 ht2
        rcases Bool.eq_false_or_eq_true (ndB t1.op t1.a t1.b t1.c t1.n t2.op t2.a t2.b t2.c t2.n (str t1.name) (str t2.name)) with hq | hq
        · have HQ := Lib.hid (show l.take (k + 1) = m.take (k + 1) from take_next HT.out H1.out (by rw [H2.out]; rw [ndB_str] at hq; rw [of_decide_eq_true hq]))
          go_wp2
          go_quiet (fail)
          go_wp2
          go_roundw
          case rel => exact ⟨k + 1, _, by omega, by go_num, rfl, HQ.out⟩
          case measure => simp [intOf]; omega
        · have HQ := Lib.hid (show decide (l = m) = false from decide_eq_false (by
            rintro rfl
            have := H1.out.symm.trans H2.out
            rw [ndB_str] at hq
            exact absurd (Option.some.inj this) (of_decide_eq_false hq)))
          go_wp2
          go_quiet (fail)
          go_wp2
          go_ret
          exact ⟨ret_bool HQ.out.symm, n + nq, by rw [World.drewN_drewN]⟩
      · have HQ := Lib.hid (show decide (l = m) = true from decide_eq_true (by
          have := HT.out
          rw [List.take_of_length_le (by omega), List.take_of_length_le (by rw [← HLM.out]; omega)] at this
          exact this))
        go_wp2
        go_ret
        exact ⟨ret_bool HQ.out.symm, n, rfl⟩
  · have hE : ((l.length : Int) != (m.length : Int)) = true := by rw [bne_iff_ne]; omega
    have e : decide (l = m) = false := decide_eq_false (by rintro rfl; exact hlm rfl)
    rw [e]
    go_enter Tryz.func37, Tryz.ntmps37
    go_wp2
    go_ret
    exact ⟨rfl, 0, rfl⟩
end Go.Proofs.YtgohhnbdicdenaaGreatDoor.Tr

/- The table of signs of layer show in memory; contracts of its functions signOf, Op, Level, asked, truth. Conditions: the table lies in memory. -/
namespace Go.Proofs.YtgohhnbdicdenaaGreatDoor.Sh
open Go.ChangeShapes Go.WideShapes Go.ChangeAt Go.RowKit
open Go.Proofs.YtgohhnbdicdenaaGreatDoor.Tr (str ret_bool ret_int Bytes Nd T)
set_option linter.unusedVariables false
set_option linter.unusedSimpArgs false

/-- The table of signs lies in memory. -/
def SgAt (w : World) : Prop := 0 < w.heap.size ∧ ∀ k : Nat, k < 28 → w.cell? ⟨0, k * 2, none⟩ = some (.string (str (opText (k : Int)))) ∧ w.cell? ⟨0, k * 2 + 1, none⟩ = some (.int .i64 (levM (k : Int)))
theorem SgAt.below {w w' : World} {B : Nat} (h : SgAt w) (hb : Below B w w') (hB : 0 < B) : SgAt w' :=
  ⟨by have := hb.size; have := h.1; omega, fun k hk => by
    obtain ⟨a, b⟩ := h.2 k hk
    exact ⟨(hb.cell (p := ⟨0, k * 2, none⟩) hB).trans a, (hb.cell (p := ⟨0, k * 2 + 1, none⟩) hB).trans b⟩⟩
theorem opText_out {o : Int} (h : o < 0 ∨ 28 ≤ o) : opText o = opText 0 ∧ levM o = levM 0 := by
  unfold opText levM
  rcases h with h | h
  · rw [if_pos h, if_pos h]; exact ⟨rfl, rfl⟩
  · have h1 : opTexts[o.toNat]? = none := List.getElem?_eq_none (by show 27 ≤ _; omega)
    have h2 : levels[o.toNat]? = none := List.getElem?_eq_none (by show 28 ≤ _; omega)
    have h0 : ¬ o < 0 := by omega
    rw [if_neg h0, if_neg h0, h1, h2]; exact ⟨rfl, rfl⟩
def sgPost (w : World) (o : Int) (e : Ending) (w' : World) : Prop := e = .returned (.agg #[.string (str (opText o)), .int .i64 (levM o)]) ∧ Below w.heap.size w w'
set_option maxRecDepth 100000 in
set_option maxHeartbeats 800000 in
theorem sign_any (o : Int) (w : World) (hs : SgAt w) : Calls Tryz.prog 32 #[.int .i64 o] w (sgPost w o) := by
  by_cases h : o < 0 ∨ 28 ≤ o
  · obtain ⟨e1, e2⟩ := opText_out h
    obtain ⟨c0, c1⟩ := hs.2 0 (by omega)
    have hz := hs.1
    unfold sgPost
    rw [e1, e2]
    obtain ⟨s0, hs0⟩ : ∃ s, opText 0 = s := ⟨_, rfl⟩
    obtain ⟨l0, hl0⟩ : ∃ l, levM 0 = l := ⟨_, rfl⟩
    have c0' : w.cell? ⟨0, 0, none⟩ = some (.string (str s0)) := by rw [← hs0]; exact c0
    have c1' : w.cell? ⟨0, 1, none⟩ = some (.int .i64 l0) := by rw [← hl0]; exact c1
    rw [hs0, hl0]
    clear c0 c1 e1 e2 hs hs0 hl0
    by_cases h1 : o < 0
    · go_enter Tryz.func32, Tryz.ntmps32
      go_wp2
      exact bodyPost_ret (v := .agg #[.string (str s0), .int .i64 l0]) (by simp [results, Tryz.results32, go_sem]) rfl ⟨rfl, by repeat (first | with_reducible refine Below.setCell ?_ (by simp) _ | with_reducible refine Below.alloc ?_ (by simp) _ | exact Below.refl _ _)⟩
    · have h2 : 28 ≤ o := by omega
      go_enter Tryz.func32, Tryz.ntmps32
      go_wp2
      exact bodyPost_ret (v := .agg #[.string (str s0), .int .i64 l0]) (by simp [results, Tryz.results32, go_sem]) rfl ⟨rfl, by repeat (first | with_reducible refine Below.setCell ?_ (by simp) _ | with_reducible refine Below.alloc ?_ (by simp) _ | exact Below.refl _ _)⟩
  · obtain ⟨k, rfl⟩ : ∃ k : Nat, o = (k : Int) := ⟨o.toNat, by omega⟩
    have hk : k < 28 := by omega
    obtain ⟨c0, c1⟩ := hs.2 k hk
    have hz := hs.1
    unfold sgPost
    obtain ⟨s0, hs0⟩ : ∃ s, opText (k : Int) = s := ⟨_, rfl⟩
    obtain ⟨l0, hl0⟩ : ∃ l, levM (k : Int) = l := ⟨_, rfl⟩
    rw [hs0] at c0 ⊢
    rw [hl0] at c1 ⊢
    clear h hs hs0 hl0
    go_enter Tryz.func32, Tryz.ntmps32
    go_wp2
    exact bodyPost_ret (v := .agg #[.string (str s0), .int .i64 l0]) (by simp [results, Tryz.results32, go_sem]) rfl ⟨rfl, by repeat (first | with_reducible refine Below.setCell ?_ (by simp) _ | with_reducible refine Below.alloc ?_ (by simp) _ | exact Below.refl _ _)⟩
theorem field0 (S : ByteArray) (L : Int) (w : World) : (Instr.field 64 (.agg #[.string S, .int .i64 L]) 0).run Tryz.prog w = .ok (.string S) w := by
  first | kernel_rfl | rfl | simp [Instr.field, Tryz.underlying64, go_sem]
theorem field1 (S : ByteArray) (L : Int) (w : World) : (Instr.field 64 (.agg #[.string S, .int .i64 L]) 1).run Tryz.prog w = .ok (.int .i64 L) w := by
  first | kernel_rfl | rfl | simp [Instr.field, Tryz.underlying64, go_sem]
attribute [local go_sem ↓] field0 field1
set_option maxRecDepth 100000 in
set_option maxHeartbeats 800000 in
theorem op_any (o : Int) (w : World) (hs : SgAt w) : Calls Tryz.prog 14 #[.int .i64 o] w fun e w' => e = .returned (.string (str (opText o))) ∧ Below w.heap.size w w' := by
  have HC := sign_any o w hs
  unfold sgPost at HC
  obtain ⟨S, hS⟩ : ∃ S, opText o = S := ⟨_, rfl⟩
  obtain ⟨L, hL⟩ : ∃ L, levM o = L := ⟨_, rfl⟩
  rw [hS, hL] at HC
  rw [hS]
  have HC := Lib.hid HC
  clear hs hS hL
  go_enter Tryz.func14, Tryz.ntmps14
  go_wp2_with fail
  refine HC.out.mono ?_
  rintro r w1 ⟨rfl, hb⟩
  have HB := Lib.hid hb
  clear hb
  go_wp2
  go_ret
  exact ⟨rfl, HB.out⟩
set_option maxRecDepth 100000 in
set_option maxHeartbeats 800000 in
theorem level_any (o : Int) (w : World) (hs : SgAt w) : Calls Tryz.prog 16 #[.int .i64 o] w fun e w' => e = .returned (.int .i64 (levM o)) ∧ Below w.heap.size w w' := by
  have HC := sign_any o w hs
  unfold sgPost at HC
  obtain ⟨S, hS⟩ : ∃ S, opText o = S := ⟨_, rfl⟩
  obtain ⟨L, hL⟩ : ∃ L, levM o = L := ⟨_, rfl⟩
  rw [hS, hL] at HC
  rw [hL]
  have HC := Lib.hid HC
  clear hs hS hL
  go_enter Tryz.func16, Tryz.ntmps16
  go_wp2_with fail
  refine HC.out.mono ?_
  rintro r w1 ⟨rfl, hb⟩
  have HB := Lib.hid hb
  clear hb
  go_wp2
  go_ret
  exact ⟨rfl, HB.out⟩
theorem truth_any (n : Int) (w : World) : Calls Tryz.prog 80 #[.int .i64 n] w fun e w' => e = .returned (.string (str (if n = 1 then tTrue.2 else tFalse.2))) ∧ w = w' := by
  by_cases h : n = 1
  · subst h
    go_enter Tryz.func80, Tryz.ntmps80
    go_wp2
    go_ret
    exact ⟨rfl, rfl⟩
  · have hb : (n == 1) = false := by simpa using h
    have HE := Lib.hid (show (if n = 1 then tTrue.2 else tFalse.2) = tFalse.2 from if_neg h)
    rw [HE.out]
    clear h
    go_enter Tryz.func80, Tryz.ntmps80
    go_wp2
    go_ret
    exact ⟨rfl, rfl⟩
theorem asked_any (L : Int) (w : World) (h0 : -1 ≤ L) (h1 : L ≤ 10) : Calls Tryz.prog 103 #[.int .i64 L] w fun e w' => e = .returned (.tuple #[.int .i64 (leftOf L), .int .i64 (rightOf L)]) ∧ w = w' := by
  by_cases h : L ≤ 2
  · have HL := Lib.hid (show leftOf L = L + 1 by unfold leftOf; rw [if_pos h])
    have HR := Lib.hid (show rightOf L = L by unfold rightOf; rw [if_pos h])
    rw [HL.out, HR.out]
    go_enter Tryz.func103, Tryz.ntmps103
    go_wp2
    go_ret2
    exact ⟨rfl, rfl⟩
  · by_cases h6 : L = 6
    · subst h6
      have HL := Lib.hid (show leftOf 6 = 7 from rfl)
      have HR := Lib.hid (show rightOf 6 = 7 from rfl)
      rw [HL.out, HR.out]
      go_enter Tryz.func103, Tryz.ntmps103
      go_wp2
      go_ret2
      exact ⟨rfl, rfl⟩
    · have HL := Lib.hid (show leftOf L = L by unfold leftOf; rw [if_neg h, if_neg h6])
      have HR := Lib.hid (show rightOf L = L + 1 by unfold rightOf; rw [if_neg h])
      have hb : (L == 6) = false := by simpa using h6
      rw [HL.out, HR.out]
      clear h6
      go_enter Tryz.func103, Tryz.ntmps103
      go_wp2
      go_ret2
      exact ⟨rfl, rfl⟩
end Go.Proofs.YtgohhnbdicdenaaGreatDoor.Sh

/- The function Join of layer lex returns the tokens' texts, a blank between any two. Conditions: the slice reads as a list of tokens; the texts together are not too long. -/
namespace Go.Proofs.YtgohhnbdicdenaaGreatDoor.Lx
open Go.ChangeShapes Go.WideShapes Go.ChangeAt Go.RowKit
set_option linter.unusedVariables false

theorem info9 : (Tryz.prog.info? 9).map (fun i => (i.zero, i.size, i.bytes)) = some (some (.string ⟨#[]⟩), 1, 16) := by kernel_rfl

/-- The texts that are laid so far, and empty ones behind them. -/
def laid (l : List Tok) (k : Nat) : List Value := (l.take k).map (fun t => .string (str t.text)) ++ List.replicate (l.length - k) (.string ⟨#[]⟩)
theorem laid_zero (l : List Tok) : laid l 0 = List.replicate l.length (.string ⟨#[]⟩) := by simp [laid]
theorem laid_all (l : List Tok) : laid l l.length = l.map (fun t => .string (str t.text)) := by simp [laid]
theorem laid_set (l : List Tok) (k : Nat) (t : Tok) (h : l[k]? = some t) : (laid l k).set k (.string (str t.text)) = laid l (k + 1) := by
  have hk : k < l.length := (List.getElem?_eq_some_iff.1 h).1
  have e1 : l.length - k = (l.length - (k + 1)) + 1 := by omega
  have e2 : ((l.take k).map (fun t => Value.string (str t.text))).length = k := by simp; omega
  unfold laid
  rw [e1, List.replicate_succ, List.set_append_right _ _ (by rw [e2]; exact Nat.le_refl _), e2, Nat.sub_self, List.set_cons_zero, List.take_add_one, h, List.map_append, List.append_assoc]
  rfl

theorem sjoin_any (g : Nat) (l : List Tok) (b : Nat) (w : World) (hown : w.ownsRow b 9 1 (.slice (some ⟨g, 0, none⟩) l.length l.length) l.length (laid l l.length)) (hn : l.length ≤ 1000000) (hj : (joinM l).length ≤ 140737488355328) :
    Calls Tryz.prog 42 #[.slice (some ⟨g, 0, none⟩) l.length l.length, .string ⟨#[32]⟩] w fun e w' => e = .returned (.string (str (joinM l))) ∧ Below w.heap.size w w' := by
  have hm : (l.map (fun t => str t.text)).map (·.data.toList) = l.map (·.text) := by
    rw [List.map_map]; apply List.map_congr_left; intro t _; exact List.toList_toArray
  have hc : ∀ (j : Nat) x, (l.map (fun t => str t.text))[j]? = some x → w.cell? ⟨g, 0 + j, none⟩ = some (.string x) := fun j x hx => by
    rw [List.getElem?_map] at hx
    cases ht : l[j]? with
    | none => rw [ht] at hx; simp at hx
    | some t =>
      rw [ht] at hx; simp at hx; subst hx
      have hjl : j < l.length := (List.getElem?_eq_some_iff.1 ht).1
      rw [Nat.zero_add, hown.cellAt j (by omega), laid_all, List.getElem?_map, ht]; rfl
  have := Tryz.strings_Join g 0 l.length (l.map (fun t => str t.text)) ⟨#[32]⟩ w hc (hown.lt g rfl).2 (by simp; omega) (by simp) (by rw [hm]; exact hj)
  rw [hm, List.length_map] at this
  exact this
set_option maxHeartbeats 1600000 in
theorem join_any (v : Value) (l : List Tok) (w : World) (hv : Toks w v l) (hn : l.length ≤ 1000000) (hj : (joinM l).length ≤ 140737488355328) :
    Calls Tryz.prog 26 #[v] w fun e w' => e = .returned (.string (str (joinM l))) ∧ Below w.heap.size w w' := by
  obtain ⟨A, c, rfl, h1, h2, hA⟩ := hv
  unfold maxLen at h2
  have HA := Lib.hid hA
  clear hA
  obtain ⟨i0, hi, hz0, hz1, hz2⟩ := info_parts info9
  go_enter Tryz.func26, Tryz.ntmps26
  go_wp2_with (at_make; refine wpList_make_full _ rfl _ _ 66 rfl w.heap.size 9 i0 _ 1 Tryz.underlying66 hi hz0 hz1 _ _ _ _ l.length rfl rfl rfl rfl (by rw [hz2]; omega) (by unfold maxLen; omega) (Nat.le_refl _) ?_)
  intro w1 hown hgrow
  have hb1 : Below w.heap.size w w1 := (Below.refl _ _).grown hgrow (Nat.le_refl _) (fun k hk => by simp at hk)
  have hown0 : w1.ownsRow w.heap.size 9 1 (.slice (some ⟨w.heap.size, 0, none⟩) l.length l.length) l.length (laid l 0) := by
    rw [laid_zero]
    rw [← toList_madeCells_one]; exact hown
  clear hown hgrow
  go_wp2
  go_loopw [11] (fun i wr => ∃ k : Nat, k ≤ l.length ∧ i = .int .i64 k ∧ wr.ownsRow w.heap.size 9 1 (.slice (some ⟨w.heap.size, 0, none⟩) l.length l.length) l.length (laid l k) ∧ Below w.heap.size w wr) (fun i _ => l.length - (intOf i).toNat)
  case atStart => exact ⟨0, Nat.zero_le _, rfl, hown0, hb1⟩
  case round =>
    obtain ⟨k, hk, rfl, hown, hb⟩ := hrel
    clear hown0 hb1
    by_cases hlt : k < l.length
    · obtain ⟨t, ht⟩ : ∃ t, l[k]? = some t := ⟨_, List.getElem?_eq_getElem hlt⟩
      obtain ⟨g, rfl, hg, a0, a1, a2⟩ := HA.out k t ht
      obtain ⟨K, T, P⟩ := t
      simp only at a0 a1 a2
      have hcb := fun o => hb.cell (p := ⟨g, o, none⟩) hg
      have b0 := (hcb _).trans a0
      have b1 := (hcb _).trans a1
      have b2 := (hcb _).trans a2
      have hgz : g < wr.heap.size := Nat.lt_of_lt_of_le hg hb.size
      have hwz := hown.lt _ rfl
      have hwz2 : w.heap.size < wr.heap.size := hwz.2
      have hsc : (laid l k)[k]? = some (.string ⟨#[]⟩) := by
        unfold laid
        rw [List.getElem?_append_right (by simp; omega), List.getElem?_replicate]
        simp; omega
      have c0 := (hown.cellAt k (by omega)).trans hsc
      have f0 := hown.frozenAt k
      have HT := Lib.hid ht
      have HO := Lib.hid hown
      clear ht hown hcb a0 a1 a2 hsc hwz
      go_wp2
      refine ⟨⟨k + 1, by omega, by go_num, ?_, (hb.setCell (Nat.le_refl _) _).alloc (by simpa using Nat.le_of_lt hwz2) _⟩, by simp [intOf]; omega⟩
      have := (HO.out.stored k (.string (str T))).1
      rw [laid_set l k _ HT.out] at this
      exact this.alloc _
    · obtain rfl : k = l.length := by omega
      have HO := Lib.hid hown
      clear hown
      go_wp2_with (go_at_call 42; refine (sjoin_any w.heap.size l _ wr HO.out hn hj).mono ?_; rintro e w2 ⟨rfl, hb2⟩)
      go_ret
      exact ⟨rfl, hb.trans (hb2.mono hb.size)⟩
end Go.Proofs.YtgohhnbdicdenaaGreatDoor.Lx

/- A reader of layer expr in memory; contracts of its functions At, token and text. Conditions: the tokens are read as a list. -/
namespace Go.Proofs.YtgohhnbdicdenaaGreatDoor.Ex
open Go.ChangeShapes Go.WideShapes Go.ChangeAt Go.RowKit
open Go.Proofs.YtgohhnbdicdenaaGreatDoor.Tr (str ret_bool ret_int Bytes Nd)
set_option linter.unusedVariables false
set_option linter.unusedSimpArgs false

/-- A slice reads as tokens that do not lie in a block. -/
def TokOff (w : World) (b : Nat) (v : Value) (l : List Tok) : Prop :=
  ∃ A c, v = .slice A l.length c ∧ l.length ≤ c ∧ c ≤ maxLen ∧ ∀ i t, l[i]? = some t → ∃ g, A = some ⟨g, 0, none⟩ ∧ g < b ∧ g < w.heap.size ∧
    w.cell? ⟨g, i * 3, none⟩ = some (.int .i64 t.kind) ∧ w.cell? ⟨g, i * 3 + 1, none⟩ = some (.string (str t.text)) ∧ w.cell? ⟨g, i * 3 + 2, none⟩ = some (.int .i64 (t.at_ : Int))
theorem TokOff.keep {w w' : World} {b : Nat} {v : Value} {l : List Tok} (h : TokOff w b v l) (hs : w.heap.size ≤ w'.heap.size) (hk : ∀ g, g < b → g < w.heap.size → w'.heap[g]? = w.heap[g]?) : TokOff w' b v l := by
  obtain ⟨A, c, rfl, h1, h2, h3⟩ := h
  refine ⟨A, c, rfl, h1, h2, fun i t hi => ?_⟩
  obtain ⟨g, hg, hne, hlt, c0, c1, c2⟩ := h3 i t hi
  have q : ∀ k, w'.cell? ⟨g, k, none⟩ = w.cell? ⟨g, k, none⟩ := fun k => World.cell?_of_block (w := w) (a := ⟨g, k, none⟩) (hk g hne hlt)
  exact ⟨g, hg, hne, by omega, (q _).trans c0, (q _).trans c1, (q _).trans c2⟩
theorem TokOff.nil (w : World) (b : Nat) : TokOff w b (.slice none 0 0) [] := ⟨none, 0, rfl, by simp, by unfold maxLen; omega, fun i t h => by simp at h⟩

/-- The map of a level's operators. -/
def MapAt (w : World) (b n : Nat) (v : Value) : Prop := ∃ m es k, v = .map (some m) ∧ m < b ∧ m < w.heap.size ∧ w.heap[m]? = some (.map es k) ∧ es.toList.map (fun e => (e.key, e.val)) = (signsM n).map (fun x => (.string (str x.1), .agg #[.int .i64 x.2.1, .bool x.2.2]))
theorem MapAt.keep {w w' : World} {b n : Nat} {v : Value} (h : MapAt w b n v) (hs : w.heap.size ≤ w'.heap.size) (hk : ∀ g, g < b → g < w.heap.size → w'.heap[g]? = w.heap[g]?) : MapAt w' b n v := by
  obtain ⟨m, es, k, rfl, h1, h2, h3, h4⟩ := h
  exact ⟨m, es, k, rfl, h1, by omega, (hk m h1 h2).trans h3, h4⟩
/-- The variable of the error of a number's form holds an error or none. -/
def VarAt (w : World) (b : Nat) : Prop := 5 < b ∧ 5 < w.heap.size ∧ ∃ ev, w.cell? ⟨5, 0, none⟩ = some ev ∧ (ev = .nilIface ∨ ∃ te pe, ev = .iface te pe)
theorem VarAt.keep {w w' : World} {b : Nat} (h : VarAt w b) (hs : w.heap.size ≤ w'.heap.size) (hk : ∀ g, g < b → g < w.heap.size → w'.heap[g]? = w.heap[g]?) : VarAt w' b := by
  obtain ⟨h1, h2, ev, h3, h4⟩ := h
  exact ⟨h1, by omega, ev, (World.cell?_of_block (w := w) (a := ⟨5, 0, none⟩) (hk 5 h1 h2)).trans h3, h4⟩

def rdCells (lv : Value) (mv : Nat → Value) (r : Rd) : Array Value :=
  #[lv, .int .i64 (r.next : Int), .int .i64 (r.begun : Int), .int .i64 r.code, .int .i64 r.at_, mv 0, mv 1, mv 2, mv 3, mv 4, mv 5, mv 6, mv 7, mv 8, mv 9]
structure RdAt (w : World) (b : Nat) (mv : Nat → Value) (r : Rd) : Prop where
  blk : ∃ lv, w.heap[b]? = some (.cells (rdCells lv mv r) 165 (0, 0)) ∧ TokOff w b lv r.l
  maps : ∀ n, 1 ≤ n → n ≤ 9 → MapAt w b n (mv n)
  var : VarAt w b
theorem RdAt.keep {w w' : World} {b : Nat} {mv : Nat → Value} {r : Rd} (h : RdAt w b mv r) (hs : w.heap.size ≤ w'.heap.size) (hk : ∀ g, g < b → g < w.heap.size → w'.heap[g]? = w.heap[g]?) (hb : w'.heap[b]? = w.heap[b]?) : RdAt w' b mv r := by
  obtain ⟨lv, h1, h2⟩ := h.blk
  exact ⟨⟨lv, hb.trans h1, h2.keep hs hk⟩, fun n h3 h4 => (h.maps n h3 h4).keep hs hk, h.var.keep hs hk⟩
theorem RdAt.lt {w : World} {b : Nat} {mv : Nat → Value} {r : Rd} (h : RdAt w b mv r) : b < w.heap.size := by
  obtain ⟨lv, h1, _⟩ := h.blk; exact lt_of_block h1
theorem RdAt.below {w w' : World} {b : Nat} {mv : Nat → Value} {r : Rd} (h : RdAt w b mv r) (hb : Below w.heap.size w w') : RdAt w' b mv r :=
  h.keep hb.size (fun g _ hg => hb.block g hg) (hb.block b h.lt)
/-- What turns a reader alone. -/
structure RdTo (w w' : World) (b : Nat) (mv : Nat → Value) (r' : Rd) : Prop where
  rd : RdAt w' b mv r'
  grown : w.grownBy w' (some b)
theorem RdTo.below {w w1 w' : World} {b : Nat} {mv : Nat → Value} {r' : Rd} (hb : Below w.heap.size w w1) (hlt : b < w.heap.size) (h : RdTo w1 w' b mv r') : RdTo w w' b mv r' :=
  ⟨h.rd, ⟨h.grown.os.trans hb.os, h.grown.tape.trans hb.tape, h.grown.output.trans hb.output, Nat.le_trans hb.size h.grown.size, fun i hi hne => (h.grown.block i (Nat.lt_of_lt_of_le hi hb.size) hne).trans (hb.block i hi)⟩⟩
theorem RdTo.refl {w : World} {b : Nat} {mv : Nat → Value} {r : Rd} (h : RdAt w b mv r) : RdTo w w b mv r := ⟨h, World.grownBy.refl w _⟩
theorem RdTo.of_below {w w' : World} {b : Nat} {mv : Nat → Value} {r : Rd} (h : RdAt w b mv r) (hb : Below w.heap.size w w') : RdTo w w' b mv r :=
  ⟨h.below hb, ⟨hb.os, hb.tape, hb.output, hb.size, fun i hi _ => hb.block i hi⟩⟩
theorem RdTo.trans {w w1 w2 : World} {b : Nat} {mv : Nat → Value} {r1 r2 : Rd} (h : RdTo w w1 b mv r1) (k : RdTo w1 w2 b mv r2) : RdTo w w2 b mv r2 :=
  ⟨k.rd, ⟨k.grown.os.trans h.grown.os, k.grown.tape.trans h.grown.tape, k.grown.output.trans h.grown.output, Nat.le_trans h.grown.size k.grown.size, fun i hi hne => (k.grown.block i (Nat.lt_of_lt_of_le hi h.grown.size) hne).trans (h.grown.block i hi hne)⟩⟩
theorem RdTo.then_below {w w1 w2 : World} {b : Nat} {mv : Nat → Value} {r1 : Rd} (h : RdTo w w1 b mv r1) (k : Below w1.heap.size w1 w2) : RdTo w w2 b mv r1 := h.trans (RdTo.of_below h.rd k)

theorem rd_cell {w : World} {b : Nat} {lv : Value} {mv : Nat → Value} {r : Rd} (h : w.heap[b]? = some (.cells (rdCells lv mv r) 165 (0, 0))) (k : Nat) : w.cell? ⟨b, k, none⟩ = (rdCells lv mv r)[k]? := by
  simp [World.cell?, h]
theorem rd_free {w : World} {b : Nat} {lv : Value} {mv : Nat → Value} {r : Rd} (h : w.heap[b]? = some (.cells (rdCells lv mv r) 165 (0, 0))) (k : Nat) : w.frozen? ⟨b, k, none⟩ = false := by
  simp [World.frozen?, h]

/-- A part in memory: its nodes lie in a row of nodes. -/
def PtW (w : World) (x : Value × Pt) : Prop := Tr.Nodes w x.1 x.2.e ∧ (0 < x.2.e.length → ∀ g o n c, x.1 = .slice (some ⟨g, o, none⟩) n c → ∃ (cs : Array Value) (f : Nat × Nat), w.heap[g]? = some (Obj.cells cs 58 f))
theorem PtW.keep {w w' : World} {x : Value × Pt} (h : PtW w x) (hs : w.heap.size ≤ w'.heap.size) (hk : ∀ g : Nat, (∃ (cs : Array Value) (f : Nat × Nat), w.heap[g]? = some (Obj.cells cs 58 f)) → w'.heap[g]? = w.heap[g]?) : PtW w' x := by
  obtain ⟨⟨A, c, e, h1, h2, h3⟩, h4⟩ := h
  refine ⟨⟨A, c, e, h1, h2, fun i t hi => ?_⟩, fun h0 g o n c e => ?_⟩
  · obtain ⟨g, o, rfl, hlt, c0, c1, c2, c3, c4, c5⟩ := h3 i t hi
    have q : ∀ k, w'.cell? ⟨g, k, none⟩ = w.cell? ⟨g, k, none⟩ := fun k => World.cell?_of_block (w := w) (a := ⟨g, k, none⟩) (hk g (h4 (by have := (List.getElem?_eq_some_iff.1 hi).1; omega) g o _ _ e))
    exact ⟨g, o, rfl, by omega, (q _).trans c0, (q _).trans c1, (q _).trans c2, (q _).trans c3, (q _).trans c4, (q _).trans c5⟩
  · obtain ⟨cs, f, hc⟩ := h4 h0 g o n c e
    exact ⟨cs, f, (hk g ⟨cs, f, hc⟩).trans hc⟩
theorem PtW.below {w w' : World} {x : Value × Pt} (h : PtW w x) (hb : Below w.heap.size w w') : PtW w' x :=
  h.keep hb.size (fun g ⟨_, _, hc⟩ => hb.block g (lt_of_block hc))
theorem PtW.set {w : World} {x : Value × Pt} (h : PtW w x) {B k T : Nat} {cs : Array Value} {f : Nat × Nat} (hB : w.heap[B]? = some (.cells cs T f)) (hT : T ≠ 58) (v : Value) : PtW (w.setCell ⟨B, k, none⟩ v) x :=
  h.keep (by simp [World.setCell]) (fun g ⟨cs', f', hc⟩ => Below.heap_setCell _ _ _ _ (by
    rintro rfl
    rw [hB] at hc
    simp only [Option.some.injEq, Obj.cells.injEq] at hc
    exact hT hc.2.1))
theorem PtW.grown {w w' : World} {x : Value × Pt} {b : Nat} {mv : Nat → Value} {r : Rd} (h : PtW w x) (hr : RdAt w b mv r) (hg : w.grownBy w' (some b)) : PtW w' x :=
  h.keep hg.size (fun g ⟨cs, f, hc⟩ => hg.block g (lt_of_block hc) (fun e => by
    obtain ⟨lv, h1, _⟩ := hr.blk
    injection e with e
    subst e
    rw [h1] at hc
    simp only [Option.some.injEq, Obj.cells.injEq] at hc
    exact absurd hc.2.1 (by decide)))
theorem PtW.own {w : World} {b : Nat} {v : Value} {p : Pt} (h : w.ownsRow b 58 6 v p.e.length (Tr.ndsOf p.e)) : PtW w (v, p) := by
  refine ⟨Tr.Nodes.of_own h, fun h0 g o n c e => ?_⟩
  obtain ⟨hl, h0' | ⟨g', cap, cur, hv, hb, hh, _⟩⟩ := h
  · simp only at e; rw [h0'.1] at e; cases e
  · simp only at e
    rw [hv] at e
    simp only [Value.slice.injEq, Option.some.injEq, Addr.mk.injEq] at e
    obtain ⟨⟨rfl, _⟩, _⟩ := e
    exact ⟨_, _, hh⟩
theorem PtW.nil (w : World) (p : Pt) (h : p.e = []) : PtW w (.slice none 0 0, p) := by
  refine ⟨?_, fun h0 => by simp only [h] at h0; simp at h0⟩
  simp only [h]
  exact ⟨none, 0, rfl, by simp, by unfold maxLen; omega, fun i t h => by simp at h⟩
theorem below_new (w : World) (o : Obj) : Below w.heap.size w (w.alloc o) := (Below.refl _ _).alloc (Nat.le_refl _) _

set_option maxHeartbeats 800000 in
theorem at_any (v : Value) (l : List Tok) (b i : Nat) (w : World) (hv : TokOff w b v l) (hi : i ≤ 1000000) :
    Calls Tryz.prog 98 #[v, .int .i64 (i : Int)] w fun e w' => e = .returned (.int .i64 (atM l i)) ∧ w = w' := by
  obtain ⟨A, c, rfl, h1, h2, hA⟩ := hv
  unfold maxLen at h2
  have HA := Lib.hid hA
  clear hA
  have d0 : decide ((i : Int) < 0) = false := by simp
  by_cases hlt : i < l.length
  · obtain ⟨t, ht⟩ : ∃ t, l[i]? = some t := ⟨_, List.getElem?_eq_getElem hlt⟩
    obtain ⟨g, rfl, _, hg, c0, c1, c2⟩ := HA.out i t ht
    have HT := Lib.hid (show atM l i = (t.at_ : Int) by unfold atM; rw [ht])
    clear ht
    go_enter Tryz.func98, Tryz.ntmps98
    go_wp2
    go_ret
    exact ⟨ret_int HT.out.symm, rfl⟩
  · have HT := Lib.hid (show atM l i = -1 by unfold atM; rw [List.getElem?_eq_none (by omega)])
    go_enter Tryz.func98, Tryz.ntmps98
    go_wp2
    go_ret
    exact ⟨ret_int HT.out.symm, rfl⟩
/-- What the next token is told as. -/
def TokPost (w : World) (t : Tok) (ok : Bool) (e : Ending) (w' : World) : Prop :=
  e = .returned (.tuple #[.agg #[.int .i64 t.kind, .string (str t.text), .int .i64 (t.at_ : Int)], .bool ok]) ∧ Below w.heap.size w w'
theorem three_below (w : World) (o : Obj) (n : Nat) (u0 u1 u2 : Value) : Below w.heap.size w (((((w.alloc o).drewN n).setCell ⟨w.heap.size, 0, none⟩ u0).setCell ⟨w.heap.size, 1, none⟩ u1).setCell ⟨w.heap.size, 2, none⟩ u2) :=
  (((Tr.below_drewN (below_new w o) n).setCell (Nat.le_refl _) _).setCell (Nat.le_refl _) _).setCell (Nat.le_refl _) _
set_option maxHeartbeats 1600000 in
theorem token_any (b : Nat) (mv : Nat → Value) (r : Rd) (w : World) (hr : RdAt w b mv r) (hn : r.next ≤ 1000000) :
    Calls Tryz.prog 163 #[.pointer (some ⟨b, 0, none⟩)] w (TokPost w r.cur (decide (r.next < r.l.length))) := by
  obtain ⟨lv, hb, A, c, rfl, h1, h2, hA⟩ := hr.blk
  unfold maxLen at h2
  have hlt := hr.lt
  have c0 : w.cell? ⟨b, 0, none⟩ = some (.slice A r.l.length c) := rd_cell hb 0
  have c1 : w.cell? ⟨b, 1, none⟩ = some (.int .i64 (r.next : Int)) := rd_cell hb 1
  have HA := Lib.hid hA
  clear hA hr hb
  have hbn : b ≠ w.heap.size := by omega
  have d0 : decide ((r.next : Int) < 0) = false := by simp
  by_cases hl : r.next < r.l.length
  · obtain ⟨t, ht⟩ : ∃ t, r.l[r.next]? = some t := ⟨_, List.getElem?_eq_getElem hl⟩
    obtain ⟨g, rfl, _, hg, e0, e1, e2⟩ := HA.out _ t ht
    have hgn : g ≠ w.heap.size := by omega
    have HT := Lib.hid (show r.cur = t by unfold Rd.cur; rw [ht]; rfl)
    have HO := Lib.hid (show decide (r.next < r.l.length) = true by simp [hl])
    clear ht
    obtain ⟨K, T, P⟩ := t
    simp only at e0 e1 e2
    rw [HT.out, HO.out]
    go_enter Tryz.func163, Tryz.ntmps163
    go_wp2
    go_quiet (fail)
    go_wp2
    go_region
    go_wp2
    exact bodyPost_ret (v := .tuple #[.agg #[.int .i64 K, .string (str T), .int .i64 (P : Int)], .bool true]) (by simp [results, Tryz.results163, go_sem]) rfl ⟨rfl, three_below _ _ _ _ _ _⟩
  · have HT := Lib.hid (show r.cur = noTok by unfold Rd.cur; rw [List.getElem?_eq_none (by omega)]; rfl)
    have HO := Lib.hid (show decide (r.next < r.l.length) = false by simp [hl])
    have d1 : decide (r.l.length ≤ r.next) = true := by simp; omega
    rw [HT.out, HO.out]
    go_enter Tryz.func163, Tryz.ntmps163
    go_wp2
    go_quiet (fail)
    go_wp2
    exact bodyPost_ret (v := .tuple #[.agg #[.int .i64 0, .string ⟨#[]⟩, .int .i64 0], .bool false]) (by simp [results, Tryz.results163, go_sem]) rfl ⟨rfl, three_below _ _ _ _ _ _⟩

/-- What the next token's text is told as. -/
def TextPost (w : World) (t : Bytes) (ok : Bool) (e : Ending) (w' : World) : Prop :=
  e = .returned (.tuple #[.string (str t), .bool ok]) ∧ Below w.heap.size w w'
theorem mid_text {w w1 : World} {n : Nat} (hb : Below w.heap.size w w1) (o : Obj) : Below w.heap.size w ((w1.alloc o).drewN n) :=
  Tr.below_drewN (hb.alloc hb.size o) n
set_option maxHeartbeats 1600000 in
theorem text_any (b : Nat) (mv : Nat → Value) (r : Rd) (w : World) (hr : RdAt w b mv r) (hn : r.next ≤ 1000000) :
    Calls Tryz.prog 162 #[.pointer (some ⟨b, 0, none⟩)] w (TextPost w r.cur.text r.ws) := by
  have HR := Lib.hid hr
  have HW := Lib.hid (show r.ws = (decide (r.next < r.l.length) && (r.cur.kind == 3 || r.cur.kind == 4)) from rfl)
  clear hr
  obtain ⟨t, ht⟩ : ∃ t, r.cur = t := ⟨_, rfl⟩
  obtain ⟨ok, hok⟩ : ∃ ok, decide (r.next < r.l.length) = ok := ⟨_, rfl⟩
  have HT := Lib.hid ht
  have HOK := Lib.hid hok
  rw [ht, hok] at HW
  rw [ht, HW.out]
  have HC := token_any b mv r w HR.out hn
  rw [ht, hok] at HC
  clear ht hok HW
  obtain ⟨K, T, P⟩ := t
  simp only
  have HC' := Lib.hid HC
  clear HC
  cases ok with
  | false =>
    go_enter Tryz.func162, Tryz.ntmps162
    go_wp2_with fail
    refine HC'.out.mono ?_
    rintro e w1 ⟨rfl, hb⟩
    have HB := Lib.hid hb
    clear hb
    go_wp2
    go_quiet (fail)
    go_wp2
    go_ret2
    exact ⟨rfl, mid_text HB.out _⟩
  | true =>
    rcases Bool.eq_false_or_eq_true (K == 3) with h3 | h3
    all_goals rcases Bool.eq_false_or_eq_true (K == 4) with h4 | h4
    all_goals
      have HE := Lib.hid (show (true && (K == 3 || K == 4)) = (K == 3 || K == 4) from rfl)
      rw [HE.out, h3, h4]
      go_enter Tryz.func162, Tryz.ntmps162
      go_wp2_with fail
      refine HC'.out.mono ?_
      rintro e w1 ⟨rfl, hb⟩
      have HB := Lib.hid hb
      clear hb
      go_wp2
      go_quiet (fail)
      go_wp2
      go_ret2
      exact ⟨rfl, mid_text HB.out _⟩
end Go.Proofs.YtgohhnbdicdenaaGreatDoor.Ex

