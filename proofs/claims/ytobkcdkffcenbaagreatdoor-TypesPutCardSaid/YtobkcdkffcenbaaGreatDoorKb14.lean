/- What a reader reads without a fault is a tree. Conditions: none. -/
import Derived.Test.YtobkcdkffcenbaaGreatDoorKa10
import Derived.Test.YtobkcdkffcenbaaGreatDoorKa01
import Derived.Deep.RegionHeld3
import Derived.StillTailTactics
import Derived.Test.YtobkcdkffcenbaaGreatDoorKa13
set_option linter.unusedVariables false
set_option linter.unusedSimpArgs false
namespace Go.Proofs.YtobkcdkffcenbaaGreatDoor.Ex
open Go.Proofs.YtobkcdkffcenbaaGreatDoor.Tr Go.RowKit
theorem wrap_small (k f : Int) (h0 : 0 ≤ k) (h1 : 0 ≤ f) (h : k + f ≤ 1000000000) : wrap64 (k + f) = k + f := by unfold wrap64; omega
theorem on_mkL (f : Nat) (x : Lab) (l : List Int) (hl : l.length ≤ 3) (h : ∀ k ∈ l, 0 ≤ k ∧ k + (f : Int) ≤ 1000000000) : onNd (f : Int) (mkL x l) = mkL x (l.map (· + (f : Int))) := by
  have one : ∀ k ∈ l, onM (f : Int) k = k + (f : Int) := fun k hk => by
    have := h k hk
    unfold onM; rw [if_pos this.1]; exact wrap_small _ _ this.1 (by omega) this.2
  have neg : onM (f : Int) (-1) = -1 := by unfold onM; rw [if_neg (by omega)]
  match l, hl with
  | [], _ => simp [mkL, onNd, neg]
  | [i], _ => simp [mkL, onNd, neg, one i (by simp)]
  | [i, j], _ =>
    have a := one i (by simp); have b := one j (by simp)
    by_cases h28 : x.op = 28 <;> simp [mkL, onNd, neg, a, b, h28]
  | [i, j, k], _ => simp [mkL, onNd, neg, one i (by simp), one j (by simp), one k (by simp)]
theorem flat_shift (t : T) : ∀ (b f : Nat), b + f + t.size ≤ 1000000000 → (t.flat b).map (onNd (f : Int)) = t.flat (b + f) := by
  induction t with
  | l0 x => intro b f h; simp [T.flat, on_mkL f x [] (by simp) (by simp)]
  | l1 x p ih =>
    intro b f h
    have := p.size_pos
    simp only [T.size] at h
    simp only [T.flat, List.map_append, List.map_cons, List.map_nil, ih b f (by omega)]
    rw [on_mkL f x _ (by simp) (by simp; omega)]
    congr 3
    simp; omega
  | l2 x p q ih1 ih2 =>
    intro b f h
    have := p.size_pos; have := q.size_pos
    simp only [T.size] at h
    simp only [T.flat, List.map_append, List.map_cons, List.map_nil, ih1 b f (by omega), ih2 (b + p.size) f (by omega)]
    rw [on_mkL f x _ (by simp) (by simp; omega)]
    have e1 : b + p.size + f = b + f + p.size := by omega
    rw [e1]
    congr 3
    simp; omega
  | l3 x p q r ih1 ih2 ih3 =>
    intro b f h
    have := p.size_pos; have := q.size_pos; have := r.size_pos
    simp only [T.size] at h
    simp only [T.flat, List.map_append, List.map_cons, List.map_nil, ih1 b f (by omega), ih2 (b + p.size) f (by omega), ih3 (b + p.size + q.size) f (by omega)]
    rw [on_mkL f x _ (by simp) (by simp; omega)]
    have e1 : b + p.size + f = b + f + p.size := by omega
    have e2 : b + p.size + q.size + f = b + f + p.size + q.size := by omega
    rw [e1, e2]
    congr 3
    simp; omega
theorem behind_flat (a : List Nd) (t : T) (h : a.length + t.size ≤ 1000000000) : behindM a (t.flat 0) = a ++ t.flat a.length := by
  unfold behindM; rw [flat_shift t 0 a.length (by omega), Nat.zero_add]
theorem flat_ne (t : T) (b : Nat) : t.flat b ≠ [] := fun h => by
  have := T.flat_len t b; rw [h] at this; have := t.size_pos; simp at *; omega
def argsC (acc : T) : List T → T
  | [] => acc
  | t :: ts => argsC (.l2 ⟨28, 0, []⟩ acc t) ts
def callT (s : Bytes) : List T → T
  | [] => .l0 ⟨27, 0, s⟩
  | t :: ts => .l1 ⟨27, 0, s⟩ (argsC (.l1 ⟨28, 0, []⟩ t) ts)
theorem argsC_size (ts : List T) : ∀ acc, (argsC acc ts).size = acc.size + (ts.map T.size).sum + ts.length := by
  induction ts with
  | nil => intro acc; rfl
  | cons t r ih => intro acc; rw [argsC, ih]; simp [T.size]; omega
theorem callT_size (s : Bytes) (ts : List T) : (callT s ts).size = 1 + (ts.map T.size).sum + ts.length := by
  cases ts with
  | nil => rfl
  | cons t r => rw [callT, T.size, argsC_size]; simp [T.size]; omega
theorem callF_chain (ts : List T) : ∀ acc : T, acc.size + (ts.map T.size).sum + ts.length ≤ 1000000 →
    (ts.map (fun t => t.flat 0)).foldl callStep (acc.flat 0, (acc.size : Int) - 1) = ((argsC acc ts).flat 0, ((argsC acc ts).size : Int) - 1) := by
  induction ts with
  | nil => intro acc _; rfl
  | cons t r ih =>
    intro acc h
    simp only [List.map_cons, List.sum_cons, List.length_cons] at h
    have := acc.size_pos; have := t.size_pos
    rw [List.map_cons, List.foldl_cons]
    have e : callStep (acc.flat 0, (acc.size : Int) - 1) (t.flat 0) = ((T.l2 ⟨28, 0, []⟩ acc t).flat 0, ((T.l2 ⟨28, 0, []⟩ acc t).size : Int) - 1) := by
      unfold callStep
      simp only
      rw [behind_flat _ _ (by rw [T.flat_len]; omega), List.length_append, T.flat_len, T.flat_len]
      simp only [T.flat, T.size, overM, mkL, Nat.zero_add]
      simp
      omega
    rw [e, ih _ (by simp only [T.size]; omega)]
    rfl
theorem joinM_call (s : Bytes) (ts : List T) (h : (callT s ts).size ≤ 1000000) : joinM 27 0 s (ts.map (fun t => t.flat 0)) = (callT s ts).flat 0 := by
  have hany : (ts.map (fun t => t.flat 0)).any List.isEmpty = false := by
    rw [List.any_map]; simp only [List.any_eq_false]; intro t _; simpa using flat_ne t 0
  unfold joinM
  rw [hany]
  simp only [Bool.false_eq_true, if_false, if_true]
  rw [if_neg (by decide)]
  cases ts with
  | nil => simp [callM, callF, callT, T.flat, overM, mkL]
  | cons t r =>
    rw [callT_size] at h
    simp only [List.map_cons, List.sum_cons, List.length_cons] at h
    have := t.size_pos
    unfold callM callF
    rw [List.map_cons, List.foldl_cons]
    have e : callStep ([], -1) (t.flat 0) = ((T.l1 ⟨28, 0, []⟩ t).flat 0, ((T.l1 ⟨28, 0, []⟩ t).size : Int) - 1) := by
      unfold callStep
      simp only
      rw [behind_flat _ _ (by simp; omega)]
      simp only [List.nil_append, List.length_nil, T.flat_len, T.flat, T.size, overM, mkL, Nat.zero_add]
      simp
      omega
    rw [e, callF_chain _ _ (by simp only [T.size]; omega)]
    simp only [callT, T.flat, T.size, overM, mkL, Nat.zero_add]
    have hp := (argsC (.l1 ⟨28, 0, []⟩ t) r).size_pos
    simp
    omega
theorem lay1 (a : T) (h : a.size ≤ 1000000) : layF [a.flat 0] = (a.flat 0, [(a.size : Int) - 1]) := by
  simp only [layF, List.foldl_cons, List.foldl_nil, layStep]
  rw [behind_flat _ _ (by simp; omega)]
  simp [T.flat_len]
theorem lay2 (a b : T) (h : a.size + b.size ≤ 1000000) : layF [a.flat 0, b.flat 0] = (a.flat 0 ++ b.flat a.size, [(a.size : Int) - 1, (a.size : Int) + (b.size : Int) - 1]) := by
  simp only [layF, List.foldl_cons, List.foldl_nil, layStep]
  rw [behind_flat [] a (by simp; omega)]
  rw [behind_flat _ b (by simp [T.flat_len]; omega)]
  simp [T.flat_len]
theorem lay3 (a b c : T) (h : a.size + b.size + c.size ≤ 1000000) : layF [a.flat 0, b.flat 0, c.flat 0] = (a.flat 0 ++ b.flat a.size ++ c.flat (a.size + b.size), [(a.size : Int) - 1, (a.size : Int) + (b.size : Int) - 1, (a.size : Int) + (b.size : Int) + (c.size : Int) - 1]) := by
  simp only [layF, List.foldl_cons, List.foldl_nil, layStep]
  rw [behind_flat [] a (by simp; omega)]
  rw [behind_flat _ b (by simp [T.flat_len]; omega)]
  rw [behind_flat _ c (by simp [T.flat_len]; omega)]
  simp [T.flat_len]; omega
theorem joinM_eq (o n : Int) (s : Bytes) (ls : List (List Nd)) (h0 : ls.any List.isEmpty = false) (h27 : o ≠ 27) (h28 : o ≠ 28) (hk : (kidsM (overM o n s [])).length = ls.length) :
    joinM o n s ls = (layF ls).1 ++ [overM o n s (layF ls).2] := by
  unfold joinM
  rw [h0, if_neg h28, if_neg h27, if_pos hk]; simp
theorem flat_any (ts : List T) : (ts.map (fun t => t.flat 0)).any List.isEmpty = false := by
  rw [List.any_map]; simp only [List.any_eq_false]; intro t _; simpa using flat_ne t 0
theorem kids_un (o n : Int) (s : Bytes) (h : unaryB o = true) : (kidsM (overM o n s [])).length = 1 := by simp [kidsM, overM, h]
theorem kids_bin (o n : Int) (s : Bytes) (h : binaryB o = true) : (kidsM (overM o n s [])).length = 2 := by
  have hb := h
  simp [binaryB] at hb
  have hu : unaryB o = false := by simp [unaryB]; omega
  have e26 : o ≠ 26 := by omega
  have e27 : o ≠ 27 := by omega
  have e28 : o ≠ 28 := by omega
  simp [kidsM, overM, hu, h, e26, e27, e28]
theorem kids_leaf (o n : Int) (s : Bytes) (h : 1 ≤ o ∧ o ≤ 3) : (kidsM (overM o n s [])).length = 0 := by
  have hu : unaryB o = false := by simp [unaryB]; omega
  have hb : binaryB o = false := by simp [binaryB]; omega
  have e26 : o ≠ 26 := by omega
  have e27 : o ≠ 27 := by omega
  have e28 : o ≠ 28 := by omega
  simp [kidsM, overM, hu, hb, e26, e27, e28]
theorem joinM_leaf (o n : Int) (s : Bytes) (h : 1 ≤ o ∧ o ≤ 3) : joinM o n s [] = (T.l0 ⟨o, n, s⟩).flat 0 := by
  rw [joinM_eq o n s [] rfl (by omega) (by omega) (kids_leaf o n s h)]
  simp [layF, T.flat, overM, mkL]
theorem joinM_un (o n : Int) (s : Bytes) (a : T) (h : unaryB o = true) (hs : a.size ≤ 1000000) : joinM o n s [a.flat 0] = (T.l1 ⟨o, n, s⟩ a).flat 0 := by
  have hu := h
  simp [unaryB] at hu
  rw [joinM_eq o n s [a.flat 0] (by simpa using flat_any [a]) (by omega) (by omega) (kids_un o n s h), lay1 a hs]
  have := a.size_pos
  simp [T.flat, overM, mkL]; omega
theorem joinM_bin (o n : Int) (s : Bytes) (a b : T) (h : binaryB o = true) (hs : a.size + b.size ≤ 1000000) : joinM o n s [a.flat 0, b.flat 0] = (T.l2 ⟨o, n, s⟩ a b).flat 0 := by
  have hu := h
  simp [binaryB] at hu
  rw [joinM_eq o n s [a.flat 0, b.flat 0] (by simpa using flat_any [a, b]) (by omega) (by omega) (kids_bin o n s h), lay2 a b hs]
  have := a.size_pos; have := b.size_pos
  have h28 : o ≠ 28 := by omega
  simp [T.flat, overM, mkL, h28]; omega
theorem joinM_if (n : Int) (s : Bytes) (a b c : T) (hs : a.size + b.size + c.size ≤ 1000000) : joinM 26 n s [a.flat 0, b.flat 0, c.flat 0] = (T.l3 ⟨26, n, s⟩ a b c).flat 0 := by
  rw [joinM_eq 26 n s [a.flat 0, b.flat 0, c.flat 0] (by simpa using flat_any [a, b, c]) (by decide) (by decide) (by simp [kidsM, overM, unaryB]), lay3 a b c hs]
  have := a.size_pos; have := b.size_pos; have := c.size_pos
  simp [T.flat, overM, mkL]; omega
def ptOf (t : T) : Pt := ⟨if t.size ≤ 5000 ∧ t.depth ≤ 40 then t.flat 0 else [], t.size, t.depth⟩
theorem ptOf_zero_op (o n : Int) (s : Bytes) (h : 1 ≤ o ∧ o ≤ 3) : joined o n s [] = ptOf (.l0 ⟨o, n, s⟩) := by
  unfold joined ptOf
  have e : nodesOf o [] = 1 := rfl
  have e2 : deepOf o [] = 1 := rfl
  rw [e, e2, if_pos (by omega), List.map_nil, joinM_leaf o n s h]
  simp [T.size, T.depth]
theorem ptOf_un (o n : Int) (s : Bytes) (a : T) (h : unaryB o = true) : joined o n s [ptOf a] = ptOf (.l1 ⟨o, n, s⟩ a) := by
  have hu := h
  simp [unaryB] at hu
  have h27 : o ≠ 27 := by omega
  unfold joined
  have e : nodesOf o [ptOf a] = (T.l1 ⟨o, n, s⟩ a).size := by rw [nodes_eq, if_neg h27]; simp [ptOf, T.size]; omega
  have e2 : deepOf o [ptOf a] = (T.l1 ⟨o, n, s⟩ a).depth := by simp [deepOf, ptOf, h27, T.depth]; omega
  rw [e, e2]
  show Pt.mk _ _ _ = Pt.mk _ _ _
  congr 1
  by_cases hs : (T.l1 ⟨o, n, s⟩ a).size ≤ 5000 ∧ (T.l1 ⟨o, n, s⟩ a).depth ≤ 40
  · rw [if_pos hs, if_pos hs]
    simp only [T.size, T.depth] at hs
    simp only [List.map_cons, List.map_nil, ptOf]
    rw [if_pos (by omega)]
    exact joinM_un o n s a h (by omega)
  · rw [if_neg hs, if_neg hs]
theorem ptOf_bin (o n : Int) (s : Bytes) (a b : T) (h : binaryB o = true) : joined o n s [ptOf a, ptOf b] = ptOf (.l2 ⟨o, n, s⟩ a b) := by
  have hu := h
  simp [binaryB] at hu
  have h27 : o ≠ 27 := by omega
  unfold joined
  have e : nodesOf o [ptOf a, ptOf b] = (T.l2 ⟨o, n, s⟩ a b).size := by rw [nodes_eq, if_neg h27]; simp [ptOf, T.size]; omega
  have e2 : deepOf o [ptOf a, ptOf b] = (T.l2 ⟨o, n, s⟩ a b).depth := by simp [deepOf, ptOf, h27, T.depth]; omega
  rw [e, e2]
  show Pt.mk _ _ _ = Pt.mk _ _ _
  congr 1
  by_cases hs : (T.l2 ⟨o, n, s⟩ a b).size ≤ 5000 ∧ (T.l2 ⟨o, n, s⟩ a b).depth ≤ 40
  · rw [if_pos hs, if_pos hs]
    simp only [T.size, T.depth] at hs
    simp only [List.map_cons, List.map_nil, ptOf]
    rw [if_pos (by omega), if_pos (by omega)]
    exact joinM_bin o n s a b h (by omega)
  · rw [if_neg hs, if_neg hs]
theorem ptOf_if (n : Int) (s : Bytes) (a b c : T) : joined 26 n s [ptOf a, ptOf b, ptOf c] = ptOf (.l3 ⟨26, n, s⟩ a b c) := by
  unfold joined
  have e : nodesOf 26 [ptOf a, ptOf b, ptOf c] = (T.l3 ⟨26, n, s⟩ a b c).size := by rw [nodes_eq, if_neg (by decide)]; simp [ptOf, T.size]; omega
  have e2 : deepOf 26 [ptOf a, ptOf b, ptOf c] = (T.l3 ⟨26, n, s⟩ a b c).depth := by simp [deepOf, ptOf, T.depth]; omega
  rw [e, e2]
  show Pt.mk _ _ _ = Pt.mk _ _ _
  congr 1
  by_cases hs : (T.l3 ⟨26, n, s⟩ a b c).size ≤ 5000 ∧ (T.l3 ⟨26, n, s⟩ a b c).depth ≤ 40
  · rw [if_pos hs, if_pos hs]
    simp only [T.size, T.depth] at hs
    simp only [List.map_cons, List.map_nil, ptOf]
    rw [if_pos (by omega), if_pos (by omega), if_pos (by omega)]
    exact joinM_if n s a b c (by omega)
  · rw [if_neg hs, if_neg hs]
theorem argsC_deep (ts : List T) : ∀ acc : T, (ts.map ptOf).foldl (fun (a : Nat) (p : Pt) => max a (1 + p.deep) + if (27 : Int) = 27 then 1 else 0) (acc.depth + 1) = (argsC acc ts).depth + 1 := by
  induction ts with
  | nil => intro acc; rfl
  | cons t r ih =>
    intro acc
    rw [List.map_cons, List.foldl_cons]
    have e : (max (acc.depth + 1) (1 + (ptOf t).deep) + if (27 : Int) = 27 then 1 else 0) = (T.l2 ⟨28, 0, []⟩ acc t).depth + 1 := by
      simp only [T.depth, ptOf, if_true]; omega
    rw [e, ih]; rfl
theorem callT_deep (s : Bytes) (ts : List T) : deepOf 27 (ts.map ptOf) = (callT s ts).depth := by
  cases ts with
  | nil => rfl
  | cons t r =>
    unfold deepOf
    rw [List.map_cons, List.foldl_cons]
    have e : (max 1 (1 + (ptOf t).deep) + if (27 : Int) = 27 then 1 else 0) = (T.l1 ⟨28, 0, []⟩ t).depth + 1 := by
      simp only [T.depth, ptOf, if_true]; omega
    rw [e, argsC_deep]; rfl
theorem argsC_parts (ts : List T) : ∀ acc : T, acc.depth ≤ (argsC acc ts).depth ∧ ∀ t ∈ ts, t.depth ≤ (argsC acc ts).depth := by
  induction ts with
  | nil => intro acc; exact ⟨Nat.le_refl _, by simp⟩
  | cons t r ih =>
    intro acc
    have := ih (.l2 ⟨28, 0, []⟩ acc t)
    rw [argsC]
    simp only [T.depth] at this
    refine ⟨by omega, fun u hu => ?_⟩
    rcases List.mem_cons.1 hu with rfl | hu
    · omega
    · exact this.2 u hu
theorem callT_parts (s : Bytes) (ts : List T) : ∀ t ∈ ts, t.depth ≤ (callT s ts).depth ∧ t.size ≤ (callT s ts).size := by
  intro u hu
  have h2 : u.size ≤ (ts.map T.size).sum := by
    clear s
    induction ts with
    | nil => simp at hu
    | cons t r ih =>
      rw [List.map_cons, List.sum_cons]
      rcases List.mem_cons.1 hu with rfl | hu
      · omega
      · have := ih hu; omega
  refine ⟨?_, by rw [callT_size]; omega⟩
  cases ts with
  | nil => simp at hu
  | cons t r =>
    have := argsC_parts r (.l1 ⟨28, 0, []⟩ t)
    simp only [T.depth] at this
    rw [callT]
    simp only [T.depth]
    rcases List.mem_cons.1 hu with rfl | hu
    · omega
    · have := this.2 u hu; omega
theorem ptOf_call (s : Bytes) (ts : List T) : joined 27 0 s (ts.map ptOf) = ptOf (callT s ts) := by
  unfold joined
  have e : nodesOf 27 (ts.map ptOf) = (callT s ts).size := by
    rw [nodes_eq, if_pos rfl, callT_size, List.map_map, List.length_map]; rfl
  rw [e, callT_deep s]
  show Pt.mk _ _ _ = Pt.mk _ _ _
  congr 1
  by_cases hs : (callT s ts).size ≤ 5000 ∧ (callT s ts).depth ≤ 40
  · rw [if_pos hs, if_pos hs]
    rw [List.map_map]
    have : ts.map (Pt.e ∘ ptOf) = ts.map (fun t => t.flat 0) := List.map_congr_left fun t ht => by
      have := callT_parts s ts t ht
      simp only [Function.comp, ptOf]
      rw [if_pos (by omega)]
    rw [this]
    exact joinM_call s ts (by omega)
  · rw [if_neg hs, if_neg hs]
def okT (t : T) : Prop := t.okB = true ∧ t.lab.op ≠ 28
def okP (p : Pt) : Prop := ∃ t, okT t ∧ p = ptOf t
theorem ok_leaf (o n : Int) (s : Bytes) (h : 1 ≤ o ∧ o ≤ 3) (hp : plainB ⟨o, n, s⟩ = true) : okP (joined o n s []) := by
  refine ⟨_, ⟨?_, ?_⟩, ptOf_zero_op o n s h⟩
  · simp only [T.okB, hp, Bool.true_and]
    have hu : unaryB o = false := by simp [unaryB]; omega
    have hb : binaryB o = false := by simp [binaryB]; omega
    have e26 : o ≠ 26 := by omega
    have e27 : o ≠ 27 := by omega
    have e28 : o ≠ 28 := by omega
    simp [fitsB, hu, hb, e26, e27, e28]
  · simp [T.lab]; omega
theorem ok_un (o n : Int) (a : Pt) (h : unaryB o = true) (hp : plainB ⟨o, n, []⟩ = true) (ha : okP a) : okP (joined o n [] [a]) := by
  obtain ⟨t, ⟨h1, h2⟩, rfl⟩ := ha
  have hu := h
  simp [unaryB] at hu
  have e27 : o ≠ 27 := by omega
  refine ⟨_, ⟨?_, by simp [T.lab]; omega⟩, ptOf_un o n [] t h⟩
  have b1 : (t.lab.op == 28) = false := by simpa using h2
  have b2 : (o == 27) = false := by simpa using e27
  simp [T.okB, hp, fitsB, h, argsT, argsL, h1, b1, b2]
theorem plain_op (o : Int) (h : 4 ≤ o ∧ o ≤ 24) : plainB ⟨o, 0, []⟩ = true := by
  have e1 : o ≠ 1 := by omega
  have e2 : o ≠ 2 := by omega
  have e3 : o ≠ 3 := by omega
  have e25 : o ≠ 25 := by omega
  have e27 : o ≠ 27 := by omega
  simp [plainB, e1, e2, e3, e25, e27]; omega
theorem ok_bin (o : Int) (a b : Pt) (h : binaryB o = true) (ha : okP a) (hb : okP b) : okP (joined o 0 [] [a, b]) := by
  obtain ⟨t, ⟨h1, h2⟩, rfl⟩ := ha
  obtain ⟨u, ⟨h3, h4⟩, rfl⟩ := hb
  have hu := h
  simp [binaryB] at hu
  have hun : unaryB o = false := by simp [unaryB]; omega
  have e26 : o ≠ 26 := by omega
  have e27 : o ≠ 27 := by omega
  have e28 : o ≠ 28 := by omega
  have hp := plain_op o (by omega)
  refine ⟨_, ⟨?_, by simp [T.lab]; omega⟩, ptOf_bin o 0 [] t u h⟩
  have b1 : (t.lab.op == 28) = false := by simpa using h2
  have b3 : (u.lab.op == 28) = false := by simpa using h4
  have b2 : (o == 27) = false := by simpa using e27
  have b4 : (o == 28) = false := by simpa using e28
  simp [T.okB, hp, fitsB, h, hun, argsT, argsL, h1, h3, b1, b2, b3, b4, e26, e27, e28]
theorem ok_if (a b c : Pt) (ha : okP a) (hb : okP b) (hc : okP c) : okP (joined 26 0 [] [a, b, c]) := by
  obtain ⟨t, ⟨h1, h2⟩, rfl⟩ := ha
  obtain ⟨u, ⟨h3, h4⟩, rfl⟩ := hb
  obtain ⟨v, ⟨h5, h6⟩, rfl⟩ := hc
  refine ⟨_, ⟨?_, by simp [T.lab]⟩, ptOf_if 0 [] t u v⟩
  simp [T.okB, plainB, fitsB, unaryB, argsT, argsL, h1, h2, h3, h4, h5, h6]
theorem argsC_ok (ts : List T) (h : ∀ t ∈ ts, okT t) : ∀ acc : T, acc.okB = true → acc.lab.op = 28 → (argsC acc ts).okB = true ∧ (argsC acc ts).lab.op = 28 := by
  induction ts with
  | nil => intro acc h1 h2; exact ⟨h1, h2⟩
  | cons t r ih =>
    intro acc h1 h2
    have ht := h t (by simp)
    refine ih (fun u hu => h u (by simp [hu])) _ ?_ rfl
    have h3 := ht.1
    have h4 := ht.2
    simp [T.okB, plainB, fitsB, unaryB, argsT, argsL, h1, h2, h3, h4]
theorem ok_call (s : Bytes) (ps : List Pt) (hs : s ≠ []) (h : ∀ p ∈ ps, okP p) : okP (joined 27 0 s ps) := by
  obtain ⟨ts, hts, rfl⟩ : ∃ ts : List T, (∀ t ∈ ts, okT t) ∧ ps = ts.map ptOf := by
    induction ps with
    | nil => exact ⟨[], by simp, rfl⟩
    | cons p r ih =>
      obtain ⟨t, ht, rfl⟩ := h p (by simp)
      obtain ⟨ts, h1, rfl⟩ := ih (fun q hq => h q (by simp [hq]))
      exact ⟨t :: ts, by intro u hu; rcases List.mem_cons.1 hu with rfl | hu; exact ht; exact h1 u hu, rfl⟩
  have hp : plainB ⟨27, 0, s⟩ = true := by simp [plainB, hs]
  refine ⟨_, ⟨?_, ?_⟩, ptOf_call s ts⟩
  · cases ts with
    | nil => simp [callT, T.okB, hp, fitsB, unaryB]
    | cons t r =>
      have ht := hts t (by simp)
      have := argsC_ok r (fun u hu => hts u (by simp [hu])) (.l1 ⟨28, 0, []⟩ t) (by simp [T.okB, plainB, fitsB, unaryB, argsT, argsL, ht.1, ht.2]) rfl
      simp [callT, T.okB, hp, fitsB, unaryB, argsT, argsL, this.1, this.2]
  · cases ts <;> simp [callT, T.lab]
def binB (s : Int × Bool) : Bool := binaryB s.1
theorem signs_bin (n : Nat) (h : n ≤ 8) : ∀ x ∈ signsM n, binB x.2 = true := by
  match n, h with
  | 0, _ => simp [signsM]
  | 1, _ => decide
  | 2, _ => decide
  | 3, _ => decide
  | 4, _ => decide
  | 5, _ => decide
  | 6, _ => decide
  | 7, _ => decide
  | 8, _ => decide
theorem sign_bin {r : Rd} {n : Nat} {s : Int × Bool} (hn : n ≤ 8) (h : r.sign n = some s) : binaryB s.1 = true := by
  unfold Rd.sign at h
  split at h
  · exact signs_bin n hn _ (lookup_mem _ _ _ h)
  · cases h
def unB (s : Int × Bool) : Bool := unaryB s.1 && decide (4 ≤ s.1) && decide (s.1 ≤ 25)
theorem signs_un : ∀ x ∈ signsM 9, unB x.2 = true := by decide
theorem sign_un {r : Rd} {s : Int × Bool} (h : r.sign 9 = some s) : unaryB s.1 = true := by
  unfold Rd.sign at h
  split at h
  · have := signs_un _ (lookup_mem _ _ _ h); simp [unB] at this; exact this.1.1
  · cases h
theorem ok_sjoin (s : Int × Bool) (a b : Pt) (h : binaryB s.1 = true) (ha : okP a) (hb : okP b) : okP (sjoin s a b) := by
  unfold sjoin
  split
  · exact ok_bin _ _ _ h hb ha
  · exact ok_bin _ _ _ h ha hb
theorem ok_foldR : ∀ (ps : List Pt) (ops : List (Int × Bool)), ps.length = ops.length + 1 → (∀ p ∈ ps, okP p) → (∀ s ∈ ops, binaryB s.1 = true) → okP (foldR ps ops)
  | p :: ps, o :: os, h, h1, h2 => ok_sjoin o p _ (h2 o (by simp)) (h1 p (by simp)) (ok_foldR ps os (by simpa using h) (fun q hq => h1 q (by simp [hq])) (fun q hq => h2 q (by simp [hq])))
  | p :: _, [], _, h1, _ => h1 p (by simp)
  | [], _, h, _, _ => by simp at h
def Task.tree (r : Rd) : Task → Prop
  | .lev n => n ≤ 9
  | .rl n ps ops => n ≤ 8 ∧ (∀ p ∈ ps, okP p) ∧ (∀ s ∈ ops, binaryB s.1 = true) ∧ ps.length = ops.length + 1
  | .ll n p => n ≤ 8 ∧ okP p
  | .named s => s ≠ []
  | .args s ps => s ≠ [] ∧ ∀ p ∈ ps, okP p
  | _ => True
theorem fail_code (e : Int) (he : e ≠ 0) (r : Rd) : (r.fail e).code ≠ 0 := by
  unfold Rd.fail; split
  · exact he
  · assumption
theorem run_code : ∀ (f : Nat) (t : Task) (r : Rd) (p : Pt) (r' : Rd), run f t r = some (p, r') → r.code ≠ 0 → r'.code = r.code ∧ r'.at_ = r.at_ := by
  have fl : ∀ (e : Int) (r : Rd), r.code ≠ 0 → (r.fail e).code = r.code ∧ (r.fail e).at_ = r.at_ := fun e r h => by unfold Rd.fail; rw [if_neg h]; exact ⟨rfl, rfl⟩
  have nd : ∀ (s : Bytes) (r : Rd), r.code ≠ 0 → (r.need s).code = r.code ∧ (r.need s).at_ = r.at_ := fun s r h => by
    unfold Rd.need; split
    · exact ⟨rfl, rfl⟩
    · exact fl 5 r h
  have nm : ∀ (m : Nat) (r : Rd), r.code ≠ 0 → (r.numR m).code = r.code ∧ (r.numR m).at_ = r.at_ := fun m r h => by
    unfold Rd.numR; split
    · exact ⟨rfl, rfl⟩
    · exact fl 5 r h
  intro f
  induction f with
  | zero => intro t r p r' h; cases h
  | succ f ih =>
    intro t r p r' h hc
    have IH : ∀ {t : Task} {r1 : Rd} {p : Pt} {r' : Rd}, run f t r1 = some (p, r') → (r1.code = r.code ∧ r1.at_ = r.at_) → r'.code = r.code ∧ r'.at_ = r.at_ := fun h1 h2 => by
      have := ih _ _ _ _ h1 (by rw [h2.1]; exact hc)
      exact ⟨this.1.trans h2.1, this.2.trans h2.2⟩
    have N : ∀ (s : Bytes) {r1 : Rd}, (r1.code = r.code ∧ r1.at_ = r.at_) → (r1.need s).code = r.code ∧ (r1.need s).at_ = r.at_ := fun s {r1} h2 => by
      have := nd s r1 (by rw [h2.1]; exact hc)
      exact ⟨this.1.trans h2.1, this.2.trans h2.2⟩
    cases t with
    | lev n =>
      simp only [run] at h
      split at h
      · exact IH h ⟨rfl, rfl⟩
      · obtain ⟨⟨q, r1⟩, h1, h2⟩ := bind_some h
        simp only at h2
        split at h2 <;> exact IH h2 (IH h1 ⟨rfl, rfl⟩)
    | rl n ps ops =>
      simp only [run] at h
      split at h
      · simp only [Option.some.injEq, Prod.mk.injEq] at h
        obtain ⟨rfl, rfl⟩ := h; exact ⟨rfl, rfl⟩
      · obtain ⟨⟨q, r1⟩, h1, h2⟩ := bind_some h
        exact IH h2 (IH h1 ⟨rfl, rfl⟩)
    | ll n p0 =>
      simp only [run] at h
      split at h
      · simp only [Option.some.injEq, Prod.mk.injEq] at h
        obtain ⟨rfl, rfl⟩ := h; exact ⟨rfl, rfl⟩
      · obtain ⟨⟨q, r1⟩, h1, h2⟩ := bind_some h
        simp only at h2
        split at h2
        · simp only [Option.some.injEq, Prod.mk.injEq] at h2
          obtain ⟨rfl, rfl⟩ := h2; exact IH h1 ⟨rfl, rfl⟩
        · exact IH h2 (IH h1 ⟨rfl, rfl⟩)
    | opnd =>
      simp only [run] at h
      split at h
      · simp only [Option.some.injEq, Prod.mk.injEq] at h
        obtain ⟨rfl, rfl⟩ := h; exact fl 6 r hc
      · split at h
        · obtain ⟨⟨q, r1⟩, h1, h2⟩ := map_some h
          simp only [Prod.mk.injEq] at h2
          obtain ⟨rfl, rfl⟩ := h2
          exact IH (r' := r1) h1 ⟨rfl, rfl⟩
        · obtain ⟨⟨q, r1⟩, h1, h2⟩ := map_some h
          simp only [Prod.mk.injEq] at h2
          obtain ⟨rfl, rfl⟩ := h2
          refine IH (r' := r1) h1 ?_
          split
          · exact nm 1000 r.open_.adv hc
          · exact ⟨rfl, rfl⟩
    | single =>
      simp only [run] at h
      split at h
      · obtain ⟨⟨q, r1⟩, h1, h2⟩ := map_some h
        simp only [Prod.mk.injEq] at h2
        obtain ⟨rfl, rfl⟩ := h2
        exact N _ (IH h1 ⟨rfl, rfl⟩)
      · split at h
        · obtain ⟨⟨a, r1⟩, h1, h⟩ := bind_some h
          obtain ⟨⟨b, r2⟩, h2, h⟩ := bind_some h
          obtain ⟨⟨c, r3⟩, h3, h⟩ := map_some h
          simp only [Prod.mk.injEq] at h
          obtain ⟨rfl, rfl⟩ := h
          exact IH h3 (N _ (IH h2 (N _ (IH h1 ⟨rfl, rfl⟩))))
        · split at h
          · simp only [Option.some.injEq, Prod.mk.injEq] at h
            obtain ⟨rfl, rfl⟩ := h; exact ⟨rfl, rfl⟩
          · split at h
            · simp only [Option.some.injEq, Prod.mk.injEq] at h
              obtain ⟨rfl, rfl⟩ := h; exact ⟨rfl, rfl⟩
            · split at h
              · simp only [Option.some.injEq, Prod.mk.injEq] at h
                obtain ⟨rfl, rfl⟩ := h; exact nm _ r hc
              · split at h
                · exact IH h ⟨rfl, rfl⟩
                · simp only [Option.some.injEq, Prod.mk.injEq] at h
                  obtain ⟨rfl, rfl⟩ := h; exact fl 5 r hc
    | named s =>
      simp only [run] at h
      split at h
      · split at h
        · simp only [Option.some.injEq, Prod.mk.injEq] at h
          obtain ⟨rfl, rfl⟩ := h; exact ⟨rfl, rfl⟩
        · obtain ⟨⟨q, r1⟩, h1, h2⟩ := bind_some h
          exact IH h2 (IH h1 ⟨rfl, rfl⟩)
      · simp only [Option.some.injEq, Prod.mk.injEq] at h
        obtain ⟨rfl, rfl⟩ := h; exact ⟨rfl, rfl⟩
    | args s ps =>
      simp only [run] at h
      split at h
      · obtain ⟨⟨q, r1⟩, h1, h2⟩ := bind_some h
        exact IH h2 (IH h1 ⟨rfl, rfl⟩)
      · simp only [Option.some.injEq, Prod.mk.injEq] at h
        obtain ⟨rfl, rfl⟩ := h; exact nd rp r hc
theorem run_ok0 {f : Nat} {t : Task} {r : Rd} {p : Pt} {r' : Rd} (h : run f t r = some (p, r')) (hc : r'.code = 0) : r.code = 0 := by
  apply Classical.byContradiction
  intro h0
  exact h0 ((run_code f t r p r' h h0).1.symm.trans hc)
theorem need_ok {s : Bytes} {r : Rd} (h : (r.need s).code = 0) : r.isB s = true ∧ r.need s = r.adv := by
  unfold Rd.need at h ⊢
  split at h
  · rename_i hb; exact ⟨hb, by rw [if_pos hb]⟩
  · exact absurd h (fail_code 5 (by decide) r)
theorem numR_ok {m : Nat} {r : Rd} (h : (r.numR m).code = 0) : numB m r.cur = true ∧ r.numR m = r.adv ∧ r.num m = Lx.val r.cur.text := by
  unfold Rd.numR at h ⊢
  split at h
  · rename_i hb; exact ⟨hb, by rw [if_pos hb], by unfold Rd.num; rw [if_pos hb]⟩
  · exact absurd h (fail_code 5 (by decide) r)
theorem run_tree : ∀ (f : Nat) (t : Task) (r : Rd) (p : Pt) (r' : Rd), run f t r = some (p, r') → r'.code = 0 → t.tree r → okP p := by
  intro f
  induction f with
  | zero => intro t r p r' h; cases h
  | succ f ih =>
    intro t r p r' h hc ht
    cases t with
    | lev n =>
      simp only [run] at h
      simp only [Task.tree] at ht
      split at h
      · exact ih .opnd _ _ _ h hc trivial
      · obtain ⟨⟨q, r1⟩, h1, h2⟩ := bind_some h
        simp only at h2
        split at h2
        · exact ih _ _ _ _ h2 hc ⟨by omega, by simpa using ih _ _ _ _ h1 (run_ok0 h2 hc) (by simp only [Task.tree]; omega), by simp, rfl⟩
        · exact ih _ _ _ _ h2 hc ⟨by omega, ih _ _ _ _ h1 (run_ok0 h2 hc) (by simp only [Task.tree]; omega)⟩
    | rl n ps ops =>
      simp only [run] at h
      obtain ⟨hn, h1, h2, h3⟩ := ht
      split at h
      · simp only [Option.some.injEq, Prod.mk.injEq] at h
        obtain ⟨rfl, rfl⟩ := h; exact ok_foldR _ _ h3 h1 h2
      · rename_i s hs
        obtain ⟨⟨q, r1⟩, k1, k2⟩ := bind_some h
        have hq := ih _ _ _ _ k1 (run_ok0 k2 hc) (by simp only [Task.tree]; omega)
        exact ih _ _ _ _ k2 hc ⟨hn, by intro x hx; simp at hx; rcases hx with hx | hx; exact h1 x hx; subst hx; exact hq, by intro x hx; simp at hx; rcases hx with hx | hx; exact h2 x hx; subst hx; exact sign_bin hn hs, by simp [h3]⟩
    | ll n p0 =>
      simp only [run] at h
      obtain ⟨hn, h1⟩ := ht
      split at h
      · simp only [Option.some.injEq, Prod.mk.injEq] at h
        obtain ⟨rfl, rfl⟩ := h; exact h1
      · rename_i s hs
        obtain ⟨⟨q, r1⟩, k1, k2⟩ := bind_some h
        simp only at k2
        split at k2
        · simp only [Option.some.injEq, Prod.mk.injEq] at k2
          obtain ⟨rfl, rfl⟩ := k2
          exact ok_sjoin _ _ _ (sign_bin hn hs) h1 (ih _ _ _ _ k1 hc (by simp only [Task.tree]; omega))
        · exact ih _ _ _ _ k2 hc ⟨hn, ok_sjoin _ _ _ (sign_bin hn hs) h1 (ih _ _ _ _ k1 (run_ok0 k2 hc) (by simp only [Task.tree]; omega))⟩
    | opnd =>
      simp only [run] at h
      split at h
      · simp only [Option.some.injEq, Prod.mk.injEq] at h
        obtain ⟨rfl, rfl⟩ := h; exact absurd hc (fail_code 6 (by decide) r)
      · split at h
        · obtain ⟨⟨q, r1⟩, h1, h2⟩ := map_some h
          simp only [Prod.mk.injEq] at h2
          obtain ⟨rfl, rfl⟩ := h2
          exact ih .single _ _ _ h1 hc trivial
        · rename_i s hs
          obtain ⟨⟨q, r1⟩, h1, h2⟩ := map_some h
          simp only [Prod.mk.injEq] at h2
          obtain ⟨rfl, rfl⟩ := h2
          have hq := ih .opnd _ _ _ h1 hc trivial
          have hu := sign_un hs
          have hso := sign_ops hs
          refine ok_un _ _ _ hu ?_ hq
          split
          · rename_i h25
            rw [if_pos h25] at h1
            obtain ⟨hb, _, hv⟩ := numR_ok (run_ok0 h1 hc)
            rw [hv]
            simp [numB] at hb
            have := hb.2
            rw [h25]
            simp [plainB]; omega
          · exact plain_op _ (by omega)
    | single =>
      simp only [run] at h
      split at h
      · obtain ⟨⟨q, r1⟩, h1, h2⟩ := map_some h
        simp only [Prod.mk.injEq] at h2
        obtain ⟨rfl, rfl⟩ := h2
        have := need_ok hc
        rw [this.2] at hc
        exact ih _ _ _ _ h1 hc (by simp [Task.tree])
      · split at h
        · obtain ⟨⟨a, r1⟩, h1, h⟩ := bind_some h
          obtain ⟨⟨b, r2⟩, h2, h⟩ := bind_some h
          obtain ⟨⟨c, r3⟩, h3, h⟩ := map_some h
          simp only [Prod.mk.injEq] at h
          obtain ⟨rfl, rfl⟩ := h
          have c2 := run_ok0 h3 hc
          rw [(need_ok c2).2] at c2
          have c1 := run_ok0 h2 c2
          rw [(need_ok c1).2] at c1
          exact ok_if _ _ _ (ih _ _ _ _ h1 c1 (by simp [Task.tree])) (ih _ _ _ _ h2 c2 (by simp [Task.tree])) (ih _ _ _ _ h3 hc (by simp [Task.tree]))
        · split at h
          · simp only [Option.some.injEq, Prod.mk.injEq] at h
            obtain ⟨rfl, rfl⟩ := h; exact ok_leaf 2 1 [] (by decide) (by decide)
          · split at h
            · simp only [Option.some.injEq, Prod.mk.injEq] at h
              obtain ⟨rfl, rfl⟩ := h; exact ok_leaf 2 0 [] (by decide) (by decide)
            · split at h
              · simp only [Option.some.injEq, Prod.mk.injEq] at h
                obtain ⟨rfl, rfl⟩ := h
                obtain ⟨hb, _, hv⟩ := numR_ok hc
                rw [hv]
                simp [numB] at hb
                exact ok_leaf 1 _ [] (by decide) (by simp [plainB]; omega)
              · split at h
                · rename_i hk
                  exact ih (.named r.cur.text) _ _ _ h hc hk.2
                · simp only [Option.some.injEq, Prod.mk.injEq] at h
                  obtain ⟨rfl, rfl⟩ := h; exact absurd hc (fail_code 5 (by decide) r)
    | named s =>
      simp only [run] at h
      simp only [Task.tree] at ht
      split at h
      · split at h
        · simp only [Option.some.injEq, Prod.mk.injEq] at h
          obtain ⟨rfl, rfl⟩ := h; exact ok_call s [] ht (by simp)
        · obtain ⟨⟨q, r1⟩, h1, h2⟩ := bind_some h
          exact ih _ _ _ _ h2 hc ⟨ht, by simpa using ih _ _ _ _ h1 (run_ok0 h2 hc) (by simp [Task.tree])⟩
      · simp only [Option.some.injEq, Prod.mk.injEq] at h
        obtain ⟨rfl, rfl⟩ := h; exact ok_leaf 3 0 s (by decide) (by simp [plainB, ht])
    | args s ps =>
      simp only [run] at h
      obtain ⟨hs, hps⟩ := ht
      split at h
      · obtain ⟨⟨q, r1⟩, h1, h2⟩ := bind_some h
        have hq := ih _ _ _ _ h1 (run_ok0 h2 hc) (by simp [Task.tree])
        exact ih _ _ _ _ h2 hc ⟨hs, by intro x hx; simp at hx; rcases hx with hx | hx; exact hps x hx; subst hx; exact hq⟩
      · simp only [Option.some.injEq, Prod.mk.injEq] at h
        obtain ⟨rfl, rfl⟩ := h; exact ok_call s ps hs hps
end Go.Proofs.YtobkcdkffcenbaaGreatDoor.Ex
namespace Go.Proofs.YtobkcdkffcenbaaGreatDoor.Ex
open Go.Proofs.YtobkcdkffcenbaaGreatDoor.Tr
def Task.low : Task → Nat
  | .rl _ ps ops => (ps.map Pt.nodes).sum + ops.length
  | .ll _ p => p.nodes
  | .args _ ps => 1 + (ps.map Pt.nodes).sum + ps.length
  | .named _ => 1
  | _ => 0
def Like (l m : List Tok) : Prop := m.length = l.length ∧ ∀ (i : Nat) t, l[i]? = some t → ∃ u : Tok, m[i]? = some u ∧ u.kind = t.kind ∧ u.text = t.text
structure Sim (pre m x l : List Tok) (d : Nat) (r q : Rd) : Prop where
  rl : r.l = l
  ql : q.l = pre ++ m ++ x
  rc : r.code = 0
  qc : q.code = 0
  nx : q.next = pre.length + r.next
  le : r.next ≤ l.length
  bg : q.begun = r.begun + d
section
variable {pre m x l : List Tok} {d : Nat} {r q : Rd}
theorem Sim.cur (h : Sim pre m x l d r q) (hl : Like l m) (hlt : r.next < l.length) : q.cur.kind = r.cur.kind ∧ q.cur.text = r.cur.text ∧ q.next < q.l.length ∧ r.next < r.l.length := by
  obtain ⟨t, ht⟩ : ∃ t, l[r.next]? = some t := ⟨_, List.getElem?_eq_getElem hlt⟩
  obtain ⟨u, hu, hk, htx⟩ := hl.2 _ _ ht
  have e1 : r.cur = t := by unfold Rd.cur; rw [h.rl, ht]; rfl
  have e2 : q.cur = u := by
    unfold Rd.cur
    rw [h.ql, h.nx, List.append_assoc, List.getElem?_append_right (by omega), List.getElem?_append_left (by rw [hl.1]; omega), Nat.add_sub_cancel_left, hu]; rfl
  rw [e1, e2]
  refine ⟨hk, htx, ?_, by rw [h.rl]; exact hlt⟩
  rw [h.ql, h.nx, List.length_append, List.length_append, hl.1]; omega
theorem Sim.ws (h : Sim pre m x l d r q) (hl : Like l m) (hlt : r.next < l.length) : q.ws = r.ws := by
  obtain ⟨h1, h2, h3, h4⟩ := h.cur hl hlt
  unfold Rd.ws
  rw [h1]; simp [h3, h4]
theorem Sim.sign (h : Sim pre m x l d r q) (hl : Like l m) (hlt : r.next < l.length) (n : Nat) : q.sign n = r.sign n := by
  unfold Rd.sign
  rw [h.ws hl hlt, (h.cur hl hlt).2.1]
end
end Go.Proofs.YtobkcdkffcenbaaGreatDoor.Ex
namespace Go.Proofs.YtobkcdkffcenbaaGreatDoor.Ex
open Go.Proofs.YtobkcdkffcenbaaGreatDoor.Tr
def rd0 (l : List Tok) : Rd := ⟨l, 0, 0, 0, 0⟩
structure Parsed (l : List Tok) (p : Pt) (r : Rd) : Prop where
  eq : run (fuelOf l 0) (.lev 1) (rd0 l) = some (p, r)
  code : r.code = 0
  nodes : p.nodes ≤ 5000
  deep : p.deep ≤ 40
theorem Parsed.val {l : List Tok} {p : Pt} {r : Rd} (h : Parsed l p r) : parseM l 0 = (p.e, r.next, 0, 0) := by
  have e := h.eq
  unfold rd0 at e
  unfold parseM
  rw [e]
  simp only [parseOf]
  rw [if_neg (by simp [h.code]), if_neg (by have := h.nodes; omega), if_neg (by have := h.deep; omega)]
theorem Parsed.ok {l : List Tok} {p : Pt} {r : Rd} (h : Parsed l p r) : ∃ t, okT t ∧ p = ptOf t ∧ p.e = t.flat 0 ∧ t.size ≤ 5000 ∧ t.depth ≤ 40 := by
  obtain ⟨t, ht, rfl⟩ := run_tree _ _ _ _ _ h.eq h.code (by simp [Task.tree])
  have h1 := h.nodes
  have h2 := h.deep
  simp only [ptOf] at h1 h2
  exact ⟨t, ht, rfl, by simp only [ptOf]; rw [if_pos ⟨h1, h2⟩], h1, h2⟩
theorem Parsed.len {l : List Tok} {p : Pt} {r : Rd} (h : Parsed l p r) : p.e.length = p.nodes := by
  obtain ⟨t, ht, rfl, he, _⟩ := h.ok
  rw [he, T.flat_len]; rfl
end Go.Proofs.YtobkcdkffcenbaaGreatDoor.Ex
namespace Go.Proofs.YtobkcdkffcenbaaGreatDoor.Sh
open Go.Proofs.YtobkcdkffcenbaaGreatDoor.Tr Go.Proofs.YtobkcdkffcenbaaGreatDoor.Ex
def opTexts : List Bytes := [[], [], [], [], [110, 111, 116], [45], [97, 110, 100], [111, 114], [120, 111, 114], [61, 62], [61], [60, 62], [60], [60, 61], [43], [45], [42], [100, 105, 118], [109, 111, 100], [45, 62], [115, 105, 110, 99, 101], [112, 114, 101], [111, 110, 99, 101], [104, 105, 115, 116], [112, 114, 101, 118], [119, 105, 116, 104, 105, 110], [105, 102]]
def levels : List Int := [-1, 10, 10, 10, 9, 9, 5, 4, 4, 2, 6, 6, 6, 6, 7, 7, 8, 8, 8, 1, 3, 9, 9, 9, 9, 9, 0, 10]
def opText (o : Int) : Bytes := if o < 0 then [] else (opTexts[o.toNat]?).getD []
def levM (o : Int) : Int := if o < 0 then -1 else (levels[o.toNat]?).getD (-1)
def digs (n : Nat) : Bytes := if n < 10 then [(48 + n).toUInt8] else digs (n / 10) ++ [(48 + n % 10).toUInt8]
termination_by n
abbrev KT := Int × Bytes
def kd (s : Bytes) : KT := (if Lx.wordB s then 3 else 4, s)
def tLp : KT := (4, [40])
def tRp : KT := (4, [41])
def tCo : KT := (4, [44])
def tTrue : KT := (3, [116, 114, 117, 101])
def tFalse : KT := (3, [102, 97, 108, 115, 101])
def tIf : KT := (3, [105, 102])
def tThen : KT := (3, [116, 104, 101, 110])
def tElse : KT := (3, [101, 108, 115, 101])
def numT (n : Int) : KT := (2, digs n.toNat)
def nameT (s : Bytes) : KT := (1, s)
def sur (b : Bool) (l : List KT) : List KT := if b then tLp :: (l ++ [tRp]) else l
def leftOf (L : Int) : Int := if L ≤ 2 then L + 1 else if L = 6 then 7 else L
def rightOf (L : Int) : Int := if L ≤ 2 then L else L + 1
def toks : T → List KT
  | .l0 x => if x.op = 1 then [numT x.n] else if x.op = 2 then [if x.n = 1 then tTrue else tFalse] else if x.op = 27 then [nameT x.name, tLp, tRp] else [nameT x.name]
  | .l1 x p =>
    if x.op = 27 then nameT x.name :: tLp :: (toks p ++ [tRp]) else if x.op = 28 then toks p
    else kd (opText x.op) :: ((if x.op = 25 then [numT x.n] else []) ++ sur (decide (levM p.lab.op < 9)) (toks p))
  | .l2 x p q =>
    if x.op = 28 then toks p ++ tCo :: toks q
    else sur (decide (levM p.lab.op < leftOf (levM x.op))) (toks p) ++ kd (opText x.op) :: sur (decide (levM q.lab.op < rightOf (levM x.op))) (toks q)
  | .l3 x a b c => tIf :: (toks a ++ tThen :: (toks b ++ tElse :: toks c))
def kt (t : Tok) : KT := (t.kind, t.text)
def see (r : Rd) : List KT := (r.l.drop r.next).map kt
def wsL : List KT → Bool
  | x :: _ => x.1 == 3 || x.1 == 4
  | [] => false
def isBL (s : Bytes) : List KT → Bool
  | x :: _ => (x.1 == 3 || x.1 == 4) && x.2 == s
  | [] => false
def signL (n : Nat) : List KT → Option (Int × Bool)
  | x :: _ => if x.1 == 3 || x.1 == 4 then (signsM n).lookup x.2 else none
  | [] => none
def fwd (r : Rd) (k : Nat) : Rd := ⟨r.l, r.next + k, r.begun, r.code, r.at_⟩
theorem fwd_adv (r : Rd) : r.adv = fwd r 1 := rfl
theorem see_fwd (r : Rd) (k : Nat) : see (fwd r k) = (see r).drop k := by
  unfold see fwd
  rw [← List.map_drop, List.drop_drop]
theorem see_cons {r : Rd} {x : KT} {b : List KT} (h : see r = x :: b) : r.cur.kind = x.1 ∧ r.cur.text = x.2 ∧ r.next < r.l.length ∧ see r.adv = b := by
  have hlt : r.next < r.l.length := by
    rcases Nat.lt_or_ge r.next r.l.length with h1 | h1
    · exact h1
    · unfold see at h; rw [List.drop_eq_nil_of_le h1] at h; cases h
  have h2 := h
  unfold see at h2
  rw [List.drop_eq_getElem_cons hlt, List.map_cons] at h2
  simp only [List.cons.injEq] at h2
  have hc : r.cur = r.l[r.next] := by unfold Rd.cur; rw [List.getElem?_eq_getElem hlt]; rfl
  refine ⟨by rw [hc, ← h2.1]; rfl, by rw [hc, ← h2.1]; rfl, hlt, ?_⟩
  rw [fwd_adv, see_fwd, h]; rfl
theorem see_nil {r : Rd} (h : see r = []) : ¬ r.next < r.l.length := fun hlt => by
  unfold see at h
  rw [List.drop_eq_getElem_cons hlt] at h; cases h
theorem ws_see (r : Rd) : r.ws = wsL (see r) := by
  cases h : see r with
  | nil => have := see_nil h; unfold Rd.ws; simp [this, wsL]
  | cons x b => obtain ⟨h1, _, h3, _⟩ := see_cons h; unfold Rd.ws; rw [h1]; simp [h3, wsL]
theorem sign_see (n : Nat) (r : Rd) : r.sign n = signL n (see r) := by
  unfold Rd.sign
  rw [ws_see]
  cases h : see r with
  | nil => rfl
  | cons x b => obtain ⟨_, h2, _, _⟩ := see_cons h; rw [h2]; rfl
theorem run_more : ∀ (f : Nat) (t : Task) (r : Rd) (x : Pt × Rd), run f t r = some x → run (f + 1) t r = some x := by
  intro f
  induction f with
  | zero => intro t r x h; cases h
  | succ f ih =>
    intro t r x h
    have IH : ∀ {t : Task} {r : Rd} {x : Pt × Rd}, run f t r = some x → run (f + 1) t r = some x := fun h => ih _ _ _ h
    cases t with
    | lev n =>
      rw [run] at h ⊢
      split at h
      · rename_i h9; rw [if_pos h9]; exact IH h
      · rename_i h9; rw [if_neg h9]
        obtain ⟨⟨a, b⟩, h1, h2⟩ := bind_some h
        rw [IH h1]
        simp only [Option.bind_some] at h2 ⊢
        by_cases h3 : n ≤ 2
        · rw [if_pos h3] at h2 ⊢; exact IH h2
        · rw [if_neg h3] at h2 ⊢; exact IH h2
    | rl n ps ops =>
      rw [run] at h ⊢
      cases hs : r.sign n with
      | none => rw [hs] at h; exact h
      | some s =>
        rw [hs] at h
        obtain ⟨a, h1, h2⟩ := bind_some h
        simp only
        rw [IH h1]
        exact IH h2
    | ll n p0 =>
      rw [run] at h ⊢
      cases hs : r.sign n with
      | none => rw [hs] at h; exact h
      | some s =>
        rw [hs] at h
        obtain ⟨⟨a, b⟩, h1, h2⟩ := bind_some h
        simp only
        rw [IH h1]
        simp only [Option.bind_some] at h2 ⊢
        by_cases h3 : n = 6
        · rw [if_pos h3] at h2 ⊢; exact h2
        · rw [if_neg h3] at h2 ⊢; exact IH h2
    | opnd =>
      rw [run] at h ⊢
      split at h
      · rename_i h3; rw [if_pos h3]; exact h
      · rename_i h3; rw [if_neg h3]
        cases hs : r.open_.sign 9 with
        | none => rw [hs] at h; obtain ⟨a, h1, h2⟩ := map_some h; simp only; rw [IH h1]; exact congrArg some h2
        | some s => rw [hs] at h; obtain ⟨a, h1, h2⟩ := map_some h; simp only; rw [IH h1]; exact congrArg some h2
    | single =>
      rw [run] at h ⊢
      split at h
      · rename_i h3; rw [if_pos h3]; obtain ⟨a, h1, h2⟩ := map_some h; rw [IH h1]; exact congrArg some h2
      · rename_i h3; rw [if_neg h3]
        split at h
        · rename_i h4; rw [if_pos h4]
          obtain ⟨a, h1, h⟩ := bind_some h
          obtain ⟨b, h2, h⟩ := bind_some h
          obtain ⟨c, h3, h⟩ := map_some h
          rw [IH h1]; simp only [Option.bind_some]; rw [IH h2]; simp only [Option.bind_some]; rw [IH h3]
          exact congrArg some h
        · rename_i h4; rw [if_neg h4]
          split at h
          · rename_i h5; rw [if_pos h5]; exact h
          · rename_i h5; rw [if_neg h5]
            split at h
            · rename_i h6; rw [if_pos h6]; exact h
            · rename_i h6; rw [if_neg h6]
              split at h
              · rename_i h7; rw [if_pos h7]; exact h
              · rename_i h7; rw [if_neg h7]
                split at h
                · rename_i h8; rw [if_pos h8]; exact IH h
                · rename_i h8; rw [if_neg h8]; exact h
    | named s =>
      rw [run] at h ⊢
      split at h
      · rename_i h3; rw [if_pos h3]
        split at h
        · rename_i h4; rw [if_pos h4]; exact h
        · rename_i h4; rw [if_neg h4]; obtain ⟨a, h1, h2⟩ := bind_some h; rw [IH h1]; exact IH h2
      · rename_i h3; rw [if_neg h3]; exact h
    | args s ps =>
      rw [run] at h ⊢
      split at h
      · rename_i h3; rw [if_pos h3]; obtain ⟨a, h1, h2⟩ := bind_some h; rw [IH h1]; exact IH h2
      · rename_i h3; rw [if_neg h3]; exact h
theorem run_mono {f g : Nat} (hfg : f ≤ g) {t : Task} {r : Rd} {x : Pt × Rd} (h : run f t r = some x) : run g t r = some x := by
  induction hfg with
  | refl => exact h
  | step _ ih => exact run_more _ _ _ _ ih
def Gets (t : Task) (r : Rd) (p : Pt) (r' : Rd) : Prop := ∃ f, run f t r = some (p, r')
theorem Gets.det {t : Task} {r : Rd} {p p' : Pt} {r1 r2 : Rd} {f : Nat} (h : Gets t r p r1) (h2 : run f t r = some (p', r2)) : p' = p ∧ r2 = r1 := by
  obtain ⟨g, h⟩ := h
  have a := run_mono (Nat.le_max_left f g) h2
  have b := run_mono (Nat.le_max_right f g) h
  rw [a] at b
  simpa using b
end Go.Proofs.YtobkcdkffcenbaaGreatDoor.Sh
namespace Go.Proofs.YtobkcdkffcenbaaGreatDoor.Tr
open Go.ChangeShapes Go.WideShapes Go.ChangeAt Go.RowKit
theorem und30 : Tryz.prog.underlying 70 = some (.struct (Tryz.prog.fieldsOf 70)) := by kernel_rfl
theorem stood30 : Tryz.prog.stoodInHeld 70 = false := by kernel_rfl
theorem guard30 : Tryz.prog.eqGuardType Tryz.prog.depth 70 = false := by kernel_rfl
def ndB (o a b c n o' a' b' c' n' : Int) (s s' : ByteArray) : Bool := o == o' && (a == a' && (b == b' && (c == c' && (n == n' && s.toList == s'.toList))))
theorem equal_nd (d : Nat) (o a b c n o' a' b' c' n' : Int) (s s' : ByteArray) (w : World) :
    (Op.equalIn (d + 2) 70 (.agg #[.int .i64 o, .int .i64 a, .int .i64 b, .int .i64 c, .int .i64 n, .string s]) (.agg #[.int .i64 o', .int .i64 a', .int .i64 b', .int .i64 c', .int .i64 n', .string s'])).run Tryz.prog w =
      .ok (ndB o a b c n o' a' b' c' n' s s') w := by
  rw [run_equalIn_agg w (d + 1) 70 _ _ und30 stood30]
  simp only [Program.fieldsOf, Tryz.underlying70]
  unfold ndB
  rcases Bool.eq_false_or_eq_true (o == o') with h1 | h1
  rotate_left
  · simp [go_sem, h1, Tryz.underlying3, Tryz.underlying9]
  rcases Bool.eq_false_or_eq_true (a == a') with h2 | h2
  rotate_left
  · simp [go_sem, h1, h2, Tryz.underlying3, Tryz.underlying9]
  rcases Bool.eq_false_or_eq_true (b == b') with h3 | h3
  rotate_left
  · simp [go_sem, h1, h2, h3, Tryz.underlying3, Tryz.underlying9]
  rcases Bool.eq_false_or_eq_true (c == c') with h4 | h4
  rotate_left
  · simp [go_sem, h1, h2, h3, h4, Tryz.underlying3, Tryz.underlying9]
  rcases Bool.eq_false_or_eq_true (n == n') with h5 | h5
  rotate_left
  · simp [go_sem, h1, h2, h3, h4, h5, Tryz.underlying3, Tryz.underlying9]
  rcases Bool.eq_false_or_eq_true (s.toList == s'.toList) with h6 | h6
  rotate_left
  · simp [go_sem, h1, h2, h3, h4, h5, h6, Tryz.underlying3, Tryz.underlying9]
  simp [go_sem, h1, h2, h3, h4, h5, h6, Tryz.underlying3, Tryz.underlying9]
theorem neq_nd (o a b c n o' a' b' c' n' : Int) (s s' : ByteArray) (w : World) :
    (binOp .neq 70 (.agg #[.int .i64 o, .int .i64 a, .int .i64 b, .int .i64 c, .int .i64 n, .string s]) (.agg #[.int .i64 o', .int .i64 a', .int .i64 b', .int .i64 c', .int .i64 n', .string s'])).run Tryz.prog w = .ok (.bool (!ndB o a b c n o' a' b' c' n' s s')) w := by
  rw [run_neq_struct, show (10000 : Nat) = 9998 + 2 from rfl, equal_nd]; rfl
theorem eql_nd (o a b c n o' a' b' c' n' : Int) (s s' : ByteArray) (w : World) :
    (binOp .eql 70 (.agg #[.int .i64 o, .int .i64 a, .int .i64 b, .int .i64 c, .int .i64 n, .string s]) (.agg #[.int .i64 o', .int .i64 a', .int .i64 b', .int .i64 c', .int .i64 n', .string s'])).run Tryz.prog w = .ok (.bool (ndB o a b c n o' a' b' c' n' s s')) w := by
  rw [run_eql_struct, show (10000 : Nat) = 9998 + 2 from rfl, equal_nd]; rfl
theorem guard_nd (op : BinOp) (x y : Operand) (xs ys : Array Value) (w : World) : (eqGuard op 70 x y (.agg xs) (.agg ys)).run Tryz.prog w = .ok () w := run_eqGuard_agg w op 70 x y xs ys guard30
attribute [local go_sem ↓] neq_nd eql_nd guard_nd
end Go.Proofs.YtobkcdkffcenbaaGreatDoor.Tr
namespace Go.Proofs.YtobkcdkffcenbaaGreatDoor.Sh
open Go.ChangeShapes Go.WideShapes Go.ChangeAt Go.RowKit
open Go.Proofs.YtobkcdkffcenbaaGreatDoor.Tr (str ret_bool ret_int Bytes Nd T)
def SgAt (w : World) : Prop := 0 < w.heap.size ∧ ∀ k : Nat, k < 28 → w.cell? ⟨0, k * 2, none⟩ = some (.string (str (opText (k : Int)))) ∧ w.cell? ⟨0, k * 2 + 1, none⟩ = some (.int .i64 (levM (k : Int)))
theorem SgAt.below {w w' : World} {B : Nat} (h : SgAt w) (hb : Below B w w') (hB : 0 < B) : SgAt w' :=
  ⟨by have := hb.size; have := h.1; omega, fun k hk => by
    obtain ⟨a, b⟩ := h.2 k hk
    exact ⟨(hb.cell (p := ⟨0, k * 2, none⟩) hB).trans a, (hb.cell (p := ⟨0, k * 2 + 1, none⟩) hB).trans b⟩⟩
end Go.Proofs.YtobkcdkffcenbaaGreatDoor.Sh
namespace Go.Proofs.YtobkcdkffcenbaaGreatDoor.Lx
open Go.ChangeShapes Go.WideShapes Go.ChangeAt Go.RowKit
end Go.Proofs.YtobkcdkffcenbaaGreatDoor.Lx
namespace Go.Proofs.YtobkcdkffcenbaaGreatDoor.Ex
open Go.ChangeShapes Go.WideShapes Go.ChangeAt Go.RowKit
open Go.Proofs.YtobkcdkffcenbaaGreatDoor.Tr (str ret_bool ret_int Bytes Nd)
def TokOff (w : World) (b : Nat) (v : Value) (l : List Tok) : Prop :=
  ∃ A c, v = .slice A l.length c ∧ l.length ≤ c ∧ c ≤ maxLen ∧ ∀ i t, l[i]? = some t → ∃ g, A = some ⟨g, 0, none⟩ ∧ g < b ∧ g < w.heap.size ∧
    w.cell? ⟨g, i * 3, none⟩ = some (.int .i64 t.kind) ∧ w.cell? ⟨g, i * 3 + 1, none⟩ = some (.string (str t.text)) ∧ w.cell? ⟨g, i * 3 + 2, none⟩ = some (.int .i64 (t.at_ : Int))
theorem TokOff.keep {w w' : World} {b : Nat} {v : Value} {l : List Tok} (h : TokOff w b v l) (hs : w.heap.size ≤ w'.heap.size) (hk : ∀ g, g < b → g < w.heap.size → w'.heap[g]? = w.heap[g]?) : TokOff w' b v l := by
  obtain ⟨A, c, rfl, h1, h2, h3⟩ := h
  refine ⟨A, c, rfl, h1, h2, fun i t hi => ?_⟩
  obtain ⟨g, hg, hne, hlt, c0, c1, c2⟩ := h3 i t hi
  have q : ∀ k, w'.cell? ⟨g, k, none⟩ = w.cell? ⟨g, k, none⟩ := fun k => World.cell?_of_block (w := w) (a := ⟨g, k, none⟩) (hk g hne hlt)
  exact ⟨g, hg, hne, by omega, (q _).trans c0, (q _).trans c1, (q _).trans c2⟩
theorem TokOff.nil (w : World) (b : Nat) : TokOff w b (.slice none 0 0) [] := ⟨none, 0, rfl, by simp, by unfold maxLen; omega, fun i t h => by simp at h⟩
def MapAt (w : World) (b n : Nat) (v : Value) : Prop := ∃ m es k, v = .map (some m) ∧ m < b ∧ m < w.heap.size ∧ w.heap[m]? = some (.map es k) ∧ es.toList.map (fun e => (e.key, e.val)) = (signsM n).map (fun x => (.string (str x.1), .agg #[.int .i64 x.2.1, .bool x.2.2]))
theorem MapAt.keep {w w' : World} {b n : Nat} {v : Value} (h : MapAt w b n v) (hs : w.heap.size ≤ w'.heap.size) (hk : ∀ g, g < b → g < w.heap.size → w'.heap[g]? = w.heap[g]?) : MapAt w' b n v := by
  obtain ⟨m, es, k, rfl, h1, h2, h3, h4⟩ := h
  exact ⟨m, es, k, rfl, h1, by omega, (hk m h1 h2).trans h3, h4⟩
def VarAt (w : World) (b : Nat) : Prop := 2 < b ∧ 2 < w.heap.size ∧ ∃ ev, w.cell? ⟨2, 0, none⟩ = some ev ∧ (ev = .nilIface ∨ ∃ te pe, ev = .iface te pe)
theorem VarAt.keep {w w' : World} {b : Nat} (h : VarAt w b) (hs : w.heap.size ≤ w'.heap.size) (hk : ∀ g, g < b → g < w.heap.size → w'.heap[g]? = w.heap[g]?) : VarAt w' b := by
  obtain ⟨h1, h2, ev, h3, h4⟩ := h
  exact ⟨h1, by omega, ev, (World.cell?_of_block (w := w) (a := ⟨2, 0, none⟩) (hk 2 h1 h2)).trans h3, h4⟩
def PtW (w : World) (x : Value × Pt) : Prop := Tr.Nodes w x.1 x.2.e ∧ (0 < x.2.e.length → ∀ g o n c, x.1 = .slice (some ⟨g, o, none⟩) n c → ∃ (cs : Array Value) (f : Nat × Nat), w.heap[g]? = some (Obj.cells cs 70 f))
theorem PtW.keep {w w' : World} {x : Value × Pt} (h : PtW w x) (hs : w.heap.size ≤ w'.heap.size) (hk : ∀ g : Nat, (∃ (cs : Array Value) (f : Nat × Nat), w.heap[g]? = some (Obj.cells cs 70 f)) → w'.heap[g]? = w.heap[g]?) : PtW w' x := by
  obtain ⟨⟨A, c, e, h1, h2, h3⟩, h4⟩ := h
  refine ⟨⟨A, c, e, h1, h2, fun i t hi => ?_⟩, fun h0 g o n c e => ?_⟩
  · obtain ⟨g, o, rfl, hlt, c0, c1, c2, c3, c4, c5⟩ := h3 i t hi
    have q : ∀ k, w'.cell? ⟨g, k, none⟩ = w.cell? ⟨g, k, none⟩ := fun k => World.cell?_of_block (w := w) (a := ⟨g, k, none⟩) (hk g (h4 (by have := (List.getElem?_eq_some_iff.1 hi).1; omega) g o _ _ e))
    exact ⟨g, o, rfl, by omega, (q _).trans c0, (q _).trans c1, (q _).trans c2, (q _).trans c3, (q _).trans c4, (q _).trans c5⟩
  · obtain ⟨cs, f, hc⟩ := h4 h0 g o n c e
    exact ⟨cs, f, (hk g ⟨cs, f, hc⟩).trans hc⟩
theorem PtW.below {w w' : World} {x : Value × Pt} (h : PtW w x) (hb : Below w.heap.size w w') : PtW w' x :=
  h.keep hb.size (fun g ⟨_, _, hc⟩ => hb.block g (lt_of_block hc))
theorem PtW.own {w : World} {b : Nat} {v : Value} {p : Pt} (h : w.ownsRow b 70 6 v p.e.length (Tr.ndsOf p.e)) : PtW w (v, p) := by
  refine ⟨Tr.Nodes.of_own h, fun h0 g o n c e => ?_⟩
  obtain ⟨hl, h0' | ⟨g', cap, cur, hv, hb, hh, _⟩⟩ := h
  · simp only at e; rw [h0'.1] at e; cases e
  · simp only at e
    rw [hv] at e
    simp only [Value.slice.injEq, Option.some.injEq, Addr.mk.injEq] at e
    obtain ⟨⟨rfl, _⟩, _⟩ := e
    exact ⟨_, _, hh⟩
theorem PtW.nil (w : World) (p : Pt) (h : p.e = []) : PtW w (.slice none 0 0, p) := by
  refine ⟨?_, fun h0 => by simp only [h] at h0; simp at h0⟩
  simp only [h]
  exact ⟨none, 0, rfl, by simp, by unfold maxLen; omega, fun i t h => by simp at h⟩
theorem below_new (w : World) (o : Obj) : Below w.heap.size w (w.alloc o) := (Below.refl _ _).alloc (Nat.le_refl _) _
end Go.Proofs.YtobkcdkffcenbaaGreatDoor.Ex

