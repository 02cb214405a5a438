/- What a reader reads without a fault is a tree. Conditions: none. -/
import Derived.Test.YtgohhnbdicdenaaDoorPk11
import Derived.Test.YtgohhnbdicdenaaDoorPk27
import Derived.Test.YtgohhnbdicdenaaDoorPk10
import Derived.Test.YtgohhnbdicdenaaDoorRows
import Derived.Test.YtgohhnbdicdenaaDoorTie
import Derived.ProofKit
import Derived.LaidMore
import Derived.OpenShut
import Derived.Stop.Joined
import Derived.Below
import Derived.ChangeSame
import Derived.Test.YtgohhnbdicdenaaDoorPk01
import Derived.Test.YtgohhnbdicdenaaDoorPk12
import Derived.RegionTactic
import Derived.Deep.QuietTactic
import Derived.BigQuiet
import Derived.IntWalk
namespace Go.Proofs.YtgohhnbdicdenaaDoor.Ex
open Go.Proofs.YtgohhnbdicdenaaDoor.Tr Go.RowKit
set_option linter.unusedVariables false
set_option linter.unusedSimpArgs false

theorem wrap_small (k f : Int) (h0 : 0 ≤ k) (h1 : 0 ≤ f) (h : k + f ≤ 1000000000) : wrap64 (k + f) = k + f := by unfold wrap64; omega
theorem on_mkL (f : Nat) (x : Lab) (l : List Int) (hl : l.length ≤ 3) (h : ∀ k ∈ l, 0 ≤ k ∧ k + (f : Int) ≤ 1000000000) : onNd (f : Int) (mkL x l) = mkL x (l.map (· + (f : Int))) := by
  have one : ∀ k ∈ l, onM (f : Int) k = k + (f : Int) := fun k hk => by
    have := h k hk
    unfold onM; rw [if_pos this.1]; exact wrap_small _ _ this.1 (by omega) this.2
  have neg : onM (f : Int) (-1) = -1 := by unfold onM; rw [if_neg (by omega)]
  match l, hl with
  | [], _ => simp [mkL, onNd, neg]
  | [i], _ => simp [mkL, onNd, neg, one i (by simp)]
  | [i, j], _ =>
    have a := one i (by simp); have b := one j (by simp)
    by_cases h28 : x.op = 28 <;> simp [mkL, onNd, neg, a, b, h28]
  | [i, j, k], _ => simp [mkL, onNd, neg, one i (by simp), one j (by simp), one k (by simp)]
theorem flat_shift (t : T) : ∀ (b f : Nat), b + f + t.size ≤ 1000000000 → (t.flat b).map (onNd (f : Int)) = t.flat (b + f) := by
  induction t with
  | l0 x => intro b f h; simp [T.flat, on_mkL f x [] (by simp) (by simp)]
  | l1 x p ih =>
    intro b f h
    have := p.size_pos
    simp only [T.size] at h
    simp only [T.flat, List.map_append, List.map_cons, List.map_nil, ih b f (by omega)]
    rw [on_mkL f x _ (by simp) (by simp; omega)]
    congr 3
    simp; omega
  | l2 x p q ih1 ih2 =>
    intro b f h
    have := p.size_pos; have := q.size_pos
    simp only [T.size] at h
    simp only [T.flat, List.map_append, List.map_cons, List.map_nil, ih1 b f (by omega), ih2 (b + p.size) f (by omega)]
    rw [on_mkL f x _ (by simp) (by simp; omega)]
    have e1 : b + p.size + f = b + f + p.size := by omega
    rw [e1]
    congr 3
    simp; omega
  | l3 x p q r ih1 ih2 ih3 =>
    intro b f h
    have := p.size_pos; have := q.size_pos; have := r.size_pos
    simp only [T.size] at h
    simp only [T.flat, List.map_append, List.map_cons, List.map_nil, ih1 b f (by omega), ih2 (b + p.size) f (by omega), ih3 (b + p.size + q.size) f (by omega)]
    rw [on_mkL f x _ (by simp) (by simp; omega)]
    have e1 : b + p.size + f = b + f + p.size := by omega
    have e2 : b + p.size + q.size + f = b + f + p.size + q.size := by omega
    rw [e1, e2]
    congr 3
    simp; omega
theorem behind_flat (a : List Nd) (t : T) (h : a.length + t.size ≤ 1000000000) : behindM a (t.flat 0) = a ++ t.flat a.length := by
  unfold behindM; rw [flat_shift t 0 a.length (by omega), Nat.zero_add]
theorem flat_ne (t : T) (b : Nat) : t.flat b ≠ [] := fun h => by
  have := T.flat_len t b; rw [h] at this; have := t.size_pos; simp at *; omega

/-- The tree of a Call. -/
def argsC (acc : T) : List T → T
  | [] => acc
  | t :: ts => argsC (.l2 ⟨28, 0, []⟩ acc t) ts
def callT (s : Bytes) : List T → T
  | [] => .l0 ⟨27, 0, s⟩
  | t :: ts => .l1 ⟨27, 0, s⟩ (argsC (.l1 ⟨28, 0, []⟩ t) ts)
theorem argsC_size (ts : List T) : ∀ acc, (argsC acc ts).size = acc.size + (ts.map T.size).sum + ts.length := by
  induction ts with
  | nil => intro acc; rfl
  | cons t r ih => intro acc; rw [argsC, ih]; simp [T.size]; omega
theorem callT_size (s : Bytes) (ts : List T) : (callT s ts).size = 1 + (ts.map T.size).sum + ts.length := by
  cases ts with
  | nil => rfl
  | cons t r => rw [callT, T.size, argsC_size]; simp [T.size]; omega
theorem callF_chain (ts : List T) : ∀ acc : T, acc.size + (ts.map T.size).sum + ts.length ≤ 1000000 →
    (ts.map (fun t => t.flat 0)).foldl callStep (acc.flat 0, (acc.size : Int) - 1) = ((argsC acc ts).flat 0, ((argsC acc ts).size : Int) - 1) := by
  induction ts with
  | nil => intro acc _; rfl
  | cons t r ih =>
    intro acc h
    simp only [List.map_cons, List.sum_cons, List.length_cons] at h
    have := acc.size_pos; have := t.size_pos
    rw [List.map_cons, List.foldl_cons]
    have e : callStep (acc.flat 0, (acc.size : Int) - 1) (t.flat 0) = ((T.l2 ⟨28, 0, []⟩ acc t).flat 0, ((T.l2 ⟨28, 0, []⟩ acc t).size : Int) - 1) := by
      unfold callStep
      simp only
      rw [behind_flat _ _ (by rw [T.flat_len]; omega), List.length_append, T.flat_len, T.flat_len]
      simp only [T.flat, T.size, overM, mkL, Nat.zero_add]
      simp
      omega
    rw [e, ih _ (by simp only [T.size]; omega)]
    rfl
theorem joinM_call (s : Bytes) (ts : List T) (h : (callT s ts).size ≤ 1000000) : joinM 27 0 s (ts.map (fun t => t.flat 0)) = (callT s ts).flat 0 := by
  have hany : (ts.map (fun t => t.flat 0)).any List.isEmpty = false := by
    rw [List.any_map]; simp only [List.any_eq_false]; intro t _; simpa using flat_ne t 0
  unfold joinM
  rw [hany]
  simp only [Bool.false_eq_true, if_false, if_true]
  rw [if_neg (by decide)]
  cases ts with
  | nil => simp [callM, callF, callT, T.flat, overM, mkL]
  | cons t r =>
    rw [callT_size] at h
    simp only [List.map_cons, List.sum_cons, List.length_cons] at h
    have := t.size_pos
    unfold callM callF
    rw [List.map_cons, List.foldl_cons]
    have e : callStep ([], -1) (t.flat 0) = ((T.l1 ⟨28, 0, []⟩ t).flat 0, ((T.l1 ⟨28, 0, []⟩ t).size : Int) - 1) := by
      unfold callStep
      simp only
      rw [behind_flat _ _ (by simp; omega)]
      simp only [List.nil_append, List.length_nil, T.flat_len, T.flat, T.size, overM, mkL, Nat.zero_add]
      simp
      omega
    rw [e, callF_chain _ _ (by simp only [T.size]; omega)]
    simp only [callT, T.flat, T.size, overM, mkL, Nat.zero_add]
    have hp := (argsC (.l1 ⟨28, 0, []⟩ t) r).size_pos
    simp
    omega
theorem lay1 (a : T) (h : a.size ≤ 1000000) : layF [a.flat 0] = (a.flat 0, [(a.size : Int) - 1]) := by
  simp only [layF, List.foldl_cons, List.foldl_nil, layStep]
  rw [behind_flat _ _ (by simp; omega)]
  simp [T.flat_len]
theorem lay2 (a b : T) (h : a.size + b.size ≤ 1000000) : layF [a.flat 0, b.flat 0] = (a.flat 0 ++ b.flat a.size, [(a.size : Int) - 1, (a.size : Int) + (b.size : Int) - 1]) := by
  simp only [layF, List.foldl_cons, List.foldl_nil, layStep]
  rw [behind_flat [] a (by simp; omega)]
  rw [behind_flat _ b (by simp [T.flat_len]; omega)]
  simp [T.flat_len]
theorem lay3 (a b c : T) (h : a.size + b.size + c.size ≤ 1000000) : layF [a.flat 0, b.flat 0, c.flat 0] = (a.flat 0 ++ b.flat a.size ++ c.flat (a.size + b.size), [(a.size : Int) - 1, (a.size : Int) + (b.size : Int) - 1, (a.size : Int) + (b.size : Int) + (c.size : Int) - 1]) := by
  simp only [layF, List.foldl_cons, List.foldl_nil, layStep]
  rw [behind_flat [] a (by simp; omega)]
  rw [behind_flat _ b (by simp [T.flat_len]; omega)]
  rw [behind_flat _ c (by simp [T.flat_len]; omega)]
  simp [T.flat_len]; omega
theorem joinM_eq (o n : Int) (s : Bytes) (ls : List (List Nd)) (h0 : ls.any List.isEmpty = false) (h27 : o ≠ 27) (h28 : o ≠ 28) (hk : (kidsM (overM o n s [])).length = ls.length) :
    joinM o n s ls = (layF ls).1 ++ [overM o n s (layF ls).2] := by
  unfold joinM
  rw [h0, if_neg h28, if_neg h27, if_pos hk]; simp
theorem flat_any (ts : List T) : (ts.map (fun t => t.flat 0)).any List.isEmpty = false := by
  rw [List.any_map]; simp only [List.any_eq_false]; intro t _; simpa using flat_ne t 0
theorem kids_un (o n : Int) (s : Bytes) (h : unaryB o = true) : (kidsM (overM o n s [])).length = 1 := by simp [kidsM, overM, h]
theorem kids_bin (o n : Int) (s : Bytes) (h : binaryB o = true) : (kidsM (overM o n s [])).length = 2 := by
  have hb := h
  simp [binaryB] at hb
  have hu : unaryB o = false := by simp [unaryB]; omega
  have e26 : o ≠ 26 := by omega
  have e27 : o ≠ 27 := by omega
  have e28 : o ≠ 28 := by omega
  simp [kidsM, overM, hu, h, e26, e27, e28]
theorem kids_leaf (o n : Int) (s : Bytes) (h : 1 ≤ o ∧ o ≤ 3) : (kidsM (overM o n s [])).length = 0 := by
  have hu : unaryB o = false := by simp [unaryB]; omega
  have hb : binaryB o = false := by simp [binaryB]; omega
  have e26 : o ≠ 26 := by omega
  have e27 : o ≠ 27 := by omega
  have e28 : o ≠ 28 := by omega
  simp [kidsM, overM, hu, hb, e26, e27, e28]
theorem joinM_leaf (o n : Int) (s : Bytes) (h : 1 ≤ o ∧ o ≤ 3) : joinM o n s [] = (T.l0 ⟨o, n, s⟩).flat 0 := by
  rw [joinM_eq o n s [] rfl (by omega) (by omega) (kids_leaf o n s h)]
  simp [layF, T.flat, overM, mkL]
theorem joinM_un (o n : Int) (s : Bytes) (a : T) (h : unaryB o = true) (hs : a.size ≤ 1000000) : joinM o n s [a.flat 0] = (T.l1 ⟨o, n, s⟩ a).flat 0 := by
  have hu := h
  simp [unaryB] at hu
  rw [joinM_eq o n s [a.flat 0] (by simpa using flat_any [a]) (by omega) (by omega) (kids_un o n s h), lay1 a hs]
  have := a.size_pos
  simp [T.flat, overM, mkL]; omega
theorem joinM_bin (o n : Int) (s : Bytes) (a b : T) (h : binaryB o = true) (hs : a.size + b.size ≤ 1000000) : joinM o n s [a.flat 0, b.flat 0] = (T.l2 ⟨o, n, s⟩ a b).flat 0 := by
  have hu := h
  simp [binaryB] at hu
  rw [joinM_eq o n s [a.flat 0, b.flat 0] (by simpa using flat_any [a, b]) (by omega) (by omega) (kids_bin o n s h), lay2 a b hs]
  have := a.size_pos; have := b.size_pos
  have h28 : o ≠ 28 := by omega
  simp [T.flat, overM, mkL, h28]; omega
theorem joinM_if (n : Int) (s : Bytes) (a b c : T) (hs : a.size + b.size + c.size ≤ 1000000) : joinM 26 n s [a.flat 0, b.flat 0, c.flat 0] = (T.l3 ⟨26, n, s⟩ a b c).flat 0 := by
  rw [joinM_eq 26 n s [a.flat 0, b.flat 0, c.flat 0] (by simpa using flat_any [a, b, c]) (by decide) (by decide) (by simp [kidsM, overM, unaryB]), lay3 a b c hs]
  have := a.size_pos; have := b.size_pos; have := c.size_pos
  simp [T.flat, overM, mkL]; omega

/-- What is told of a tree. -/
def ptOf (t : T) : Pt := ⟨if t.size ≤ 5000 ∧ t.depth ≤ 40 then t.flat 0 else [], t.size, t.depth⟩
theorem ptOf_zero_op (o n : Int) (s : Bytes) (h : 1 ≤ o ∧ o ≤ 3) : joined o n s [] = ptOf (.l0 ⟨o, n, s⟩) := by
  unfold joined ptOf
  have e : nodesOf o [] = 1 := rfl
  have e2 : deepOf o [] = 1 := rfl
  rw [e, e2, if_pos (by omega), List.map_nil, joinM_leaf o n s h]
  simp [T.size, T.depth]
theorem ptOf_un (o n : Int) (s : Bytes) (a : T) (h : unaryB o = true) : joined o n s [ptOf a] = ptOf (.l1 ⟨o, n, s⟩ a) := by
  have hu := h
  simp [unaryB] at hu
  have h27 : o ≠ 27 := by omega
  unfold joined
  have e : nodesOf o [ptOf a] = (T.l1 ⟨o, n, s⟩ a).size := by rw [nodes_eq, if_neg h27]; simp [ptOf, T.size]; omega
  have e2 : deepOf o [ptOf a] = (T.l1 ⟨o, n, s⟩ a).depth := by simp [deepOf, ptOf, h27, T.depth]; omega
  rw [e, e2]
  show Pt.mk _ _ _ = Pt.mk _ _ _
  congr 1
  by_cases hs : (T.l1 ⟨o, n, s⟩ a).size ≤ 5000 ∧ (T.l1 ⟨o, n, s⟩ a).depth ≤ 40
  · rw [if_pos hs, if_pos hs]
    simp only [T.size, T.depth] at hs
    simp only [List.map_cons, List.map_nil, ptOf]
    rw [if_pos (by omega)]
    exact joinM_un o n s a h (by omega)
  · rw [if_neg hs, if_neg hs]
theorem ptOf_bin (o n : Int) (s : Bytes) (a b : T) (h : binaryB o = true) : joined o n s [ptOf a, ptOf b] = ptOf (.l2 ⟨o, n, s⟩ a b) := by
  have hu := h
  simp [binaryB] at hu
  have h27 : o ≠ 27 := by omega
  unfold joined
  have e : nodesOf o [ptOf a, ptOf b] = (T.l2 ⟨o, n, s⟩ a b).size := by rw [nodes_eq, if_neg h27]; simp [ptOf, T.size]; omega
  have e2 : deepOf o [ptOf a, ptOf b] = (T.l2 ⟨o, n, s⟩ a b).depth := by simp [deepOf, ptOf, h27, T.depth]; omega
  rw [e, e2]
  show Pt.mk _ _ _ = Pt.mk _ _ _
  congr 1
  by_cases hs : (T.l2 ⟨o, n, s⟩ a b).size ≤ 5000 ∧ (T.l2 ⟨o, n, s⟩ a b).depth ≤ 40
  · rw [if_pos hs, if_pos hs]
    simp only [T.size, T.depth] at hs
    simp only [List.map_cons, List.map_nil, ptOf]
    rw [if_pos (by omega), if_pos (by omega)]
    exact joinM_bin o n s a b h (by omega)
  · rw [if_neg hs, if_neg hs]
theorem ptOf_if (n : Int) (s : Bytes) (a b c : T) : joined 26 n s [ptOf a, ptOf b, ptOf c] = ptOf (.l3 ⟨26, n, s⟩ a b c) := by
  unfold joined
  have e : nodesOf 26 [ptOf a, ptOf b, ptOf c] = (T.l3 ⟨26, n, s⟩ a b c).size := by rw [nodes_eq, if_neg (by decide)]; simp [ptOf, T.size]; omega
  have e2 : deepOf 26 [ptOf a, ptOf b, ptOf c] = (T.l3 ⟨26, n, s⟩ a b c).depth := by simp [deepOf, ptOf, T.depth]; omega
  rw [e, e2]
  show Pt.mk _ _ _ = Pt.mk _ _ _
  congr 1
  by_cases hs : (T.l3 ⟨26, n, s⟩ a b c).size ≤ 5000 ∧ (T.l3 ⟨26, n, s⟩ a b c).depth ≤ 40
  · rw [if_pos hs, if_pos hs]
    simp only [T.size, T.depth] at hs
    simp only [List.map_cons, List.map_nil, ptOf]
    rw [if_pos (by omega), if_pos (by omega), if_pos (by omega)]
    exact joinM_if n s a b c (by omega)
  · rw [if_neg hs, if_neg hs]
theorem argsC_deep (ts : List T) : ∀ acc : T, (ts.map ptOf).foldl (fun (a : Nat) (p : Pt) => max a (1 + p.deep) + if (27 : Int) = 27 then 1 else 0) (acc.depth + 1) = (argsC acc ts).depth + 1 := by
  induction ts with
  | nil => intro acc; rfl
  | cons t r ih =>
    intro acc
    rw [List.map_cons, List.foldl_cons]
    have e : (max (acc.depth + 1) (1 + (ptOf t).deep) + if (27 : Int) = 27 then 1 else 0) = (T.l2 ⟨28, 0, []⟩ acc t).depth + 1 := by
      simp only [T.depth, ptOf, if_true]; omega
    rw [e, ih]; rfl
theorem callT_deep (s : Bytes) (ts : List T) : deepOf 27 (ts.map ptOf) = (callT s ts).depth := by
  cases ts with
  | nil => rfl
  | cons t r =>
    unfold deepOf
    rw [List.map_cons, List.foldl_cons]
    have e : (max 1 (1 + (ptOf t).deep) + if (27 : Int) = 27 then 1 else 0) = (T.l1 ⟨28, 0, []⟩ t).depth + 1 := by
      simp only [T.depth, ptOf, if_true]; omega
    rw [e, argsC_deep]; rfl
theorem argsC_parts (ts : List T) : ∀ acc : T, acc.depth ≤ (argsC acc ts).depth ∧ ∀ t ∈ ts, t.depth ≤ (argsC acc ts).depth := by
  induction ts with
  | nil => intro acc; exact ⟨Nat.le_refl _, by simp⟩
  | cons t r ih =>
    intro acc
    have := ih (.l2 ⟨28, 0, []⟩ acc t)
    rw [argsC]
    simp only [T.depth] at this
    refine ⟨by omega, fun u hu => ?_⟩
    rcases List.mem_cons.1 hu with rfl | hu
    · omega
    · exact this.2 u hu
theorem callT_parts (s : Bytes) (ts : List T) : ∀ t ∈ ts, t.depth ≤ (callT s ts).depth ∧ t.size ≤ (callT s ts).size := by
  intro u hu
  have h2 : u.size ≤ (ts.map T.size).sum := by
    clear s
    induction ts with
    | nil => simp at hu
    | cons t r ih =>
      rw [List.map_cons, List.sum_cons]
      rcases List.mem_cons.1 hu with rfl | hu
      · omega
      · have := ih hu; omega
  refine ⟨?_, by rw [callT_size]; omega⟩
  cases ts with
  | nil => simp at hu
  | cons t r =>
    have := argsC_parts r (.l1 ⟨28, 0, []⟩ t)
    simp only [T.depth] at this
    rw [callT]
    simp only [T.depth]
    rcases List.mem_cons.1 hu with rfl | hu
    · omega
    · have := this.2 u hu; omega
theorem ptOf_call (s : Bytes) (ts : List T) : joined 27 0 s (ts.map ptOf) = ptOf (callT s ts) := by
  unfold joined
  have e : nodesOf 27 (ts.map ptOf) = (callT s ts).size := by
    rw [nodes_eq, if_pos rfl, callT_size, List.map_map, List.length_map]; rfl
  rw [e, callT_deep s]
  show Pt.mk _ _ _ = Pt.mk _ _ _
  congr 1
  by_cases hs : (callT s ts).size ≤ 5000 ∧ (callT s ts).depth ≤ 40
  · rw [if_pos hs, if_pos hs]
    rw [List.map_map]
    have : ts.map (Pt.e ∘ ptOf) = ts.map (fun t => t.flat 0) := List.map_congr_left fun t ht => by
      have := callT_parts s ts t ht
      simp only [Function.comp, ptOf]
      rw [if_pos (by omega)]
    rw [this]
    exact joinM_call s ts (by omega)
  · rw [if_neg hs, if_neg hs]

/-- A tree that may stand as an operand. -/
def okT (t : T) : Prop := t.okB = true ∧ t.lab.op ≠ 28
def okP (p : Pt) : Prop := ∃ t, okT t ∧ p = ptOf t
theorem ok_leaf (o n : Int) (s : Bytes) (h : 1 ≤ o ∧ o ≤ 3) (hp : plainB ⟨o, n, s⟩ = true) : okP (joined o n s []) := by
  refine ⟨_, ⟨?_, ?_⟩, ptOf_zero_op o n s h⟩
  · simp only [T.okB, hp, Bool.true_and]
    have hu : unaryB o = false := by simp [unaryB]; omega
    have hb : binaryB o = false := by simp [binaryB]; omega
    have e26 : o ≠ 26 := by omega
    have e27 : o ≠ 27 := by omega
    have e28 : o ≠ 28 := by omega
    simp [fitsB, hu, hb, e26, e27, e28]
  · simp [T.lab]; omega
theorem ok_un (o n : Int) (a : Pt) (h : unaryB o = true) (hp : plainB ⟨o, n, []⟩ = true) (ha : okP a) : okP (joined o n [] [a]) := by
  obtain ⟨t, ⟨h1, h2⟩, rfl⟩ := ha
  have hu := h
  simp [unaryB] at hu
  have e27 : o ≠ 27 := by omega
  refine ⟨_, ⟨?_, by simp [T.lab]; omega⟩, ptOf_un o n [] t h⟩
  have b1 : (t.lab.op == 28) = false := by simpa using h2
  have b2 : (o == 27) = false := by simpa using e27
  simp [T.okB, hp, fitsB, h, argsT, argsL, h1, b1, b2]
theorem plain_op (o : Int) (h : 4 ≤ o ∧ o ≤ 24) : plainB ⟨o, 0, []⟩ = true := by
  have e1 : o ≠ 1 := by omega
  have e2 : o ≠ 2 := by omega
  have e3 : o ≠ 3 := by omega
  have e25 : o ≠ 25 := by omega
  have e27 : o ≠ 27 := by omega
  simp [plainB, e1, e2, e3, e25, e27]; omega
theorem ok_bin (o : Int) (a b : Pt) (h : binaryB o = true) (ha : okP a) (hb : okP b) : okP (joined o 0 [] [a, b]) := by
  obtain ⟨t, ⟨h1, h2⟩, rfl⟩ := ha
  obtain ⟨u, ⟨h3, h4⟩, rfl⟩ := hb
  have hu := h
  simp [binaryB] at hu
  have hun : unaryB o = false := by simp [unaryB]; omega
  have e26 : o ≠ 26 := by omega
  have e27 : o ≠ 27 := by omega
  have e28 : o ≠ 28 := by omega
  have hp := plain_op o (by omega)
  refine ⟨_, ⟨?_, by simp [T.lab]; omega⟩, ptOf_bin o 0 [] t u h⟩
  have b1 : (t.lab.op == 28) = false := by simpa using h2
  have b3 : (u.lab.op == 28) = false := by simpa using h4
  have b2 : (o == 27) = false := by simpa using e27
  have b4 : (o == 28) = false := by simpa using e28
  simp [T.okB, hp, fitsB, h, hun, argsT, argsL, h1, h3, b1, b2, b3, b4, e26, e27, e28]
theorem ok_if (a b c : Pt) (ha : okP a) (hb : okP b) (hc : okP c) : okP (joined 26 0 [] [a, b, c]) := by
  obtain ⟨t, ⟨h1, h2⟩, rfl⟩ := ha
  obtain ⟨u, ⟨h3, h4⟩, rfl⟩ := hb
  obtain ⟨v, ⟨h5, h6⟩, rfl⟩ := hc
  refine ⟨_, ⟨?_, by simp [T.lab]⟩, ptOf_if 0 [] t u v⟩
  simp [T.okB, plainB, fitsB, unaryB, argsT, argsL, h1, h2, h3, h4, h5, h6]
theorem argsC_ok (ts : List T) (h : ∀ t ∈ ts, okT t) : ∀ acc : T, acc.okB = true → acc.lab.op = 28 → (argsC acc ts).okB = true ∧ (argsC acc ts).lab.op = 28 := by
  induction ts with
  | nil => intro acc h1 h2; exact ⟨h1, h2⟩
  | cons t r ih =>
    intro acc h1 h2
    have ht := h t (by simp)
    refine ih (fun u hu => h u (by simp [hu])) _ ?_ rfl
    have h3 := ht.1
    have h4 := ht.2
    simp [T.okB, plainB, fitsB, unaryB, argsT, argsL, h1, h2, h3, h4]
theorem ok_call (s : Bytes) (ps : List Pt) (hs : s ≠ []) (h : ∀ p ∈ ps, okP p) : okP (joined 27 0 s ps) := by
  obtain ⟨ts, hts, rfl⟩ : ∃ ts : List T, (∀ t ∈ ts, okT t) ∧ ps = ts.map ptOf := by
    induction ps with
    | nil => exact ⟨[], by simp, rfl⟩
    | cons p r ih =>
      obtain ⟨t, ht, rfl⟩ := h p (by simp)
      obtain ⟨ts, h1, rfl⟩ := ih (fun q hq => h q (by simp [hq]))
      exact ⟨t :: ts, by intro u hu; rcases List.mem_cons.1 hu with rfl | hu; exact ht; exact h1 u hu, rfl⟩
  have hp : plainB ⟨27, 0, s⟩ = true := by simp [plainB, hs]
  refine ⟨_, ⟨?_, ?_⟩, ptOf_call s ts⟩
  · cases ts with
    | nil => simp [callT, T.okB, hp, fitsB, unaryB]
    | cons t r =>
      have ht := hts t (by simp)
      have := argsC_ok r (fun u hu => hts u (by simp [hu])) (.l1 ⟨28, 0, []⟩ t) (by simp [T.okB, plainB, fitsB, unaryB, argsT, argsL, ht.1, ht.2]) rfl
      simp [callT, T.okB, hp, fitsB, unaryB, argsT, argsL, this.1, this.2]
  · cases ts <;> simp [callT, T.lab]
def binB (s : Int × Bool) : Bool := binaryB s.1
theorem signs_bin (n : Nat) (h : n ≤ 8) : ∀ x ∈ signsM n, binB x.2 = true := by
  match n, h with
  | 0, _ => simp [signsM]
  | 1, _ => decide
  | 2, _ => decide
  | 3, _ => decide
  | 4, _ => decide
  | 5, _ => decide
  | 6, _ => decide
  | 7, _ => decide
  | 8, _ => decide
theorem sign_bin {r : Rd} {n : Nat} {s : Int × Bool} (hn : n ≤ 8) (h : r.sign n = some s) : binaryB s.1 = true := by
  unfold Rd.sign at h
  split at h
  · exact signs_bin n hn _ (lookup_mem _ _ _ h)
  · cases h
def unB (s : Int × Bool) : Bool := unaryB s.1 && decide (4 ≤ s.1) && decide (s.1 ≤ 25)
theorem signs_un : ∀ x ∈ signsM 9, unB x.2 = true := by decide
theorem sign_un {r : Rd} {s : Int × Bool} (h : r.sign 9 = some s) : unaryB s.1 = true := by
  unfold Rd.sign at h
  split at h
  · have := signs_un _ (lookup_mem _ _ _ h); simp [unB] at this; exact this.1.1
  · cases h
theorem ok_sjoin (s : Int × Bool) (a b : Pt) (h : binaryB s.1 = true) (ha : okP a) (hb : okP b) : okP (sjoin s a b) := by
  unfold sjoin
  split
  · exact ok_bin _ _ _ h hb ha
  · exact ok_bin _ _ _ h ha hb
theorem ok_foldR : ∀ (ps : List Pt) (ops : List (Int × Bool)), ps.length = ops.length + 1 → (∀ p ∈ ps, okP p) → (∀ s ∈ ops, binaryB s.1 = true) → okP (foldR ps ops)
  | p :: ps, o :: os, h, h1, h2 => ok_sjoin o p _ (h2 o (by simp)) (h1 p (by simp)) (ok_foldR ps os (by simpa using h) (fun q hq => h1 q (by simp [hq])) (fun q hq => h2 q (by simp [hq])))
  | p :: _, [], _, h1, _ => h1 p (by simp)
  | [], _, h, _, _ => by simp at h
def Task.tree (r : Rd) : Task → Prop
  | .lev n => n ≤ 9
  | .rl n ps ops => n ≤ 8 ∧ (∀ p ∈ ps, okP p) ∧ (∀ s ∈ ops, binaryB s.1 = true) ∧ ps.length = ops.length + 1
  | .ll n p => n ≤ 8 ∧ okP p
  | .named s => s ≠ []
  | .args s ps => s ≠ [] ∧ ∀ p ∈ ps, okP p
  | _ => True
theorem fail_code (e : Int) (he : e ≠ 0) (r : Rd) : (r.fail e).code ≠ 0 := by
  unfold Rd.fail; split
  · exact he
  · assumption
/-- Behind a fault there is one. -/
theorem run_code : ∀ (f : Nat) (t : Task) (r : Rd) (p : Pt) (r' : Rd), run f t r = some (p, r') → r.code ≠ 0 → r'.code = r.code ∧ r'.at_ = r.at_ := by
  have fl : ∀ (e : Int) (r : Rd), r.code ≠ 0 → (r.fail e).code = r.code ∧ (r.fail e).at_ = r.at_ := fun e r h => by unfold Rd.fail; rw [if_neg h]; exact ⟨rfl, rfl⟩
  have nd : ∀ (s : Bytes) (r : Rd), r.code ≠ 0 → (r.need s).code = r.code ∧ (r.need s).at_ = r.at_ := fun s r h => by
    unfold Rd.need; split
    · exact ⟨rfl, rfl⟩
    · exact fl 5 r h
  have nm : ∀ (m : Nat) (r : Rd), r.code ≠ 0 → (r.numR m).code = r.code ∧ (r.numR m).at_ = r.at_ := fun m r h => by
    unfold Rd.numR; split
    · exact ⟨rfl, rfl⟩
    · exact fl 5 r h
  intro f
  induction f with
  | zero => intro t r p r' h; cases h
  | succ f ih =>
    intro t r p r' h hc
    have IH : ∀ {t : Task} {r1 : Rd} {p : Pt} {r' : Rd}, run f t r1 = some (p, r') → (r1.code = r.code ∧ r1.at_ = r.at_) → r'.code = r.code ∧ r'.at_ = r.at_ := fun h1 h2 => by
      have := ih _ _ _ _ h1 (by rw [h2.1]; exact hc)
      exact ⟨this.1.trans h2.1, this.2.trans h2.2⟩
    have N : ∀ (s : Bytes) {r1 : Rd}, (r1.code = r.code ∧ r1.at_ = r.at_) → (r1.need s).code = r.code ∧ (r1.need s).at_ = r.at_ := fun s {r1} h2 => by
      have := nd s r1 (by rw [h2.1]; exact hc)
      exact ⟨this.1.trans h2.1, this.2.trans h2.2⟩
    cases t with
    | lev n =>
      simp only [run] at h
      split at h
      · exact IH h ⟨rfl, rfl⟩
      · obtain ⟨⟨q, r1⟩, h1, h2⟩ := bind_some h
        simp only at h2
        split at h2 <;> exact IH h2 (IH h1 ⟨rfl, rfl⟩)
    | rl n ps ops =>
      simp only [run] at h
      split at h
      · simp only [Option.some.injEq, Prod.mk.injEq] at h
        obtain ⟨rfl, rfl⟩ := h; exact ⟨rfl, rfl⟩
      · obtain ⟨⟨q, r1⟩, h1, h2⟩ := bind_some h
        exact IH h2 (IH h1 ⟨rfl, rfl⟩)
    | ll n p0 =>
      simp only [run] at h
      split at h
      · simp only [Option.some.injEq, Prod.mk.injEq] at h
        obtain ⟨rfl, rfl⟩ := h; exact ⟨rfl, rfl⟩
      · obtain ⟨⟨q, r1⟩, h1, h2⟩ := bind_some h
        simp only at h2
        split at h2
        · simp only [Option.some.injEq, Prod.mk.injEq] at h2
          obtain ⟨rfl, rfl⟩ := h2; exact IH h1 ⟨rfl, rfl⟩
        · exact IH h2 (IH h1 ⟨rfl, rfl⟩)
    | opnd =>
      simp only [run] at h
      split at h
      · simp only [Option.some.injEq, Prod.mk.injEq] at h
        obtain ⟨rfl, rfl⟩ := h; exact fl 6 r hc
      · split at h
        · obtain ⟨⟨q, r1⟩, h1, h2⟩ := map_some h
          simp only [Prod.mk.injEq] at h2
          obtain ⟨rfl, rfl⟩ := h2
          exact IH (r' := r1) h1 ⟨rfl, rfl⟩
        · obtain ⟨⟨q, r1⟩, h1, h2⟩ := map_some h
          simp only [Prod.mk.injEq] at h2
          obtain ⟨rfl, rfl⟩ := h2
          refine IH (r' := r1) h1 ?_
          split
          · exact nm 1000 r.open_.adv hc
          · exact ⟨rfl, rfl⟩
    | single =>
      simp only [run] at h
      split at h
      · obtain ⟨⟨q, r1⟩, h1, h2⟩ := map_some h
        simp only [Prod.mk.injEq] at h2
        obtain ⟨rfl, rfl⟩ := h2
        exact N _ (IH h1 ⟨rfl, rfl⟩)
      · split at h
        · obtain ⟨⟨a, r1⟩, h1, h⟩ := bind_some h
          obtain ⟨⟨b, r2⟩, h2, h⟩ := bind_some h
          obtain ⟨⟨c, r3⟩, h3, h⟩ := map_some h
          simp only [Prod.mk.injEq] at h
          obtain ⟨rfl, rfl⟩ := h
          exact IH h3 (N _ (IH h2 (N _ (IH h1 ⟨rfl, rfl⟩))))
        · split at h
          · simp only [Option.some.injEq, Prod.mk.injEq] at h
            obtain ⟨rfl, rfl⟩ := h; exact ⟨rfl, rfl⟩
          · split at h
            · simp only [Option.some.injEq, Prod.mk.injEq] at h
              obtain ⟨rfl, rfl⟩ := h; exact ⟨rfl, rfl⟩
            · split at h
              · simp only [Option.some.injEq, Prod.mk.injEq] at h
                obtain ⟨rfl, rfl⟩ := h; exact nm _ r hc
              · split at h
                · exact IH h ⟨rfl, rfl⟩
                · simp only [Option.some.injEq, Prod.mk.injEq] at h
                  obtain ⟨rfl, rfl⟩ := h; exact fl 5 r hc
    | named s =>
      simp only [run] at h
      split at h
      · split at h
        · simp only [Option.some.injEq, Prod.mk.injEq] at h
          obtain ⟨rfl, rfl⟩ := h; exact ⟨rfl, rfl⟩
        · obtain ⟨⟨q, r1⟩, h1, h2⟩ := bind_some h
          exact IH h2 (IH h1 ⟨rfl, rfl⟩)
      · simp only [Option.some.injEq, Prod.mk.injEq] at h
        obtain ⟨rfl, rfl⟩ := h; exact ⟨rfl, rfl⟩
    | args s ps =>
      simp only [run] at h
      split at h
      · obtain ⟨⟨q, r1⟩, h1, h2⟩ := bind_some h
        exact IH h2 (IH h1 ⟨rfl, rfl⟩)
      · simp only [Option.some.injEq, Prod.mk.injEq] at h
        obtain ⟨rfl, rfl⟩ := h; exact nd rp r hc
theorem run_ok0 {f : Nat} {t : Task} {r : Rd} {p : Pt} {r' : Rd} (h : run f t r = some (p, r')) (hc : r'.code = 0) : r.code = 0 := by
  apply Classical.byContradiction
  intro h0
  exact h0 ((run_code f t r p r' h h0).1.symm.trans hc)
theorem need_ok {s : Bytes} {r : Rd} (h : (r.need s).code = 0) : r.isB s = true ∧ r.need s = r.adv := by
  unfold Rd.need at h ⊢
  split at h
  · rename_i hb; exact ⟨hb, by rw [if_pos hb]⟩
  · exact absurd h (fail_code 5 (by decide) r)
theorem numR_ok {m : Nat} {r : Rd} (h : (r.numR m).code = 0) : numB m r.cur = true ∧ r.numR m = r.adv ∧ r.num m = Lx.val r.cur.text := by
  unfold Rd.numR at h ⊢
  split at h
  · rename_i hb; exact ⟨hb, by rw [if_pos hb], by unfold Rd.num; rw [if_pos hb]⟩
  · exact absurd h (fail_code 5 (by decide) r)
/-- What is read without a fault is a tree. -/
theorem run_tree : ∀ (f : Nat) (t : Task) (r : Rd) (p : Pt) (r' : Rd), run f t r = some (p, r') → r'.code = 0 → t.tree r → okP p := by
  intro f
  induction f with
  | zero => intro t r p r' h; cases h
  | succ f ih =>
    intro t r p r' h hc ht
    cases t with
    | lev n =>
      simp only [run] at h
      simp only [Task.tree] at ht
      split at h
      · exact ih .opnd _ _ _ h hc trivial
      · obtain ⟨⟨q, r1⟩, h1, h2⟩ := bind_some h
        simp only at h2
        split at h2
        · exact ih _ _ _ _ h2 hc ⟨by omega, by simpa using ih _ _ _ _ h1 (run_ok0 h2 hc) (by simp only [Task.tree]; omega), by simp, rfl⟩
        · exact ih _ _ _ _ h2 hc ⟨by omega, ih _ _ _ _ h1 (run_ok0 h2 hc) (by simp only [Task.tree]; omega)⟩
    | rl n ps ops =>
      simp only [run] at h
      obtain ⟨hn, h1, h2, h3⟩ := ht
      split at h
      · simp only [Option.some.injEq, Prod.mk.injEq] at h
        obtain ⟨rfl, rfl⟩ := h; exact ok_foldR _ _ h3 h1 h2
      · rename_i s hs
        obtain ⟨⟨q, r1⟩, k1, k2⟩ := bind_some h
        have hq := ih _ _ _ _ k1 (run_ok0 k2 hc) (by simp only [Task.tree]; omega)
        exact ih _ _ _ _ k2 hc ⟨hn, by intro x hx; simp at hx; rcases hx with hx | hx; exact h1 x hx; subst hx; exact hq, by intro x hx; simp at hx; rcases hx with hx | hx; exact h2 x hx; subst hx; exact sign_bin hn hs, by simp [h3]⟩
    | ll n p0 =>
      simp only [run] at h
      obtain ⟨hn, h1⟩ := ht
      split at h
      · simp only [Option.some.injEq, Prod.mk.injEq] at h
        obtain ⟨rfl, rfl⟩ := h; exact h1
      · rename_i s hs
        obtain ⟨⟨q, r1⟩, k1, k2⟩ := bind_some h
        simp only at k2
        split at k2
        · simp only [Option.some.injEq, Prod.mk.injEq] at k2
          obtain ⟨rfl, rfl⟩ := k2
          exact ok_sjoin _ _ _ (sign_bin hn hs) h1 (ih _ _ _ _ k1 hc (by simp only [Task.tree]; omega))
        · exact ih _ _ _ _ k2 hc ⟨hn, ok_sjoin _ _ _ (sign_bin hn hs) h1 (ih _ _ _ _ k1 (run_ok0 k2 hc) (by simp only [Task.tree]; omega))⟩
    | opnd =>
      simp only [run] at h
      split at h
      · simp only [Option.some.injEq, Prod.mk.injEq] at h
        obtain ⟨rfl, rfl⟩ := h; exact absurd hc (fail_code 6 (by decide) r)
      · split at h
        · obtain ⟨⟨q, r1⟩, h1, h2⟩ := map_some h
          simp only [Prod.mk.injEq] at h2
          obtain ⟨rfl, rfl⟩ := h2
          exact ih .single _ _ _ h1 hc trivial
        · rename_i s hs
          obtain ⟨⟨q, r1⟩, h1, h2⟩ := map_some h
          simp only [Prod.mk.injEq] at h2
          obtain ⟨rfl, rfl⟩ := h2
          have hq := ih .opnd _ _ _ h1 hc trivial
          have hu := sign_un hs
          have hso := sign_ops hs
          refine ok_un _ _ _ hu ?_ hq
          split
          · rename_i h25
            rw [if_pos h25] at h1
            obtain ⟨hb, _, hv⟩ := numR_ok (run_ok0 h1 hc)
            rw [hv]
            simp [numB] at hb
            have := hb.2
            rw [h25]
            simp [plainB]; omega
          · exact plain_op _ (by omega)
    | single =>
      simp only [run] at h
      split at h
      · obtain ⟨⟨q, r1⟩, h1, h2⟩ := map_some h
        simp only [Prod.mk.injEq] at h2
        obtain ⟨rfl, rfl⟩ := h2
        have := need_ok hc
        rw [this.2] at hc
        exact ih _ _ _ _ h1 hc (by simp [Task.tree])
      · split at h
        · obtain ⟨⟨a, r1⟩, h1, h⟩ := bind_some h
          obtain ⟨⟨b, r2⟩, h2, h⟩ := bind_some h
          obtain ⟨⟨c, r3⟩, h3, h⟩ := map_some h
          simp only [Prod.mk.injEq] at h
          obtain ⟨rfl, rfl⟩ := h
          have c2 := run_ok0 h3 hc
          rw [(need_ok c2).2] at c2
          have c1 := run_ok0 h2 c2
          rw [(need_ok c1).2] at c1
          exact ok_if _ _ _ (ih _ _ _ _ h1 c1 (by simp [Task.tree])) (ih _ _ _ _ h2 c2 (by simp [Task.tree])) (ih _ _ _ _ h3 hc (by simp [Task.tree]))
        · split at h
          · simp only [Option.some.injEq, Prod.mk.injEq] at h
            obtain ⟨rfl, rfl⟩ := h; exact ok_leaf 2 1 [] (by decide) (by decide)
          · split at h
            · simp only [Option.some.injEq, Prod.mk.injEq] at h
              obtain ⟨rfl, rfl⟩ := h; exact ok_leaf 2 0 [] (by decide) (by decide)
            · split at h
              · simp only [Option.some.injEq, Prod.mk.injEq] at h
                obtain ⟨rfl, rfl⟩ := h
                obtain ⟨hb, _, hv⟩ := numR_ok hc
                rw [hv]
                simp [numB] at hb
                exact ok_leaf 1 _ [] (by decide) (by simp [plainB]; omega)
              · split at h
                · rename_i hk
                  exact ih (.named r.cur.text) _ _ _ h hc hk.2
                · simp only [Option.some.injEq, Prod.mk.injEq] at h
                  obtain ⟨rfl, rfl⟩ := h; exact absurd hc (fail_code 5 (by decide) r)
    | named s =>
      simp only [run] at h
      simp only [Task.tree] at ht
      split at h
      · split at h
        · simp only [Option.some.injEq, Prod.mk.injEq] at h
          obtain ⟨rfl, rfl⟩ := h; exact ok_call s [] ht (by simp)
        · obtain ⟨⟨q, r1⟩, h1, h2⟩ := bind_some h
          exact ih _ _ _ _ h2 hc ⟨ht, by simpa using ih _ _ _ _ h1 (run_ok0 h2 hc) (by simp [Task.tree])⟩
      · simp only [Option.some.injEq, Prod.mk.injEq] at h
        obtain ⟨rfl, rfl⟩ := h; exact ok_leaf 3 0 s (by decide) (by simp [plainB, ht])
    | args s ps =>
      simp only [run] at h
      obtain ⟨hs, hps⟩ := ht
      split at h
      · obtain ⟨⟨q, r1⟩, h1, h2⟩ := bind_some h
        have hq := ih _ _ _ _ h1 (run_ok0 h2 hc) (by simp [Task.tree])
        exact ih _ _ _ _ h2 hc ⟨hs, by intro x hx; simp at hx; rcases hx with hx | hx; exact hps x hx; subst hx; exact hq⟩
      · simp only [Option.some.injEq, Prod.mk.injEq] at h
        obtain ⟨rfl, rfl⟩ := h; exact ok_call s ps hs hps
end Go.Proofs.YtgohhnbdicdenaaDoor.Ex

/- What a reader reads among other tokens: what stands ahead, behind, and where tokens stand, is of no moment. Conditions: as each says. -/
namespace Go.Proofs.YtgohhnbdicdenaaDoor.Ex
open Go.Proofs.YtgohhnbdicdenaaDoor.Tr
set_option linter.unusedVariables false
set_option linter.unusedSimpArgs false

theorem fine0 {r : Rd} (h : r.code = 0) : r.fine := fun hc => absurd h hc
/-- Whoever reads without a fault has a token to read. -/
theorem run_lt {f : Nat} {t : Task} {r : Rd} {p : Pt} {r' : Rd} (h : run f t r = some (p, r')) (hc : r'.code = 0) (hp : t.pre r) (ht : t.tree r) (hb : t.base = 0) : r.next < r.l.length := by
  obtain ⟨s, _, hm⟩ := run_step f t r p r' h (fine0 (run_ok0 h hc)) hp
  obtain ⟨u, _, rfl⟩ := run_tree f t r p r' h hc ht
  have h1 := u.size_pos
  have h2 : (ptOf u).nodes = u.size := rfl
  have h0 := run_ok0 h hc
  have h3 := s.top
  unfold Rd.mu at hm
  rw [h0, hc, hb, h2] at hm
  simp at hm
  omega

def Task.low : Task → Nat
  | .rl _ ps ops => (ps.map Pt.nodes).sum + ops.length
  | .ll _ p => p.nodes
  | .args _ ps => 1 + (ps.map Pt.nodes).sum + ps.length
  | .named _ => 1
  | _ => 0
def Task.shape : Task → Prop
  | .rl n ps ops => ps.length = ops.length + 1 ∧ ∀ s ∈ ops, s.1 ≤ 25
  | _ => True
theorem foldR_low : ∀ (ps : List Pt) (ops : List (Int × Bool)), ps.length = ops.length + 1 → (∀ s ∈ ops, s.1 ≤ 25) → (ps.map Pt.nodes).sum + ops.length ≤ (foldR ps ops).nodes
  | p :: ps, o :: os, h, h2 => by
    have := foldR_low ps os (by simpa using h) (fun q hq => h2 q (by simp [hq]))
    show _ ≤ (sjoin o p (foldR ps os)).nodes
    rw [sjoin_nodes _ _ _ (h2 o (by simp))]; simp; omega
  | [p], [], _, _ => by show _ ≤ p.nodes; simp
  | _ :: _ :: _, [], h, _ => by simp at h
  | [], _, h, _ => by simp at h
/-- What is read has what had been read. -/
theorem run_low : ∀ (f : Nat) (t : Task) (r : Rd) (p : Pt) (r' : Rd), run f t r = some (p, r') → t.shape → t.low ≤ p.nodes := by
  intro f
  induction f with
  | zero => intro t r p r' h; cases h
  | succ f ih =>
    intro t r p r' h ht
    cases t with
    | lev n => exact Nat.zero_le _
    | opnd => exact Nat.zero_le _
    | single => exact Nat.zero_le _
    | rl n ps ops =>
      simp only [run] at h
      obtain ⟨h1, h2⟩ := ht
      split at h
      · simp only [Option.some.injEq, Prod.mk.injEq] at h
        obtain ⟨rfl, rfl⟩ := h
        exact foldR_low ps ops h1 h2
      · rename_i s hs
        obtain ⟨⟨q, r1⟩, k1, k2⟩ := bind_some h
        have := ih _ _ _ _ k2 ⟨by simp [h1], by intro x hx; simp at hx; rcases hx with hx | hx; exact h2 x hx; subst hx; exact (sign_ops hs).2⟩
        simp only [Task.low, List.map_append, List.sum_append, List.length_append] at this ⊢
        omega
    | ll n p0 =>
      simp only [run] at h
      split at h
      · simp only [Option.some.injEq, Prod.mk.injEq] at h
        obtain ⟨rfl, rfl⟩ := h
        exact Nat.le_refl _
      · rename_i s hs
        obtain ⟨⟨q, r1⟩, k1, k2⟩ := bind_some h
        have hj := sjoin_nodes s p0 q (sign_ops hs).2
        simp only at k2
        split at k2
        · simp only [Option.some.injEq, Prod.mk.injEq] at k2
          obtain ⟨rfl, rfl⟩ := k2
          simp only [Task.low]; omega
        · have := ih _ _ _ _ k2 trivial
          simp only [Task.low] at this ⊢; omega
    | named s =>
      simp only [run] at h
      split at h
      · split at h
        · simp only [Option.some.injEq, Prod.mk.injEq] at h
          obtain ⟨rfl, rfl⟩ := h
          rw [joined_nodes]; simp [Task.low]
        · obtain ⟨⟨q, r1⟩, k1, k2⟩ := bind_some h
          have := ih _ _ _ _ k2 trivial
          simp only [Task.low] at this ⊢; omega
      · simp only [Option.some.injEq, Prod.mk.injEq] at h
        obtain ⟨rfl, rfl⟩ := h
        rw [joined_nodes]; simp [Task.low]
    | args s ps =>
      simp only [run] at h
      split at h
      · obtain ⟨⟨q, r1⟩, k1, k2⟩ := bind_some h
        have := ih _ _ _ _ k2 trivial
        simp only [Task.low, List.map_append, List.sum_append, List.length_append] at this ⊢
        omega
      · simp only [Option.some.injEq, Prod.mk.injEq] at h
        obtain ⟨rfl, rfl⟩ := h
        rw [joined_nodes, if_pos rfl]
        exact Nat.le_refl _

/-- No expression goes on with the first of these tokens. -/
def Stop (x : List Tok) : Prop := ∀ t, x[0]? = some t → (t.kind = 3 ∨ t.kind = 4) → t.text ≠ lp ∧ ∀ n, n ≤ 8 → (signsM n).lookup t.text = none
def Like (l m : List Tok) : Prop := m.length = l.length ∧ ∀ (i : Nat) t, l[i]? = some t → ∃ u : Tok, m[i]? = some u ∧ u.kind = t.kind ∧ u.text = t.text

structure Sim (pre m x l : List Tok) (d : Nat) (r q : Rd) : Prop where
  rl : r.l = l
  ql : q.l = pre ++ m ++ x
  rc : r.code = 0
  qc : q.code = 0
  nx : q.next = pre.length + r.next
  le : r.next ≤ l.length
  bg : q.begun = r.begun + d
section
variable {pre m x l : List Tok} {d : Nat} {r q : Rd}
theorem Sim.cur (h : Sim pre m x l d r q) (hl : Like l m) (hlt : r.next < l.length) : q.cur.kind = r.cur.kind ∧ q.cur.text = r.cur.text ∧ q.next < q.l.length ∧ r.next < r.l.length := by
  obtain ⟨t, ht⟩ : ∃ t, l[r.next]? = some t := ⟨_, List.getElem?_eq_getElem hlt⟩
  obtain ⟨u, hu, hk, htx⟩ := hl.2 _ _ ht
  have e1 : r.cur = t := by unfold Rd.cur; rw [h.rl, ht]; rfl
  have e2 : q.cur = u := by
    unfold Rd.cur
    rw [h.ql, h.nx, List.append_assoc, List.getElem?_append_right (by omega), List.getElem?_append_left (by rw [hl.1]; omega), Nat.add_sub_cancel_left, hu]; rfl
  rw [e1, e2]
  refine ⟨hk, htx, ?_, by rw [h.rl]; exact hlt⟩
  rw [h.ql, h.nx, List.length_append, List.length_append, hl.1]; omega
theorem Sim.ws (h : Sim pre m x l d r q) (hl : Like l m) (hlt : r.next < l.length) : q.ws = r.ws := by
  obtain ⟨h1, h2, h3, h4⟩ := h.cur hl hlt
  unfold Rd.ws
  rw [h1]; simp [h3, h4]
theorem Sim.isB (h : Sim pre m x l d r q) (hl : Like l m) (hlt : r.next < l.length) (s : Bytes) : q.isB s = r.isB s := by
  unfold Rd.isB
  rw [h.ws hl hlt, (h.cur hl hlt).2.1]
theorem Sim.sign (h : Sim pre m x l d r q) (hl : Like l m) (hlt : r.next < l.length) (n : Nat) : q.sign n = r.sign n := by
  unfold Rd.sign
  rw [h.ws hl hlt, (h.cur hl hlt).2.1]
theorem Sim.numB (h : Sim pre m x l d r q) (hl : Like l m) (hlt : r.next < l.length) (k : Nat) : numB k q.cur = numB k r.cur := by
  unfold Ex.numB
  rw [(h.cur hl hlt).1, (h.cur hl hlt).2.1]
theorem Sim.adv (h : Sim pre m x l d r q) (hlt : r.next < l.length) : Sim pre m x l d r.adv q.adv :=
  ⟨h.rl, h.ql, h.rc, h.qc, by simp [Rd.adv, h.nx]; omega, by simp [Rd.adv]; omega, h.bg⟩
theorem Sim.open_ (h : Sim pre m x l d r q) : Sim pre m x l d r.open_ q.open_ := ⟨h.rl, h.ql, h.rc, h.qc, h.nx, h.le, by simp [Rd.open_, h.bg]; omega⟩
theorem Sim.shut (h : Sim pre m x l d r q) (hb : 1 ≤ r.begun) : Sim pre m x l d r.shut q.shut := ⟨h.rl, h.ql, h.rc, h.qc, h.nx, h.le, by simp [Rd.shut, h.bg]; omega⟩
theorem end_ws (h : Sim pre m x l d r q) (he : r.next = l.length) : r.ws = false := by
  unfold Rd.ws; rw [h.rl, he]; simp
theorem end_sign (h : Sim pre m x l d r q) (he : r.next = l.length) (n : Nat) : r.sign n = none := by
  unfold Rd.sign; rw [end_ws h he]; rfl
theorem end_isB (h : Sim pre m x l d r q) (he : r.next = l.length) (s : Bytes) : r.isB s = false := by
  unfold Rd.isB; rw [end_ws h he]; rfl
theorem end_cur (h : Sim pre m x l d r q) (hl : Like l m) (he : r.next = l.length) : q.cur = (x[0]?).getD noTok := by
  unfold Rd.cur
  rw [h.ql, h.nx, he, List.append_assoc, List.getElem?_append_right (by omega), List.getElem?_append_right (by rw [hl.1]; omega), hl.1]
  congr 2; omega
theorem stop_sign (h : Sim pre m x l d r q) (hl : Like l m) (he : r.next = l.length) (hx : Stop x) (n : Nat) (hn : n ≤ 8) : q.sign n = none := by
  unfold Rd.sign
  split
  · rename_i hw
    have hc := end_cur h hl he
    have hlt := ws_lt hw
    simp only [Rd.ws, Bool.and_eq_true, Bool.or_eq_true, beq_iff_eq] at hw
    cases h0 : x[0]? with
    | none => rw [hc, h0] at hw; simp [noTok] at hw
    | some t =>
      rw [hc, h0] at hw ⊢
      exact (hx t h0 hw.2).2 n hn
  · rfl
theorem stop_lp (h : Sim pre m x l d r q) (hl : Like l m) (he : r.next = l.length) (hx : Stop x) : q.isB lp = false := by
  unfold Rd.isB
  cases hw : q.ws with
  | false => rfl
  | true =>
    have hc := end_cur h hl he
    simp only [Rd.ws, Bool.and_eq_true, Bool.or_eq_true, beq_iff_eq] at hw
    cases h0 : x[0]? with
    | none => rw [hc, h0] at hw; simp [noTok] at hw
    | some t =>
      rw [hc, h0] at hw ⊢
      have := (hx t h0 hw.2).1
      simpa using this
end
def Same (pre m x l : List Tok) (d : Nat) (p p' : Pt) (r' q' : Rd) : Prop :=
  (0 < d ∧ q'.code = 6) ∨ (p' = p ∧ Sim pre m x l d r' q') ∨ (r'.next = l.length ∧ r'.l = l ∧ ¬ Stop x ∧ (q'.code = 0 → p.nodes ≤ p'.nodes))

theorem need_code6 {q : Rd} (s : Bytes) (h : q.code = 6) : (q.need s).code = 6 := by
  unfold Rd.need
  split
  · exact h
  · unfold Rd.fail; rw [if_neg (by omega)]; exact h
theorem end_rl {f n : Nat} {ps : List Pt} {ops : List (Int × Bool)} {r : Rd} {p : Pt} {r' : Rd} (h : run f (.rl n ps ops) r = some (p, r')) (he : r.next = r.l.length) : p = foldR ps ops ∧ r' = r := by
  cases f with
  | zero => cases h
  | succ f =>
    have hs : r.sign n = none := by unfold Rd.sign Rd.ws; rw [he]; simp
    simp only [run, hs, Option.some.injEq, Prod.mk.injEq] at h
    exact ⟨h.1.symm, h.2.symm⟩
theorem end_ll {f n : Nat} {p0 : Pt} {r : Rd} {p : Pt} {r' : Rd} (h : run f (.ll n p0) r = some (p, r')) (he : r.next = r.l.length) : p = p0 ∧ r' = r := by
  cases f with
  | zero => cases h
  | succ f =>
    have hs : r.sign n = none := by unfold Rd.sign Rd.ws; rw [he]; simp
    simp only [run, hs, Option.some.injEq, Prod.mk.injEq] at h
    exact ⟨h.1.symm, h.2.symm⟩
theorem end_args {f : Nat} {s : Bytes} {ps : List Pt} {r : Rd} {p : Pt} {r' : Rd} (h : run f (.args s ps) r = some (p, r')) (hc : r'.code = 0) : r.next < r.l.length := by
  cases f with
  | zero => cases h
  | succ f =>
    simp only [run] at h
    split at h
    · rename_i hb; exact isB_lt hb
    · simp only [Option.some.injEq, Prod.mk.injEq] at h
      obtain ⟨_, rfl⟩ := h
      exact isB_lt (need_ok hc).1

theorem run_sim {pre m x l : List Tok} {d : Nat} (hl : Like l m) : ∀ (f g : Nat) (t : Task) (r q : Rd) (p p' : Pt) (r' q' : Rd),
    run f t r = some (p, r') → run g t q = some (p', q') → r'.code = 0 → t.pre r → t.tree r → Sim pre m x l d r q → Same pre m x l d p p' r' q' := by
  intro f
  induction f with
  | zero => intro g t r q p p' r' q' h; cases h
  | succ f ih =>
    intro g t r q p p' r' q' h k hc hpre htree hS
    cases g with
    | zero => cases k
    | succ g =>
    cases t with
    | lev n =>
      simp only [run] at h k
      simp only [Task.pre] at hpre
      split at h
      · rename_i h9
        rw [if_pos h9] at k
        exact ih _ .opnd _ _ _ _ _ _ h k hc trivial trivial hS
      · rename_i h9
        rw [if_neg h9] at k
        obtain ⟨⟨a, r1⟩, h1, h2⟩ := bind_some h
        obtain ⟨⟨b, q1⟩, k1, k2⟩ := bind_some k
        simp only at h2 k2
        have hn : n + 1 ≤ 9 := by omega
        have hc1 : r1.code = 0 := by split at h2 <;> exact run_ok0 h2 hc
        have ha := run_tree _ _ _ _ _ h1 hc1 (by simp only [Task.tree]; omega)
        have hao := (run_step _ _ _ _ _ h1 (fine0 hS.rc) (by simp only [Task.pre]; omega)).2.1
        rcases ih _ _ _ _ _ _ _ _ h1 k1 hc1 (by simp only [Task.pre]; omega) (by simp only [Task.tree]; omega) hS with ⟨hd, h6⟩ | ⟨rfl, hS1⟩ | ⟨he, hrl, hns, hle⟩
        · left; refine ⟨hd, ?_⟩
          split at k2 <;> (have := (run_code _ _ _ _ _ k2 (by omega)).1; omega)
        · split at h2
          · rename_i hn2
            rw [if_pos hn2] at k2
            exact ih _ _ _ _ _ _ _ _ h2 k2 hc ⟨by omega, by simp [hao], by simp⟩ ⟨by omega, by simpa using ha, by simp, rfl⟩ hS1
          · rename_i hn2
            rw [if_neg hn2] at k2
            exact ih _ _ _ _ _ _ _ _ h2 k2 hc ⟨by omega, hao⟩ ⟨by omega, ha⟩ hS1
        · right; right
          split at h2
          · rename_i hn2
            rw [if_pos hn2] at k2
            obtain ⟨rfl, rfl⟩ := end_rl h2 (by rw [hrl]; exact he)
            refine ⟨he, hrl, hns, fun hq => ?_⟩
            have := run_low _ _ _ _ _ k2 ⟨rfl, by simp⟩
            have h0 := hle (run_ok0 k2 hq)
            simp [Task.low] at this
            omega
          · rename_i hn2
            rw [if_neg hn2] at k2
            obtain ⟨rfl, rfl⟩ := end_ll h2 (by rw [hrl]; exact he)
            refine ⟨he, hrl, hns, fun hq => ?_⟩
            have := run_low _ _ _ _ _ k2 trivial
            have h0 := hle (run_ok0 k2 hq)
            simp [Task.low] at this
            omega
    | rl n ps ops =>
      obtain ⟨hn, hps, hops⟩ := hpre
      obtain ⟨_, hps2, hops2, hlen⟩ := htree
      by_cases hlt : r.next < l.length
      · simp only [run] at h k
        rw [hS.sign hl hlt n] at k
        split at h
        · rename_i hs
          rw [hs] at k
          simp only [Option.some.injEq, Prod.mk.injEq] at h k
          obtain ⟨rfl, rfl⟩ := h
          obtain ⟨rfl, rfl⟩ := k
          exact .inr (.inl ⟨rfl, hS⟩)
        · rename_i s hs
          rw [hs] at k
          obtain ⟨⟨a, r1⟩, h1, h2⟩ := bind_some h
          obtain ⟨⟨b, q1⟩, k1, k2⟩ := bind_some k
          simp only at h2 k2
          have hc1 := run_ok0 h2 hc
          have ha := run_tree _ _ _ _ _ h1 hc1 (by simp only [Task.tree]; omega)
          have hao := (run_step _ _ _ _ _ h1 (fine0 hS.rc) (by simp only [Task.pre]; omega)).2.1
          rcases ih _ _ _ _ _ _ _ _ h1 k1 hc1 (by simp only [Task.pre]; omega) (by simp only [Task.tree]; omega) (hS.adv hlt) with ⟨hd, h6⟩ | ⟨rfl, hS1⟩ | ⟨he, hrl, hns, hle⟩
          · left; exact ⟨hd, by have := (run_code _ _ _ _ _ k2 (by omega)).1; omega⟩
          · exact ih _ _ _ _ _ _ _ _ h2 k2 hc
              ⟨hn, by intro y hy; simp at hy; rcases hy with hy | hy; exact hps y hy; subst hy; exact hao, by intro y hy; simp at hy; rcases hy with hy | hy; exact hops y hy; subst hy; exact (sign_ops hs).2⟩
              ⟨hn, by intro y hy; simp at hy; rcases hy with hy | hy; exact hps2 y hy; subst hy; exact ha, by intro y hy; simp at hy; rcases hy with hy | hy; exact hops2 y hy; subst hy; exact sign_bin hn hs, by simp [hlen]⟩ hS1
          · right; right
            obtain ⟨rfl, rfl⟩ := end_rl h2 (by rw [hrl]; exact he)
            refine ⟨he, hrl, hns, fun hq => ?_⟩
            have hso : ∀ y ∈ ops ++ [s], y.1 ≤ 25 := by intro y hy; simp at hy; rcases hy with hy | hy; exact hops y hy; subst hy; exact (sign_ops hs).2
            have h3 := run_low _ _ _ _ _ k2 ⟨by simp [hlen], hso⟩
            have h4 := foldR_nodes (ps ++ [a]) (ops ++ [s]) hso
            have h0 := hle (run_ok0 k2 hq)
            simp only [Task.low, List.map_append, List.map_cons, List.map_nil, List.sum_append, List.sum_cons, List.sum_nil, List.length_append, List.length_cons, List.length_nil] at h3 h4
            omega
      · have he : r.next = l.length := by have := hS.le; omega
        obtain ⟨rfl, rfl⟩ := end_rl h (by rw [hS.rl]; exact he)
        by_cases hx : Stop x
        · simp only [run] at k
          rw [stop_sign hS hl he hx n hn] at k
          simp only [Option.some.injEq, Prod.mk.injEq] at k
          obtain ⟨rfl, rfl⟩ := k
          exact .inr (.inl ⟨rfl, hS⟩)
        · right; right
          refine ⟨he, hS.rl, hx, fun hq => ?_⟩
          have h3 := run_low _ _ _ _ _ k ⟨hlen, hops⟩
          have h4 := foldR_nodes ps ops hops
          simp only [Task.low] at h3
          omega
    | ll n p0 =>
      obtain ⟨hn, hp0⟩ := hpre
      obtain ⟨_, hp2⟩ := htree
      by_cases hlt : r.next < l.length
      · simp only [run] at h k
        rw [hS.sign hl hlt n] at k
        split at h
        · rename_i hs
          rw [hs] at k
          simp only [Option.some.injEq, Prod.mk.injEq] at h k
          obtain ⟨rfl, rfl⟩ := h
          obtain ⟨rfl, rfl⟩ := k
          exact .inr (.inl ⟨rfl, hS⟩)
        · rename_i s hs
          rw [hs] at k
          obtain ⟨⟨a, r1⟩, h1, h2⟩ := bind_some h
          obtain ⟨⟨b, q1⟩, k1, k2⟩ := bind_some k
          simp only at h2 k2
          have hc1 : r1.code = 0 := by
            split at h2
            · simp only [Option.some.injEq, Prod.mk.injEq] at h2
              rw [h2.2]; exact hc
            · exact run_ok0 h2 hc
          have ha := run_tree _ _ _ _ _ h1 hc1 (by simp only [Task.tree]; omega)
          have hao := (run_step _ _ _ _ _ h1 (fine0 hS.rc) (by simp only [Task.pre]; omega)).2.1
          have hja := sjoin_nodes s p0 a (sign_ops hs).2
          have hjb := sjoin_nodes s p0 b (sign_ops hs).2
          rcases ih _ _ _ _ _ _ _ _ h1 k1 hc1 (by simp only [Task.pre]; omega) (by simp only [Task.tree]; omega) (hS.adv hlt) with ⟨hd, h6⟩ | ⟨rfl, hS1⟩ | ⟨he, hrl, hns, hle⟩
          · left; refine ⟨hd, ?_⟩
            split at k2
            · simp only [Option.some.injEq, Prod.mk.injEq] at k2
              rw [← k2.2]; exact h6
            · have := (run_code _ _ _ _ _ k2 (by omega)).1; omega
          · split at h2
            · rename_i h6
              rw [if_pos h6] at k2
              simp only [Option.some.injEq, Prod.mk.injEq] at h2 k2
              obtain ⟨rfl, rfl⟩ := h2
              obtain ⟨rfl, rfl⟩ := k2
              exact .inr (.inl ⟨rfl, hS1⟩)
            · rename_i h6
              rw [if_neg h6] at k2
              exact ih _ _ _ _ _ _ _ _ h2 k2 hc ⟨hn, sjoin_ok _ _ _ hp0 hao⟩ ⟨hn, ok_sjoin _ _ _ (sign_bin hn hs) hp2 ha⟩ hS1
          · right; right
            split at h2
            · rename_i h6
              rw [if_pos h6] at k2
              simp only [Option.some.injEq, Prod.mk.injEq] at h2 k2
              obtain ⟨rfl, rfl⟩ := h2
              obtain ⟨rfl, rfl⟩ := k2
              exact ⟨he, hrl, hns, fun hq => by have := hle hq; omega⟩
            · rename_i h6
              rw [if_neg h6] at k2
              obtain ⟨rfl, rfl⟩ := end_ll h2 (by rw [hrl]; exact he)
              refine ⟨he, hrl, hns, fun hq => ?_⟩
              have h3 := run_low _ _ _ _ _ k2 trivial
              have h0 := hle (run_ok0 k2 hq)
              simp only [Task.low] at h3
              omega
      · have he : r.next = l.length := by have := hS.le; omega
        obtain ⟨rfl, rfl⟩ := end_ll h (by rw [hS.rl]; exact he)
        by_cases hx : Stop x
        · simp only [run] at k
          rw [stop_sign hS hl he hx n hn] at k
          simp only [Option.some.injEq, Prod.mk.injEq] at k
          obtain ⟨rfl, rfl⟩ := k
          exact .inr (.inl ⟨rfl, hS⟩)
        · right; right
          refine ⟨he, hS.rl, hx, fun hq => ?_⟩
          have h3 := run_low _ _ _ _ _ k trivial
          simpa [Task.low] using h3
    | opnd =>
      have hlt : r.next < l.length := by rw [← hS.rl]; exact run_lt h hc trivial trivial rfl
      simp only [run] at h k
      split at h
      · simp only [Option.some.injEq, Prod.mk.injEq] at h
        obtain ⟨_, rfl⟩ := h; exact absurd hc (fail_code 6 (by decide) r)
      · rename_i h200
        split at k
        · rename_i q200
          simp only [Option.some.injEq, Prod.mk.injEq] at k
          obtain ⟨_, rfl⟩ := k
          left
          have := hS.bg
          refine ⟨by omega, ?_⟩
          unfold Rd.fail; rw [if_pos hS.qc]
        · have hSo := hS.open_
          rw [hSo.sign hl hlt 9] at k
          split at h
          · rename_i hs
            rw [hs] at k
            obtain ⟨⟨a, r1⟩, h1, h2⟩ := map_some h
            obtain ⟨⟨b, q1⟩, k1, k2⟩ := map_some k
            simp only [Prod.mk.injEq] at h2 k2
            obtain ⟨rfl, rfl⟩ := h2
            obtain ⟨rfl, rfl⟩ := k2
            have hbg := (run_step _ .single _ _ _ h1 (fine0 hSo.rc) trivial).1.beg
            rcases ih _ .single _ _ _ _ _ _ h1 k1 hc trivial trivial hSo with ⟨hd, h6⟩ | ⟨rfl, hS1⟩ | ⟨he, hrl, hns, hle⟩
            · exact .inl ⟨hd, h6⟩
            · exact .inr (.inl ⟨rfl, hS1.shut (by rw [hbg]; simp [Rd.open_])⟩)
            · exact .inr (.inr ⟨he, hrl, hns, hle⟩)
          · rename_i s hs
            rw [hs] at k
            obtain ⟨⟨a, r1⟩, h1, h2⟩ := map_some h
            obtain ⟨⟨b, q1⟩, k1, k2⟩ := map_some k
            simp only [Prod.mk.injEq] at h2 k2
            obtain ⟨rfl, rfl⟩ := h2
            obtain ⟨rfl, rfl⟩ := k2
            have hso := sign_ops hs
            have hSa := hSo.adv hlt
            have hw : Sim pre m x l d (if s.1 = 25 then r.open_.adv.numR 1000 else r.open_.adv) (if s.1 = 25 then q.open_.adv.numR 1000 else q.open_.adv) ∧
                (if s.1 = 25 then (r.open_.adv.num 1000 : Int) else 0) = (if s.1 = 25 then (q.open_.adv.num 1000 : Int) else 0) := by
              split
              · rename_i h25
                rw [if_pos h25] at h1
                obtain ⟨hb, e1, e2⟩ := numR_ok (run_ok0 h1 hc)
                have hlt2 : r.open_.adv.next < l.length := by rw [← hSa.rl]; exact num_lt hb
                have hb2 : numB 1000 q.open_.adv.cur = true := by rw [hSa.numB hl hlt2]; exact hb
                refine ⟨?_, ?_⟩
                · rw [e1]; unfold Rd.numR; rw [if_pos hb2]; exact hSa.adv hlt2
                · rw [e2]; unfold Rd.num; rw [if_pos hb2, (hSa.cur hl hlt2).2.1]
              · exact ⟨hSa, rfl⟩
            have hbg := (run_step _ .opnd _ _ _ h1 (fine0 hw.1.rc) trivial).1.beg
            have hbg2 : (if s.1 = 25 then r.open_.adv.numR 1000 else r.open_.adv).begun = r.begun + 1 := by
              split
              · exact (numR_step 1000 _ (fine0 hSa.rc)).beg
              · rfl
            have hna := joined_nodes s.1 (if s.1 = 25 then (r.open_.adv.num 1000 : Int) else 0) [] [a]
            have hnb := joined_nodes s.1 (if s.1 = 25 then (q.open_.adv.num 1000 : Int) else 0) [] [b]
            rw [if_neg (show ¬ s.1 = 27 by omega)] at hna hnb
            simp only [List.map_cons, List.map_nil, List.sum_cons, List.sum_nil] at hna hnb
            rcases ih _ .opnd _ _ _ _ _ _ h1 k1 hc trivial trivial hw.1 with ⟨hd, h6⟩ | ⟨rfl, hS1⟩ | ⟨he, hrl, hns, hle⟩
            · exact .inl ⟨hd, h6⟩
            · exact .inr (.inl ⟨by rw [hw.2], hS1.shut (by rw [hbg, hbg2]; omega)⟩)
            · exact .inr (.inr ⟨he, hrl, hns, fun hq => by have := hle hq; omega⟩)
    | single =>
      have hlt : r.next < l.length := by rw [← hS.rl]; exact run_lt h hc trivial trivial rfl
      simp only [run] at h k
      simp only [hS.isB hl hlt, (hS.cur hl hlt).1, (hS.cur hl hlt).2.1] at k
      split at h
      · rename_i hb
        rw [if_pos hb] at k
        obtain ⟨⟨a, r1⟩, h1, h2⟩ := map_some h
        obtain ⟨⟨b, q1⟩, k1, k2⟩ := map_some k
        simp only [Prod.mk.injEq] at h2 k2
        obtain ⟨rfl, rfl⟩ := h2
        obtain ⟨rfl, rfl⟩ := k2
        have hnd := need_ok hc
        have hc1 : r1.code = 0 := by rw [hnd.2] at hc; exact hc
        have hlt1 := isB_lt hnd.1
        rcases ih _ _ _ _ _ _ _ _ h1 k1 hc1 (by simp [Task.pre]) (by simp [Task.tree]) (hS.adv hlt) with ⟨hd, h6⟩ | ⟨rfl, hS1⟩ | ⟨he, hrl, hns, hle⟩
        · exact .inl ⟨hd, need_code6 _ h6⟩
        · rw [hS1.rl] at hlt1
          refine .inr (.inl ⟨rfl, ?_⟩)
          rw [hnd.2]; unfold Rd.need; rw [hS1.isB hl hlt1, if_pos hnd.1]; exact hS1.adv hlt1
        · rw [hrl] at hlt1; omega
      · rename_i hb
        rw [if_neg hb] at k
        split at h
        · rename_i hb
          rw [if_pos hb] at k
          obtain ⟨⟨a, r1⟩, h1, h⟩ := bind_some h
          obtain ⟨⟨b, r2⟩, h2, h⟩ := bind_some h
          obtain ⟨⟨c, r3⟩, h3, h⟩ := map_some h
          simp only [Prod.mk.injEq] at h
          obtain ⟨rfl, rfl⟩ := h
          obtain ⟨⟨a', q1⟩, k1, k⟩ := bind_some k
          obtain ⟨⟨b', q2⟩, k2, k⟩ := bind_some k
          obtain ⟨⟨c', q3⟩, k3, k⟩ := map_some k
          simp only at h2 h3 k2 k3
          simp only [Prod.mk.injEq] at k
          obtain ⟨rfl, rfl⟩ := k
          have c2 := run_ok0 h3 hc
          have n2 := need_ok c2
          have c2' := c2
          rw [n2.2] at c2'
          have c1 := run_ok0 h2 c2'
          have n1 := need_ok c1
          have c1' := c1
          rw [n1.2] at c1'
          have l1 := isB_lt n1.1
          have l2 := isB_lt n2.1
          rcases ih _ _ _ _ _ _ _ _ h1 k1 c1' (by simp [Task.pre]) (by simp [Task.tree]) (hS.adv hlt) with ⟨hd, h6⟩ | ⟨rfl, hS1⟩ | ⟨he, hrl, hns, hle⟩
          · have e1 := need_code6 [116, 104, 101, 110] h6
            have e2 := (run_code _ _ _ _ _ k2 (by omega)).1
            have e3 := need_code6 [101, 108, 115, 101] (e2.trans e1)
            have e4 := (run_code _ _ _ _ _ k3 (by omega)).1
            exact .inl ⟨hd, e4.trans e3⟩
          · rw [hS1.rl] at l1
            have hS1' : Sim pre m x l d (r1.need [116, 104, 101, 110]) (q1.need [116, 104, 101, 110]) := by
              rw [n1.2]; unfold Rd.need; rw [hS1.isB hl l1, if_pos n1.1]; exact hS1.adv l1
            rcases ih _ _ _ _ _ _ _ _ h2 k2 c2' (by simp [Task.pre]) (by simp [Task.tree]) hS1' with ⟨hd, h6⟩ | ⟨rfl, hS2⟩ | ⟨he, hrl, hns, hle⟩
            · have e3 := need_code6 [101, 108, 115, 101] h6
              have e4 := (run_code _ _ _ _ _ k3 (by omega)).1
              exact .inl ⟨hd, e4.trans e3⟩
            · rw [hS2.rl] at l2
              have hS2' : Sim pre m x l d (r2.need [101, 108, 115, 101]) (q2.need [101, 108, 115, 101]) := by
                rw [n2.2]; unfold Rd.need; rw [hS2.isB hl l2, if_pos n2.1]; exact hS2.adv l2
              rcases ih _ _ _ _ _ _ _ _ h3 k3 hc (by simp [Task.pre]) (by simp [Task.tree]) hS2' with ⟨hd, h6⟩ | ⟨rfl, hS3⟩ | ⟨he, hrl, hns, hle⟩
              · exact .inl ⟨hd, h6⟩
              · exact .inr (.inl ⟨rfl, hS3⟩)
              · refine .inr (.inr ⟨he, hrl, hns, fun hq => ?_⟩)
                have := hle hq
                rw [joined_nodes, joined_nodes]; simp; omega
            · rw [hrl] at l2; omega
          · rw [hrl] at l1; omega
        · rename_i hb
          rw [if_neg hb] at k
          split at h
          · rename_i hb
            rw [if_pos hb] at k
            simp only [Option.some.injEq, Prod.mk.injEq] at h k
            obtain ⟨rfl, rfl⟩ := h
            obtain ⟨rfl, rfl⟩ := k
            exact .inr (.inl ⟨rfl, hS.adv hlt⟩)
          · rename_i hb
            rw [if_neg hb] at k
            split at h
            · rename_i hb
              rw [if_pos hb] at k
              simp only [Option.some.injEq, Prod.mk.injEq] at h k
              obtain ⟨rfl, rfl⟩ := h
              obtain ⟨rfl, rfl⟩ := k
              exact .inr (.inl ⟨rfl, hS.adv hlt⟩)
            · rename_i hb
              rw [if_neg hb] at k
              split at h
              · rename_i hb
                rw [if_pos hb] at k
                simp only [Option.some.injEq, Prod.mk.injEq] at h k
                obtain ⟨rfl, rfl⟩ := h
                obtain ⟨rfl, rfl⟩ := k
                obtain ⟨hn, e1, e2⟩ := numR_ok hc
                have hn2 : numB 2147483647 q.cur = true := by rw [hS.numB hl hlt]; exact hn
                refine .inr (.inl ⟨?_, ?_⟩)
                · rw [e2]; unfold Rd.num; rw [if_pos hn2, (hS.cur hl hlt).2.1]
                · rw [e1]; unfold Rd.numR; rw [if_pos hn2]; exact hS.adv hlt
              · rename_i hb
                rw [if_neg hb] at k
                split at h
                · rename_i hb
                  rw [if_pos hb] at k
                  exact ih _ (.named r.cur.text) _ _ _ _ _ _ h k hc (by show r.next < r.l.length; rw [hS.rl]; exact hlt) hb.2 hS
                · simp only [Option.some.injEq, Prod.mk.injEq] at h
                  obtain ⟨_, rfl⟩ := h; exact absurd hc (fail_code 5 (by decide) r)
    | named s =>
      have hlt : r.next < l.length := by rw [← hS.rl]; exact hpre
      have hlow := run_low _ _ _ _ _ k trivial
      simp only [run] at h k
      have hSa := hS.adv hlt
      by_cases hlt2 : r.adv.next < l.length
      · rw [hSa.isB hl hlt2] at k
        split at h
        · rename_i hb
          rw [if_pos hb] at k
          have hSb := hSa.adv hlt2
          split at h
          · rename_i hb2
            have hlt3 := isB_lt hb2
            rw [hSb.rl] at hlt3
            rw [hSb.isB hl hlt3, if_pos hb2] at k
            simp only [Option.some.injEq, Prod.mk.injEq] at h k
            obtain ⟨rfl, rfl⟩ := h
            obtain ⟨rfl, rfl⟩ := k
            exact .inr (.inl ⟨rfl, hSb.adv hlt3⟩)
          · rename_i hb2
            obtain ⟨⟨a, r1⟩, h1, h2⟩ := bind_some h
            have hc1 := run_ok0 h2 hc
            have hlt3 := run_lt h1 hc1 (by simp [Task.pre]) (by simp [Task.tree]) rfl
            rw [hSb.rl] at hlt3
            rw [hSb.isB hl hlt3, if_neg hb2] at k
            obtain ⟨⟨b, q1⟩, k1, k2⟩ := bind_some k
            simp only at h2 k2
            have ha := run_tree _ _ _ _ _ h1 hc1 (by simp [Task.tree])
            have hao := (run_step _ _ _ _ _ h1 (fine0 hSb.rc) (by simp [Task.pre])).2.1
            rcases ih _ _ _ _ _ _ _ _ h1 k1 hc1 (by simp [Task.pre]) (by simp [Task.tree]) hSb with ⟨hd, h6⟩ | ⟨rfl, hS1⟩ | ⟨he, hrl, hns, hle⟩
            · left; exact ⟨hd, by have := (run_code _ _ _ _ _ k2 (by omega)).1; omega⟩
            · exact ih _ _ _ _ _ _ _ _ h2 k2 hc (by simp [Task.pre, hao]) ⟨htree, by simpa using ha⟩ hS1
            · have := end_args h2 hc
              rw [hrl] at this; omega
        · rename_i hb
          rw [if_neg hb] at k
          simp only [Option.some.injEq, Prod.mk.injEq] at h k
          obtain ⟨rfl, rfl⟩ := h
          obtain ⟨rfl, rfl⟩ := k
          exact .inr (.inl ⟨rfl, hSa⟩)
      · have he : r.adv.next = l.length := by have := hSa.le; omega
        rw [end_isB hSa he] at h
        simp only [Bool.false_eq_true, if_false, Option.some.injEq, Prod.mk.injEq] at h
        obtain ⟨rfl, rfl⟩ := h
        by_cases hx : Stop x
        · rw [stop_lp hSa hl he hx] at k
          simp only [Bool.false_eq_true, if_false, Option.some.injEq, Prod.mk.injEq] at k
          obtain ⟨rfl, rfl⟩ := k
          exact .inr (.inl ⟨rfl, hSa⟩)
        · refine .inr (.inr ⟨he, hSa.rl, hx, fun _ => ?_⟩)
          rw [joined_nodes]; simpa [Task.low] using hlow
    | args s ps =>
      have hlt := end_args h hc
      rw [hS.rl] at hlt
      obtain ⟨hs, hps⟩ := htree
      simp only [run] at h k
      rw [hS.isB hl hlt] at k
      split at h
      · rename_i hb
        rw [if_pos hb] at k
        obtain ⟨⟨a, r1⟩, h1, h2⟩ := bind_some h
        obtain ⟨⟨b, q1⟩, k1, k2⟩ := bind_some k
        simp only at h2 k2
        have hc1 := run_ok0 h2 hc
        have ha := run_tree _ _ _ _ _ h1 hc1 (by simp [Task.tree])
        have hao := (run_step _ _ _ _ _ h1 (fine0 hS.rc) (by simp [Task.pre])).2.1
        rcases ih _ _ _ _ _ _ _ _ h1 k1 hc1 (by simp [Task.pre]) (by simp [Task.tree]) (hS.adv hlt) with ⟨hd, h6⟩ | ⟨rfl, hS1⟩ | ⟨he, hrl, hns, hle⟩
        · left; exact ⟨hd, by have := (run_code _ _ _ _ _ k2 (by omega)).1; omega⟩
        · exact ih _ _ _ _ _ _ _ _ h2 k2 hc (by intro y hy; simp at hy; rcases hy with hy | hy; exact hpre y hy; subst hy; exact hao) ⟨hs, by intro y hy; simp at hy; rcases hy with hy | hy; exact hps y hy; subst hy; exact ha⟩ hS1
        · have := end_args h2 hc
          rw [hrl] at this; omega
      · rename_i hb
        rw [if_neg hb] at k
        simp only [Option.some.injEq, Prod.mk.injEq] at h k
        obtain ⟨rfl, rfl⟩ := h
        obtain ⟨rfl, rfl⟩ := k
        have hnd := need_ok hc
        refine .inr (.inl ⟨rfl, ?_⟩)
        rw [hnd.2]; unfold Rd.need; rw [hS.isB hl hlt, if_pos hnd.1]; exact hS.adv hlt
end Go.Proofs.YtgohhnbdicdenaaDoor.Ex

/- What reading tells of round signs, of what stands behind, of faults: plain facts. Conditions: none. -/
namespace Go.Proofs.YtgohhnbdicdenaaDoor.Ex
open Go.Proofs.YtgohhnbdicdenaaDoor.Tr
set_option linter.unusedVariables false
set_option linter.unusedSimpArgs false

/-- What a level's reading is of an operand's. -/
theorem lev_opnd : ∀ (k n : Nat), n + k = 9 → ∀ (g : Nat) (q : Rd) (p' : Pt) (q' : Rd), run g (.lev n) q = some (p', q') →
    ∃ f a b, run f .opnd q = some (a, b) ∧ ((∀ n, n ≤ 8 → b.sign n = none) → p' = a ∧ q' = b) ∧ (b.code ≠ 0 → q'.code = b.code) := by
  intro k
  induction k with
  | zero =>
    intro n hn g q p' q' h
    cases g with
    | zero => cases h
    | succ g =>
      simp only [run] at h
      rw [if_pos (by omega)] at h
      exact ⟨g, p', q', h, fun _ => ⟨rfl, rfl⟩, fun _ => rfl⟩
  | succ k ih =>
    intro n hn g q p' q' h
    cases g with
    | zero => cases h
    | succ g =>
      simp only [run] at h
      rw [if_neg (by omega)] at h
      obtain ⟨⟨a, r1⟩, h1, h2⟩ := bind_some h
      obtain ⟨f, a', b, e1, e2, e3⟩ := ih (n + 1) (by omega) g q a r1 h1
      refine ⟨f, a', b, e1, fun hs => ?_, fun hc => ?_⟩
      · obtain ⟨rfl, rfl⟩ := e2 hs
        simp only at h2
        cases g with
        | zero => split at h2 <;> cases h2
        | succ g =>
          split at h2
          · simp only [run, hs n (by omega), Option.some.injEq, Prod.mk.injEq] at h2
            exact ⟨by rw [← h2.1]; rfl, h2.2.symm⟩
          · simp only [run, hs n (by omega), Option.some.injEq, Prod.mk.injEq] at h2
            exact ⟨h2.1.symm, h2.2.symm⟩
      · have h3 := e3 hc
        simp only at h2
        split at h2
        · have := (run_code _ _ _ _ _ h2 (by omega)).1; omega
        · have := (run_code _ _ _ _ _ h2 (by omega)).1; omega

/-- An operand in round signs. -/
theorem opnd_paren {f : Nat} {q : Rd} {a : Pt} {b : Rd} (h : run f .opnd q = some (a, b)) (hb : q.begun ≠ 200) (hp : q.open_.isB lp = true) :
    ∃ f' r1, run f' (.lev 1) q.open_.adv = some (a, r1) ∧ b = (r1.need rp).shut := by
  cases f with
  | zero => cases h
  | succ f =>
    have hs : q.open_.sign 9 = none := by
      unfold Rd.sign
      unfold Rd.isB at hp
      simp only [Bool.and_eq_true, beq_iff_eq] at hp
      rw [if_pos hp.1, hp.2]
      decide
    simp only [run, if_neg hb, hs] at h
    obtain ⟨⟨x, r2⟩, h1, h2⟩ := map_some h
    simp only [Prod.mk.injEq] at h2
    obtain ⟨rfl, rfl⟩ := h2
    cases f with
    | zero => cases h1
    | succ f =>
      simp only [run, if_pos hp] at h1
      obtain ⟨⟨y, r3⟩, h3, h4⟩ := map_some h1
      simp only [Prod.mk.injEq] at h4
      obtain ⟨rfl, rfl⟩ := h4
      exact ⟨f, r3, h3, rfl⟩

theorem shift_like (l : List Tok) (k : Nat) : Like l (l.map (Lx.Tok.shift k)) :=
  ⟨by simp, fun i t h => ⟨Lx.Tok.shift k t, by simp [h], rfl, rfl⟩⟩
theorem Like.self (l : List Tok) : Like l l := ⟨rfl, fun i t h => ⟨t, h, rfl, rfl⟩⟩

/-- A source's tokens, in round signs. -/
theorem lex_round {s : Bytes} {l : List Tok} (hs : s.length ≤ 1500) (h : Lx.lexM s = .ok l) :
    Lx.lexM (40 :: (s ++ [10, 41])) = .ok (⟨4, [40], 0⟩ :: (l.map (Lx.Tok.shift 1) ++ [⟨4, [41], s.length + 2⟩])) := by
  have e : 40 :: (s ++ [10, 41]) = (40 :: s) ++ 10 :: [41] := rfl
  have h1 : Lx.one (40 :: s) = ([40], 4, 0) := by
    have e1 : Lx.signOf (40 :: s) = [40] := by
      unfold Lx.signOf
      have : Lx.signs2.contains ((40 :: s).take 2) = false := by
        cases s with
        | nil => decide
        | cons c r => simp [Lx.signs2]
      rw [this]; rfl
    unfold Lx.one
    rw [show Lx.digitB ((40 :: s).headD 0) = false from rfl, show Lx.ofNameB ((40 :: s).headD 0) = false from rfl, e1]
    rfl
  have h2 : Lx.lexS (40 :: s) 0 = Lx.Res.cons ⟨4, [40], 0⟩ (Lx.lexS s 1) := by
    rw [Lx.lexS_cons 40 s 0 (by decide) (by intro h; exact absurd h.1 (by decide)) (by rw [h1]), h1]; rfl
  have h3 : Lx.lexS s 1 = .ok (l.map (Lx.Tok.shift 1)) := by
    have := Lx.lexS_shift s 0 1
    rw [Nat.zero_add] at this
    rw [this, ← Lx.lexM_S s (by omega), h]; rfl
  rw [e, Lx.lexM_S _ (by simp; omega), Lx.lex_line _ (40 :: s) [41] 0 (Nat.le_refl _), h2, h3]
  have h4 : Lx.lexS [41] (0 + (40 :: s).length + 1) = .ok [⟨4, [41], s.length + 2⟩] := by
    have := Lx.lexS_shift [41] 0 (0 + (40 :: s).length + 1)
    rw [Nat.zero_add] at this
    rw [this, show Lx.lexS [41] 0 = .ok [⟨4, [41], 0⟩] from by decide +kernel]
    simp [Lx.Res.shift, Lx.Tok.shift]
  rw [h4]
  rfl

theorem read_bad {s : Bytes} (h : (readM s).2.1 ≠ 0) : (readM s).1 = [] := by
  unfold readM at h ⊢
  split
  · rfl
  · rename_i l hl
    rw [hl] at h
    simp only at h
    split
    · rfl
    · rename_i h2
      rw [if_neg h2] at h
      simp only at h ⊢
      unfold parseM at h ⊢
      split
      · rename_i x hx
        rw [hx] at h
        obtain ⟨p, r⟩ := x
        simp only [parseOf] at h ⊢
        split
        · rfl
        · rename_i h3
          split
          · rfl
          · rename_i h4
            split
            · rfl
            · rename_i h5
              rw [if_neg h3, if_neg h4, if_neg h5] at h
              exact absurd rfl h
      · rfl

def rd0 (l : List Tok) : Rd := ⟨l, 0, 0, 0, 0⟩
theorem rd_total (l : List Tok) : ∃ p r, run (fuelOf l 0) (.lev 1) (rd0 l) = some (p, r) := by
  obtain ⟨⟨p, r⟩, h⟩ := run_total (fuelOf l 0) (.lev 1) (rd0 l) (fun hc => absurd rfl hc) (by simp [Task.pre]) (by unfold fuelOf Rd.rem Task.wt rd0; simp; omega)
  exact ⟨p, r, h⟩
/-- What is parsed without a fault. -/
structure Parsed (l : List Tok) (p : Pt) (r : Rd) : Prop where
  eq : run (fuelOf l 0) (.lev 1) (rd0 l) = some (p, r)
  code : r.code = 0
  nodes : p.nodes ≤ 5000
  deep : p.deep ≤ 40
theorem Parsed.val {l : List Tok} {p : Pt} {r : Rd} (h : Parsed l p r) : parseM l 0 = (p.e, r.next, 0, 0) := by
  have e := h.eq
  unfold rd0 at e
  unfold parseM
  rw [e]
  simp only [parseOf]
  rw [if_neg (by simp [h.code]), if_neg (by have := h.nodes; omega), if_neg (by have := h.deep; omega)]
theorem parsed_of {l : List Tok} (h : (parseM l 0).2.2.1 = 0) : ∃ p r, Parsed l p r := by
  obtain ⟨p, r, e⟩ := rd_total l
  have e' := e
  unfold rd0 at e'
  unfold parseM at h
  rw [e'] at h
  simp only [parseOf] at h
  refine ⟨p, r, ?_⟩
  by_cases h1 : r.code ≠ 0
  · rw [if_pos h1] at h; exact absurd h h1
  · rw [if_neg h1] at h
    by_cases h2 : 5000 < p.nodes
    · rw [if_pos h2] at h; cases h
    · rw [if_neg h2] at h
      by_cases h3 : 40 < p.deep
      · rw [if_pos h3] at h; cases h
      · exact ⟨e, by omega, by omega, by omega⟩
theorem Parsed.step {l : List Tok} {p : Pt} {r : Rd} (h : Parsed l p r) : Step (rd0 l) r := (run_step _ _ _ _ _ h.eq (fun hc => absurd rfl hc) (by simp [Task.pre])).1
theorem Parsed.next_le {l : List Tok} {p : Pt} {r : Rd} (h : Parsed l p r) : r.next ≤ l.length := by
  have := h.step.top; simp [rd0] at this; exact this
theorem Parsed.pos {l : List Tok} {p : Pt} {r : Rd} (h : Parsed l p r) : 0 < l.length := by
  have := run_lt h.eq h.code (by simp [Task.pre]) (by simp [Task.tree]) rfl
  exact this
theorem Parsed.ok {l : List Tok} {p : Pt} {r : Rd} (h : Parsed l p r) : ∃ t, okT t ∧ p = ptOf t ∧ p.e = t.flat 0 ∧ t.size ≤ 5000 ∧ t.depth ≤ 40 := by
  obtain ⟨t, ht, rfl⟩ := run_tree _ _ _ _ _ h.eq h.code (by simp [Task.tree])
  have h1 := h.nodes
  have h2 := h.deep
  simp only [ptOf] at h1 h2
  exact ⟨t, ht, rfl, by simp only [ptOf]; rw [if_pos ⟨h1, h2⟩], h1, h2⟩
theorem Parsed.len {l : List Tok} {p : Pt} {r : Rd} (h : Parsed l p r) : p.e.length = p.nodes := by
  obtain ⟨t, ht, rfl, he, _⟩ := h.ok
  rw [he, T.flat_len]; rfl
theorem Parsed.may {l : List Tok} {p : Pt} {r : Rd} (h : Parsed l p r) : May p.e := by
  obtain ⟨t, ht, rfl, he, h1, h2⟩ := h.ok
  rw [he]; exact may_flat t ht.1 ht.2 h1 h2
/-- What is read without a fault. -/
theorem read_ok {s : Bytes} (h : (readM s).2.1 = 0) : ∃ l p r, Lx.lexM s = .ok l ∧ Parsed l p r ∧ r.next = l.length ∧ readM s = (p.e, 0, 0) := by
  unfold readM at h
  cases hl : Lx.lexM s with
  | bad c a =>
    rw [hl] at h
    simp only at h
    exfalso
    by_cases hs : 100000 < s.length
    · unfold Lx.lexM at hl; rw [if_pos hs] at hl; cases hl; cases h
    · exact (Lx.lexM_code _ (by omega) c a hl).1 h
  | ok l =>
    rw [hl] at h
    simp only at h
    by_cases hc : (parseM l 0).2.2.1 = 0 ∧ (parseM l 0).2.1 < l.length
    · rw [if_pos hc] at h; cases h
    · rw [if_neg hc] at h
      simp only at h
      obtain ⟨p, r, hp⟩ := parsed_of h
      have hv := hp.val
      have hn := hp.next_le
      have he : r.next = l.length := by
        rw [hv] at hc
        have : ¬ r.next < l.length := fun hlt => hc ⟨rfl, hlt⟩
        omega
      refine ⟨l, p, r, rfl, hp, he, ?_⟩
      unfold readM
      rw [hl]
      simp only
      rw [if_neg hc, hv]
def stopB (T : Bytes) : Bool := (T != lp) && [0, 1, 2, 3, 4, 5, 6, 7, 8].all fun n => (signsM n).lookup T == none
theorem stop_of {T : Bytes} (h : stopB T = true) (k : Int) (a : Nat) : Stop [⟨k, T, a⟩] := by
  intro t ht _
  simp at ht; subst ht
  simp only [stopB, Bool.and_eq_true, bne_iff_ne, ne_eq, List.all_eq_true, beq_iff_eq] at h
  exact ⟨h.1, fun n hn => h.2 n (by simp; omega)⟩
theorem stop_rp (a : Nat) : Stop [⟨4, [41], a⟩] := stop_of (by decide) _ _

/-- Round signs around what is read. -/
theorem round_law {s : Bytes} (hs : s.length ≤ 1500) (h : (readM s).2.1 = 0) :
    May (readM s).1 ∧ ((readM (40 :: (s ++ [10, 41]))).2.1 = 6 ∨ ((readM (40 :: (s ++ [10, 41]))).2.1 = 0 ∧ (readM (40 :: (s ++ [10, 41]))).1 = (readM s).1)) := by
  obtain ⟨l, p, r, hl, hp, hn, hr⟩ := read_ok h
  rw [hr]
  refine ⟨hp.may, ?_⟩
  have hL := lex_round hs hl
  obtain ⟨L, hLe⟩ : ∃ L, (⟨4, [40], 0⟩ :: (l.map (Lx.Tok.shift 1) ++ [⟨4, [41], s.length + 2⟩]) : List Tok) = L := ⟨_, rfl⟩
  rw [hLe] at hL
  obtain ⟨p', q', e⟩ := rd_total L
  obtain ⟨f, a, b, e1, e2, e3⟩ := lev_opnd 8 1 rfl _ _ _ _ e
  have h0 : (rd0 L).open_.isB lp = true := by
    subst hLe
    simp [Rd.isB, Rd.ws, Rd.cur, Rd.open_, rd0, lp]
  obtain ⟨f', r1, e4, rfl⟩ := opnd_paren e1 (by simp [rd0]) h0
  have hsim : Sim [⟨4, [40], 0⟩] (l.map (Lx.Tok.shift 1)) [⟨4, [41], s.length + 2⟩] l 1 (rd0 l) (rd0 L).open_.adv :=
    ⟨rfl, by rw [← hLe]; rfl, rfl, rfl, rfl, Nat.zero_le _, rfl⟩
  rcases run_sim (shift_like l 1) _ _ _ _ _ _ _ _ _ hp.eq e4 hp.code (by simp [Task.pre]) (by simp [Task.tree]) hsim with ⟨_, h6⟩ | ⟨rfl, hS⟩ | ⟨_, _, hns, _⟩
  · left
    have hc : (r1.need rp).shut.code = 6 := need_code6 rp h6
    have hq := e3 (by omega)
    rw [hc] at hq
    unfold rd0 at e
    unfold readM
    rw [hL]
    have : (parseM L 0).2.2.1 = 6 := by
      unfold parseM; rw [e]; simp only [parseOf]; rw [if_pos (by omega)]; exact hq
    simp only
    rw [if_neg (by omega)]
    exact this
  · right
    have hlen : L.length = l.length + 2 := by rw [← hLe]; simp
    have hnx : r1.next = 1 + l.length := by have := hS.nx; rw [hn] at this; exact this
    have hcur : r1.cur = ⟨4, [41], s.length + 2⟩ := by
      rw [end_cur hS (shift_like l 1) hn]; rfl
    have hB : r1.isB rp = true := by
      unfold Rd.isB Rd.ws
      rw [hcur, hS.ql]
      simp [hnx, rp]; omega
    have hneed : r1.need rp = r1.adv := by unfold Rd.need; rw [if_pos hB]
    have hend : (r1.need rp).shut.next = (r1.need rp).shut.l.length := by
      rw [hneed]
      show r1.next + 1 = r1.l.length
      rw [hnx, hS.ql]; simp; omega
    obtain ⟨rfl, rfl⟩ := e2 (fun n _ => by unfold Rd.sign Rd.ws; rw [hend]; simp)
    have hP : Parsed L p' (r1.need rp).shut := ⟨e, by rw [hneed]; exact hS.qc, hp.nodes, hp.deep⟩
    have hv := hP.val
    have hnl : (r1.need rp).shut.next = L.length := by rw [hneed]; show r1.next + 1 = _; omega
    unfold readM
    rw [hL]
    simp only
    rw [hv, if_neg (by simp only; omega)]
    exact ⟨rfl, rfl⟩
  · exact absurd (stop_rp _) hns

/-- What stands behind what is read. -/
theorem behind_law {s : Bytes} {l : List Tok} (hl : Lx.lexM s = .ok l) (h : (readM s).2.1 = 0) (t : Tok) (ht : Stop [t]) :
    parseM (l ++ [t]) 0 = ((readM s).1, l.length, 0, 0) := by
  obtain ⟨l', p, r, hl', hp, hn, hr⟩ := read_ok h
  obtain rfl : l = l' := by rw [hl] at hl'; cases hl'; rfl
  obtain ⟨p', q', e⟩ := rd_total (l ++ [t])
  have hsim : Sim [] l [t] l 0 (rd0 l) (rd0 (l ++ [t])) := ⟨rfl, rfl, rfl, rfl, rfl, Nat.zero_le _, rfl⟩
  rcases run_sim (Like.self l) _ _ _ _ _ _ _ _ _ hp.eq e hp.code (by simp [Task.pre]) (by simp [Task.tree]) hsim with ⟨h0, _⟩ | ⟨rfl, hS⟩ | ⟨_, _, hns, _⟩
  · omega
  · have hP : Parsed (l ++ [t]) p' q' := ⟨e, hS.qc, hp.nodes, hp.deep⟩
    rw [hP.val, hr]
    have := hS.nx
    rw [hn] at this
    simp at this
    rw [this]
  · exact absurd ht hns

/-- Without its last token an expression is none, or one that is no longer. -/
theorem less_law {s : Bytes} (h : (readM s).2.1 = 0) : ∃ l, Lx.lexM s = .ok l ∧ 0 < l.length ∧
    ((parseM (l.take (l.length - 1)) 0).2.2.1 = 0 → (parseM (l.take (l.length - 1)) 0).2.1 < l.length ∧ (parseM (l.take (l.length - 1)) 0).1.length ≤ (readM s).1.length) := by
  obtain ⟨l, p, r, hl, hp, hn, hr⟩ := read_ok h
  have hpos := hp.pos
  refine ⟨l, hl, hpos, fun hc => ?_⟩
  obtain ⟨p1, r1, hq⟩ := parsed_of hc
  rw [hq.val, hr]
  have hnl := hq.next_le
  rw [List.length_take] at hnl
  refine ⟨by simp only; omega, ?_⟩
  show p1.e.length ≤ p.e.length
  have hsp : l = l.take (l.length - 1) ++ l.drop (l.length - 1) := (List.take_append_drop _ l).symm
  have hsim : Sim [] (l.take (l.length - 1)) (l.drop (l.length - 1)) (l.take (l.length - 1)) 0 (rd0 (l.take (l.length - 1))) (rd0 l) := ⟨rfl, hsp, rfl, rfl, rfl, Nat.zero_le _, rfl⟩
  rw [hq.len, hp.len]
  rcases run_sim (Like.self _) _ _ _ _ _ _ _ _ _ hq.eq hp.eq hq.code (by simp [Task.pre]) (by simp [Task.tree]) hsim with ⟨h0, _⟩ | ⟨rfl, hS⟩ | ⟨_, _, hns, hle⟩
  · omega
  · exact Nat.le_refl _
  · exact hle hp.code
end Go.Proofs.YtgohhnbdicdenaaDoor.Ex

/- A fault of reading is at a token, or at the end: plain facts. Conditions: none. -/
namespace Go.Proofs.YtgohhnbdicdenaaDoor.Ex
open Go.Proofs.YtgohhnbdicdenaaDoor.Tr
set_option linter.unusedVariables false
set_option linter.unusedSimpArgs false

/-- A reader of these tokens, or one that has failed at one. -/
def Inv (L : List Tok) (r : Rd) : Prop := (r.code = 0 ∧ r.l = L) ∨ (r.code ≠ 0 ∧ ∃ i, r.at_ = atM L i)
variable {L : List Tok} {r : Rd}
theorem Inv.adv (h : Inv L r) : Inv L r.adv := h
theorem Inv.open_ (h : Inv L r) : Inv L r.open_ := h
theorem Inv.shut (h : Inv L r) : Inv L r.shut := h
theorem Inv.fail (h : Inv L r) {e : Int} (he : e ≠ 0) : Inv L (r.fail e) := by
  unfold Rd.fail
  rcases h with ⟨h1, h2⟩ | ⟨h1, h2⟩
  · rw [if_pos h1]; exact .inr ⟨he, r.next, by rw [h2]⟩
  · rw [if_neg h1]; exact .inr ⟨h1, h2⟩
theorem Inv.need (h : Inv L r) (s : Bytes) : Inv L (r.need s) := by
  unfold Rd.need
  split
  · exact h.adv
  · exact h.fail (by decide)
theorem Inv.num (h : Inv L r) (m : Nat) : Inv L (r.numR m) := by
  unfold Rd.numR
  split
  · exact h.adv
  · exact h.fail (by decide)
theorem run_inv : ∀ (f : Nat) (t : Task) (r : Rd) (p : Pt) (r' : Rd), run f t r = some (p, r') → Inv L r → Inv L r' := by
  intro f
  induction f with
  | zero => intro t r p r' h; cases h
  | succ f ih =>
    intro t r p r' h hI
    cases t with
    | lev n =>
      simp only [run] at h
      split at h
      · exact ih _ _ _ _ h hI
      · obtain ⟨⟨a, r1⟩, h1, h2⟩ := bind_some h
        have := ih _ _ _ _ h1 hI
        simp only at h2
        split at h2 <;> exact ih _ _ _ _ h2 this
    | rl n ps ops =>
      simp only [run] at h
      split at h
      · simp only [Option.some.injEq, Prod.mk.injEq] at h; rw [← h.2]; exact hI
      · obtain ⟨⟨a, r1⟩, h1, h2⟩ := bind_some h
        exact ih _ _ _ _ h2 (ih _ _ _ _ h1 hI.adv)
    | ll n p0 =>
      simp only [run] at h
      split at h
      · simp only [Option.some.injEq, Prod.mk.injEq] at h; rw [← h.2]; exact hI
      · obtain ⟨⟨a, r1⟩, h1, h2⟩ := bind_some h
        have := ih _ _ _ _ h1 hI.adv
        simp only at h2
        split at h2
        · simp only [Option.some.injEq, Prod.mk.injEq] at h2; rw [← h2.2]; exact this
        · exact ih _ _ _ _ h2 this
    | opnd =>
      simp only [run] at h
      split at h
      · simp only [Option.some.injEq, Prod.mk.injEq] at h; rw [← h.2]; exact hI.fail (by decide)
      · split at h
        · obtain ⟨⟨a, r1⟩, h1, h2⟩ := map_some h
          simp only [Prod.mk.injEq] at h2
          rw [← h2.2]; exact (ih _ _ _ _ h1 hI.open_).shut
        · obtain ⟨⟨a, r1⟩, h1, h2⟩ := map_some h
          simp only [Prod.mk.injEq] at h2
          rw [← h2.2]
          refine (ih _ _ _ _ h1 ?_).shut
          split
          · exact (hI.open_.adv).num _
          · exact hI.open_.adv
    | single =>
      simp only [run] at h
      split at h
      · obtain ⟨⟨a, r1⟩, h1, h2⟩ := map_some h
        simp only [Prod.mk.injEq] at h2
        rw [← h2.2]; exact (ih _ _ _ _ h1 hI.adv).need _
      · split at h
        · obtain ⟨⟨a, r1⟩, h1, h⟩ := bind_some h
          obtain ⟨⟨b, r2⟩, h2, h⟩ := bind_some h
          obtain ⟨⟨c, r3⟩, h3, h⟩ := map_some h
          simp only [Prod.mk.injEq] at h
          rw [← h.2]
          exact ih _ _ _ _ h3 ((ih _ _ _ _ h2 ((ih _ _ _ _ h1 hI.adv).need _)).need _)
        · split at h
          · simp only [Option.some.injEq, Prod.mk.injEq] at h; rw [← h.2]; exact hI.adv
          · split at h
            · simp only [Option.some.injEq, Prod.mk.injEq] at h; rw [← h.2]; exact hI.adv
            · split at h
              · simp only [Option.some.injEq, Prod.mk.injEq] at h; rw [← h.2]; exact hI.num _
              · split at h
                · exact ih _ _ _ _ h hI
                · simp only [Option.some.injEq, Prod.mk.injEq] at h; rw [← h.2]; exact hI.fail (by decide)
    | named s =>
      simp only [run] at h
      split at h
      · split at h
        · simp only [Option.some.injEq, Prod.mk.injEq] at h; rw [← h.2]; exact hI.adv.adv.adv
        · obtain ⟨⟨a, r1⟩, h1, h2⟩ := bind_some h
          exact ih _ _ _ _ h2 (ih _ _ _ _ h1 hI.adv.adv)
      · simp only [Option.some.injEq, Prod.mk.injEq] at h; rw [← h.2]; exact hI.adv
    | args s ps =>
      simp only [run] at h
      split at h
      · obtain ⟨⟨a, r1⟩, h1, h2⟩ := bind_some h
        exact ih _ _ _ _ h2 (ih _ _ _ _ h1 hI.adv)
      · simp only [Option.some.injEq, Prod.mk.injEq] at h; rw [← h.2]; exact hI.need _

theorem parse_at_tok (l : List Tok) (h : (parseM l 0).2.2.1 ≠ 0) : ∃ i, (parseM l 0).2.2.2 = atM l i := by
  obtain ⟨p, r, e⟩ := rd_total l
  have hI : Inv l r := run_inv _ _ _ _ _ e (.inl ⟨rfl, rfl⟩)
  unfold rd0 at e
  unfold parseM at h ⊢
  rw [e] at h ⊢
  simp only [parseOf] at h ⊢
  by_cases h1 : r.code ≠ 0
  · rw [if_pos h1]
    rcases hI with ⟨h2, _⟩ | ⟨_, h2⟩
    · exact absurd h2 h1
    · exact h2
  · rw [if_neg h1] at h ⊢
    by_cases h2 : 5000 < p.nodes
    · rw [if_pos h2]; exact ⟨0, rfl⟩
    · rw [if_neg h2] at h ⊢
      by_cases h3 : 40 < p.deep
      · rw [if_pos h3]; exact ⟨0, rfl⟩
      · rw [if_neg h3] at h; exact absurd rfl h
/-- A fault is lex's, or at a token, or at the end. -/
theorem fault_law {s : Bytes} (h : (readM s).2.1 ≠ 0) : (∃ c a, Lx.lexM s = .bad c a ∧ c ≠ 0 ∧ readM s = ([], c, a)) ∨
    (∃ l, Lx.lexM s = .ok l ∧ (readM s).1 = [] ∧ ∃ i, (readM s).2.2 = atM l i) := by
  have hb := read_bad h
  cases hl : Lx.lexM s with
  | bad c a =>
    have e : readM s = ([], c, a) := by unfold readM; rw [hl]
    rw [e] at h
    exact .inl ⟨c, a, rfl, h, e⟩
  | ok l =>
    refine .inr ⟨l, rfl, hb, ?_⟩
    unfold readM at h ⊢
    rw [hl] at h ⊢
    simp only at h ⊢
    by_cases hc : (parseM l 0).2.2.1 = 0 ∧ (parseM l 0).2.1 < l.length
    · rw [if_pos hc]; exact ⟨_, rfl⟩
    · rw [if_neg hc] at h ⊢
      exact parse_at_tok l h
end Go.Proofs.YtgohhnbdicdenaaDoor.Ex

/- The function live of the statements of layer expr answers true and leaves what was there as it was. Conditions: the variable of the error of a number's form holds an error or none. -/
namespace Go.Proofs.YtgohhnbdicdenaaDoor.Ex
open Go.ChangeShapes Go.WideShapes Go.ChangeAt Go.RowKit
open Go.Proofs.YtgohhnbdicdenaaDoor.Tr (str ret_bool ret_int Bytes Nd Nodes ndB ndB_str)
set_option linter.unusedVariables false
set_option linter.unusedSimpArgs false

theorem VarAt.up {w w2 : World} (h : VarAt w w.heap.size) (hb : Below w.heap.size w w2) : VarAt w2 w2.heap.size := h.rise hb (Below.refl _ _)
theorem read_lit {S : ByteArray} {s : Bytes} {E : List Nd} {C A : Int} {w : World} (t : readM s = (E, C, A)) (hS : S.toList = s) (hn : S.size ≤ maxLen) (hv : VarAt w w.heap.size) :
    Calls Tryd.prog 13 #[.string S] w (fun e w' => ∃ ev, e = .returned (.tuple #[ev, .agg #[.int .i64 C, .int .i64 A]]) ∧ PtW w' (ev, ⟨E, 0, 0⟩) ∧ Below w.heap.size w w') := by
  have := read_any S w hn hv; rw [hS, t] at this; exact this
theorem blk2 {w1 w2 : World} {o : Obj} (hb : Below (w1.alloc o).heap.size (w1.alloc o) w2) : w2.heap[w1.heap.size]? = some o := (hb.block _ (by simp)).trans (heap_alloc_new w1 o)
theorem read_at {S : ByteArray} {E : List Nd} {C A : Int} {w : World} (t : readM S.toList = (E, C, A)) (hn : S.size ≤ maxLen) (hv : VarAt w w.heap.size) :
    Calls Tryd.prog 13 #[.string S] w (fun e w' => ∃ ev, e = .returned (.tuple #[ev, .agg #[.int .i64 C, .int .i64 A]]) ∧ PtW w' (ev, ⟨E, 0, 0⟩) ∧ Below w.heap.size w w') := by
  have := read_any S w hn hv; rw [t] at this; exact this
theorem nodes_at {w : World} {v : Value} {l : List Nd} (h : Nodes w v l) (hp : 0 < l.length) : ∃ g o c, v = .slice (some ⟨g, o, none⟩) l.length c ∧ l.length ≤ c ∧ c ≤ maxLen ∧ g < w.heap.size ∧ ∀ i x, l[i]? = some x →
    w.cell? ⟨g, o + i * 6, none⟩ = some (.int .i64 x.op) ∧ w.cell? ⟨g, o + i * 6 + 1, none⟩ = some (.int .i64 x.a) ∧ w.cell? ⟨g, o + i * 6 + 2, none⟩ = some (.int .i64 x.b) ∧
    w.cell? ⟨g, o + i * 6 + 3, none⟩ = some (.int .i64 x.c) ∧ w.cell? ⟨g, o + i * 6 + 4, none⟩ = some (.int .i64 x.n) ∧ w.cell? ⟨g, o + i * 6 + 5, none⟩ = some (.string (str x.name)) := by
  obtain ⟨A, c, rfl, h1, h2, h3⟩ := h
  obtain ⟨g, o, rfl, hg, _⟩ := h3 0 _ (List.getElem?_eq_getElem hp)
  refine ⟨g, o, c, rfl, h1, h2, hg, fun i x hx => ?_⟩
  obtain ⟨g', o', e, _, k⟩ := h3 i x hx
  simp only [Option.some.injEq, Addr.mk.injEq, and_true] at e
  obtain ⟨rfl, rfl⟩ := e
  exact k
attribute [local go_sem ↓] Lx.eql_fault Lx.guard_fault Tr.eql_nd Tr.guard_nd
def e1 : List Nd := [⟨3, -1, -1, -1, 0, [97]⟩, ⟨1, -1, -1, -1, 1, []⟩, ⟨3, -1, -1, -1, 0, [98]⟩, ⟨12, 1, 2, -1, 0, []⟩, ⟨19, 0, 3, -1, 0, []⟩]
theorem read1 : readM [97, 32, 45, 62, 32, 98, 32, 62, 32, 49] = (e1, 0, 0) := t1
set_option maxRecDepth 100000 in
set_option maxHeartbeats 4000000 in
theorem live_any (w : World) (hv : VarAt w w.heap.size) : Calls Tryd.prog 12 #[] w fun r w' => r = .returned (.bool true) ∧ Below w.heap.size w w' := by
  have HV := Lib.hid hv
  clear hv
  go_enter Tryd.func12, Tryd.ntmps12
  go_wp2_with fail
  refine (read_lit read1 (Tr.str_toList _) (by decide) HV.out).mono ?_
  rintro r w1 ⟨v1, rfl, hp1, hb1⟩
  have HP1 := Lib.hid hp1
  have HB1 := Lib.hid (hb1.alloc hb1.size (.cells #[.int .i64 0, .int .i64 0] 27))
  have hs1 := HB1.out.size
  obtain ⟨g, o, c, hv1, y1, y2, hg, _⟩ := nodes_at HP1.out.1 (by show 0 < e1.length; decide)
  simp only at hv1
  subst hv1
  clear hp1 hb1
  go_wp2_with fail
  refine (read_lit t2 (Tr.str_toList _) (by decide) (HV.out.up HB1.out)).mono ?_
  rintro r w2 ⟨v2, rfl, -, hb2⟩
  have X2 := Lib.hid (blk2 hb2)
  have HB2 := Lib.hid ((HB1.out.trans (hb2.mono hs1)).alloc (Nat.le_trans hs1 hb2.size) (.cells #[.int .i64 5, .int .i64 (-1)] 27))
  have HC2 := Lib.hid ((below_new w1 (.cells #[.int .i64 0, .int .i64 0] 27)).trans (hb2.mono (below_new w1 _).size))
  have hs2 := HB2.out.size
  have hz2 := hb2.size
  simp at hz2
  clear hb2
  go_wp2_with fail
  refine (read_lit t3 (Tr.str_toList _) (by decide) (HV.out.up HB2.out)).mono ?_
  rintro r w3 ⟨v3, rfl, -, hb3⟩
  have X3 := Lib.hid (blk2 hb3)
  have HB3 := Lib.hid ((HB2.out.trans (hb3.mono hs2)).alloc (Nat.le_trans hs2 hb3.size) (.cells #[.int .i64 5, .int .i64 2] 27))
  have HC3 := Lib.hid ((below_new w2 (.cells #[.int .i64 5, .int .i64 (-1)] 27)).trans (hb3.mono (below_new w2 _).size))
  have hs3 := HB3.out.size
  have hz3 := hb3.size
  simp at hz3
  clear hb3
  go_wp2_with fail
  refine (read_lit t4 (Tr.str_toList _) (by decide) (HV.out.up HB3.out)).mono ?_
  rintro r w4 ⟨v4, rfl, -, hb4⟩
  have X4 := Lib.hid (blk2 hb4)
  have HB4 := Lib.hid (HB3.out.trans (hb4.mono hs3))
  have HC4 := Lib.hid ((below_new w3 (.cells #[.int .i64 5, .int .i64 2] 27)).trans (hb4.mono (below_new w3 _).size))
  have hs4 := HB4.out.size
  have hz4 := hb4.size
  simp at hz4
  clear hb4
  have B24 : Below w2.heap.size w2 w4 := HC3.out.trans (HC4.out.mono (by omega))
  have B14 : Below w1.heap.size w1 w4 := HC2.out.trans (B24.mono (by omega))
  have Y2 := (B24.block w1.heap.size (by omega)).trans X2.out
  have Y3 := (HC4.out.block w2.heap.size (by omega)).trans X3.out
  have Y4 := X4.out
  have HP4 := HP1.out.below B14
  obtain ⟨g', o', c', hv1, _, _, hg4, hN⟩ := nodes_at HP4.1 (by show 0 < e1.length; decide)
  simp only [Value.slice.injEq, Option.some.injEq, Addr.mk.injEq, and_true, true_and] at hv1
  obtain ⟨⟨rfl, rfl⟩, rfl⟩ := hv1
  have N4 := (hN 4 _ rfl).1
  have N1 := (hN 1 _ rfl).1
  obtain ⟨N30, N31, N32, N33, N34, N35⟩ := hN 3 _ rfl
  simp only at N4 N1 N30 N31 N32 N33 N34 N35
  have a20 : w4.cell? ⟨w1.heap.size, 0, none⟩ = some (.int .i64 0) := (cell_at Y2 0).trans rfl
  have a21 : w4.cell? ⟨w1.heap.size, 1, none⟩ = some (.int .i64 0) := (cell_at Y2 1).trans rfl
  have a30 : w4.cell? ⟨w2.heap.size, 0, none⟩ = some (.int .i64 5) := (cell_at Y3 0).trans rfl
  have a31 : w4.cell? ⟨w2.heap.size, 1, none⟩ = some (.int .i64 (-1)) := (cell_at Y3 1).trans rfl
  have a40 : w4.cell? ⟨w3.heap.size, 0, none⟩ = some (.int .i64 5) := (cell_at Y4 0).trans rfl
  have a41 : w4.cell? ⟨w3.heap.size, 1, none⟩ = some (.int .i64 2) := (cell_at Y4 1).trans rfl
  have l1 : w1.heap.size < w4.heap.size := by omega
  have l2 : w2.heap.size < w4.heap.size := by omega
  have l3 : w3.heap.size < w4.heap.size := by omega
  have el : e1.length = 5 := rfl
  rw [el] at y1 ⊢
  unfold maxLen at y2
  have k1 : Lx.faultB 0 0 0 0 = true := rfl
  have k2 : Lx.faultB 5 5 (-1) (-1) = true := rfl
  have k3 : Lx.faultB 5 5 2 2 = true := rfl
  have k4 : Lx.faultB 5 5 6 6 = true := rfl
  have k5 : ndB 12 1 2 (-1) 0 12 1 2 (-1) 0 (str []) ⟨#[]⟩ = true := (ndB_str ⟨12, 1, 2, -1, 0, []⟩ ⟨12, 1, 2, -1, 0, []⟩).trans (by decide)
  clear HP4 hN B24 B14 Y2 Y3 Y4
  go_wp2_with fail
  refine (at_i (n := 0) rfl (TokOff.nil _ 0) (by omega)).mono ?_
  rintro r w' ⟨rfl, rfl⟩
  go_wp2
  go_ret
  exact ⟨rfl, HB4.out.alloc hs4 _⟩
end Go.Proofs.YtgohhnbdicdenaaDoor.Ex

namespace Go.Proofs.YtgohhnbdicdenaaDoor.Ex
open Go.ChangeShapes Go.WideShapes Go.ChangeAt Go.WideMaps Go.WideElems Go.RowKit
set_option maxRecDepth 100000
def laid5 : List (String × DataW Unit) := [("math/bits.deBruijn32tab", Rows.laid_math_bits_deBruijn32tab), ("math/bits.deBruijn64tab", Rows.laid_math_bits_deBruijn64tab), ("internal/strconv.uint64pow10", Rows.laid_internal_strconv_uint64pow10), ("strconv.ErrRange", Rows.laid_strconv_ErrRange), ("strconv.ErrSyntax", Rows.laid_strconv_ErrSyntax)]
theorem g4 : Tryd.prog.globalNamed "strconv.ErrSyntax" = some 2 := by kernel_rfl

theorem var_of {W : World} (h : laidMetH Tryd.prog laid5 W) : VarAt W W.heap.size := by
  rw [MakeChecks.laidMetH_plain _ _ _ (by kernel_rfl)] at h
  obtain ⟨ps, ⟨g0, t0, cs0, f0, p0, q0, hg0, ht0, hv0, hd0, ⟨g1, t1, cs1, f1, p1, q1, hg1, ht1, hv1, hd1, ⟨g2, t2, cs2, f2, p2, q2, hg2, ht2, hv2, hd2, ⟨g3, t3, cs3, f3, p3, q3, hg3, ht3, hv3, hd3, ⟨g4', t4, cs4, f4, p4, q4, hg4, ht4, hv4, hd4, _, _⟩, _⟩, _⟩, _⟩, _⟩, _, _⟩ := h
  clear hd0 hd1 hd2 hd3
  obtain rfl := Option.some.inj (g4.symm.trans hg4)
  have tT : (Tryd.prog.globals[2]?).map (·.type) = some 117 := by kernel_rfl
  obtain rfl := Option.some.inj (tT.symm.trans ht4)
  have hc : ∀ i, W.cell? ⟨2, i, none⟩ = cs4[i]? := fun i => World.var?_cell hg4 hv4 i
  obtain ⟨l4⟩ := cs4
  cases f4 with
  | zero => simp [DataW.trod] at hd4
  | succ f4 =>
    unfold DataW.trod at hd4
    rw [Tryd.underlying117] at hd4
    simp only at hd4
    have key : ∃ ev, l4 = [ev] ∧ (ev = .nilIface ∨ ∃ te pe, ev = .iface te pe) := by
      revert hd4
      cases l4 with
      | nil => intro h; simp at h
      | cons a r =>
        cases r with
        | cons b r => intro h; cases a <;> simp at h
        | nil => intro h; cases a <;> simp at h <;> first | exact ⟨_, rfl, .inl rfl⟩ | exact ⟨_, rfl, .inr ⟨_, _, rfl⟩⟩
    obtain ⟨ev, rfl, hev⟩ := key
    have h0 : W.cell? ⟨2, 0, none⟩ = some ev := (hc 0).trans rfl
    have hlt : 2 < W.heap.size := by
      rcases Nat.lt_or_ge 2 W.heap.size with h | h
      · exact h
      · simp [World.cell?, Array.getElem?_eq_none h] at h0
    exact ⟨hlt, hlt, ev, h0, hev⟩
end Go.Proofs.YtgohhnbdicdenaaDoor.Ex

/- The row's last step for a statement that answers one bool: what lay there before the call is as it was, new memory may have come. Conditions: none. -/
namespace Go.Proofs.YtgohhnbdicdenaaDoor.Lx
open Go.RowKit Go.WideShapes Go.ChangeShapes
theorem post_kept {H : Type} {enc : TypeId × Value → H} {P : Program} {f : Func} {s : ChangeSpec} {apart : Bool} {W W' : World} {args : Array Value} {v : Value} {ds gs : List (DataW H)} {before pa pv : List MemPlace}
    (hW : DataW.Whole enc P f.params.toList s.vars apart W args.toList ds gs before)
    (hres : ∀ b, DataW.TrodAll enc P W' b (fun _ => false) false f.resultTypes.toList (v.resultList f.resultTypes.size) (s.fn H (ds ++ gs)).results [])
    (hargs : DataW.TrodAll enc P W' 0 (fun b => decide (b < W.heap.size)) true f.params.toList args.toList (s.fn H (ds ++ gs)).args pa)
    (hvars : DataW.TrodVars enc P W' (fun b => decide (b < W.heap.size)) s.vars (s.fn H (ds ++ gs)).vars pv)
    (hb : Below W.heap.size W W') : s.post enc P f apart true false false W args v W' :=
  ⟨ds, gs, before, [], pa, pv, hW, hres _, hargs, hvars, hb.frame _, fun h => nomatch h⟩
end Go.Proofs.YtgohhnbdicdenaaDoor.Lx

/- The document's own small answers of layer lex (package bailmentref02) return what the plain functions say; what was in memory stays. Conditions: lengths within a machine's. -/
namespace Go.Proofs.YtgohhnbdicdenaaDoor.Lx
open Go.ChangeShapes Go.WideShapes Go.ChangeAt Go.RowKit
set_option linter.unusedVariables false

theorem refDigit_any (c : UInt8) (w : World) :
    Calls Tryd.prog 55 #[.int .u8 c.toNat] w fun e w' => e = .returned (.bool (digitB c)) ∧ w = w' := by
  by_cases h : (48 : Int) ≤ c.toNat
  · have e : digitB c = decide ((c.toNat : Int) ≤ 57) := by
      have h1 : (48 : UInt8) ≤ c := (le_cast _ _).2 h
      simp only [digitB, h1, decide_true, Bool.true_and, decide_eq_decide]; exact le_cast _ _
    rw [e]
    go_enter Tryd.func55, Tryd.ntmps55
    go_wp2
    go_ret
    exact ⟨rfl, rfl⟩
  · have e : digitB c = false := by
      have h1 : ¬ (48 : UInt8) ≤ c := fun h' => h ((le_cast _ _).1 h')
      simp [digitB, h1]
    rw [e]
    go_enter Tryd.func55, Tryd.ntmps55
    go_wp2
    go_ret
    exact ⟨rfl, rfl⟩

theorem refLetter_any (c : UInt8) (w : World) :
    Calls Tryd.prog 57 #[.int .u8 c.toNat] w fun e w' => e = .returned (.bool (letterB c)) ∧ w = w' := by
  have hb : letterB c = (decide ((97 : Int) ≤ c.toNat) && decide ((c.toNat : Int) ≤ 122) || ((c.toNat : Int) == 95)) := by
    unfold letterB
    have e1 : decide ((97 : UInt8) ≤ c) = decide ((97 : Int) ≤ c.toNat) := decide_eq_decide.2 (le_cast _ _)
    have e2 : decide (c ≤ (122 : UInt8)) = decide ((c.toNat : Int) ≤ 122) := decide_eq_decide.2 (le_cast _ _)
    have e3 : (c == (95 : UInt8)) = ((c.toNat : Int) == 95) := by
      rw [Bool.eq_iff_iff, beq_iff_eq, beq_iff_eq]; exact eq_cast _ _
    rw [e1, e2, e3]
  rw [hb]
  clear hb
  by_cases h1 : (97 : Int) ≤ c.toNat <;> by_cases h2 : (c.toNat : Int) ≤ 122 <;> rcases Bool.eq_false_or_eq_true ((c.toNat : Int) == 95) with h3 | h3
  all_goals
    go_enter Tryd.func57, Tryd.ntmps57
    go_wp2
  all_goals
    go_ret
    exact ⟨ret_bool (by first | (simp [h1, h2, h3]; done) | (simp [h1, h2, h3]; intros; omega)), rfl⟩

/-- A row of texts that begins at a block's head. -/
def TextsAt (w : World) (g : Nat) (l : List Bytes) : Prop := g < w.heap.size ∧ ∀ (i : Nat) (x : Bytes), l[i]? = some x → w.cell? ⟨g, i, none⟩ = some (.string (str x))
theorem texts_new (w : World) (l : List Bytes) (cs : Array Value) (t : TypeId) (h : cs.toList = l.map (fun x => Value.string (str x))) : TextsAt (w.alloc (.cells cs t)) w.heap.size l := by
  refine ⟨by simp, fun i x hx => ?_⟩
  rw [World.cell?_alloc_at _ _ _ _ rfl, ← Array.getElem?_toList, h, List.getElem?_map, hx]; rfl
theorem TextsAt.below {w w' : World} {g B : Nat} {l : List Bytes} (h : TextsAt w g l) (hb : Below B w w') (hB : g < B) : TextsAt w' g l :=
  ⟨Nat.lt_of_lt_of_le h.1 hb.size, fun i x hx => (hb.cell (by exact hB)).trans (h.2 i x hx)⟩

def GivesTexts (W : World) (l : List Bytes) (e : Ending) (w' : World) : Prop :=
  e = .returned (.slice (some ⟨W.heap.size, 0, none⟩) l.length l.length) ∧ TextsAt w' W.heap.size l ∧ Below W.heap.size W w'

set_option maxRecDepth 100000 in
theorem words_any (w : World) : Calls Tryd.prog 60 #[] w (GivesTexts w words) := by
  go_enter Tryd.func60, Tryd.ntmps60
  go_wp2
  go_ret
  exact ⟨rfl, texts_new w words _ _ rfl, (Below.refl _ _).alloc (Nat.le_refl _) _⟩
set_option maxRecDepth 100000 in
theorem signs_any (w : World) : Calls Tryd.prog 81 #[] w (GivesTexts w signTexts) := by
  go_enter Tryd.func81, Tryd.ntmps81
  go_wp2
  go_ret
  exact ⟨rfl, texts_new w signTexts _ _ rfl, (Below.refl _ _).alloc (Nat.le_refl _) _⟩

theorem any_more (L : List Bytes) (k : Nat) (x y : Bytes) (h : (L.take k).contains y = false) (hx : L[k]? = some x) (hp : (x == y) = false) : (L.take (k + 1)).contains y = false := by
  have hxy : y ≠ x := fun e => by subst e; simp at hp
  have h' : y ∉ L.take k := by simpa using h
  rw [List.take_add_one, hx]
  simp [hxy, h']
theorem any_hit (L : List Bytes) (k : Nat) (x y : Bytes) (hx : L[k]? = some x) (hp : (x == y) = true) : L.contains y = true := by
  have hxy : x = y := by simpa using hp
  subst hxy
  have := List.mem_of_getElem? hx
  simpa using this

set_option maxHeartbeats 800000 in
theorem refIsWord_any (s : ByteArray) (w : World) :
    Calls Tryd.prog 33 #[.string s] w fun e w' => e = .returned (.bool (wordB s.toList)) ∧ Below w.heap.size w w' := by
  go_enter Tryd.func33, Tryd.ntmps33
  go_wp2_with fail
  refine (words_any _).mono ?_
  rintro e w1 ⟨rfl, ht, hb⟩
  rw [show words.length = 35 from rfl]
  have HT := Lib.hid ht
  have HB := Lib.hid hb
  clear ht hb
  go_wp2
  go_loop [4] (fun i => ∃ k : Nat, k ≤ 35 ∧ i = .int .i64 k ∧ (words.take k).contains s.toList = false) (fun i => 35 - (intOf i).toNat)
  case atStart => exact ⟨0, Nat.zero_le _, rfl, rfl⟩
  case round =>
    obtain ⟨k, hk, rfl, hc⟩ := hrel
    have HC := Lib.hid hc
    clear hc
    by_cases hlt : k < 35
    · obtain ⟨x, hx⟩ : ∃ x, words[k]? = some x := ⟨_, List.getElem?_eq_getElem hlt⟩
      have c0 := HT.out.2 k x hx
      have HX := Lib.hid hx
      clear hx
      have hs := str_toList x
      rcases Bool.eq_false_or_eq_true (x == s.toList) with hq | hq
      · have HQ := Lib.hid (any_hit words k x s.toList HX.out hq)
        go_wp2
        go_ret
        exact ⟨ret_bool HQ.out.symm, HB.out⟩
      · have HQ := Lib.hid (any_more words k x s.toList HC.out HX.out hq)
        go_wp2
        go_round
        case rel => exact ⟨k + 1, by omega, by go_num, HQ.out⟩
        case measure => simp [intOf]; omega
    · have HQ := Lib.hid (show wordB s.toList = false from by
        have := HC.out
        rw [List.take_of_length_le (by show (35 : Nat) ≤ k; omega)] at this
        exact this)
      go_wp2
      go_ret
      exact ⟨ret_bool HQ.out.symm, HB.out⟩
end Go.Proofs.YtgohhnbdicdenaaDoor.Lx

