/- What a reader reads without a fault is a tree. Conditions: none. -/
import Derived.Test.YtlhcajhgbkgjbaaGreatDoorMa10
import Derived.Test.YtlhcajhgbkgjbaaGreatDoorMa01
import Derived.Deep.RegionHeld3
import Derived.StillTailTactics
import Derived.Test.YtlhcajhgbkgjbaaGreatDoorMa13
set_option linter.unusedVariables false
set_option linter.unusedSimpArgs false
namespace Go.Proofs.YtlhcajhgbkgjbaaGreatDoor.Ex
open Tr Go.RowKit
theorem wrap_small (k f : Int) (h0 : 0 <= k) (h1 : 0 <= f) (h : k + f <= 1000000000) : wrap64 (k + f) = k + f := by unfold wrap64; omega
theorem kjf (f : Nat) (x : Lab) (l : List Int) (hl : l.length <= 3) (h : ∀ k ∈ l, 0 <= k /\ k + (f : Int) <= 1000000000) : onNd (f : Int) (mkL x l) = mkL x (l.map (· + (f : Int))) := by
 have one : ∀ k ∈ l, onM (f : Int) k = k + (f : Int) := fun k hk => by
  have := h k hk
  unfold onM; rw [if_pos this.1]; exact wrap_small _ _ this.1 (by omega) this.2
 have neg : onM (f : Int) (-1) = -1 := by unfold onM; rw [if_neg (by omega)]
 match l, hl with
 | [], _ => simp [mkL, onNd, neg]
 | [i], _ => simp [mkL, onNd, neg, one i (by simp)]
 | [i, j], _ =>
  have a := one i (by simp); have b := one j (by simp)
  by_cases h28 : x.op = 28 <;> simp [mkL, onNd, neg, a, b, h28]
 | [i, j, k], _ => simp [mkL, onNd, neg, one i (by simp), one j (by simp), one k (by simp)]
theorem kew (t : T) : ∀ (b f : Nat), b + f + t.size <= 1000000000 -> (t.flat b).map (onNd (f : Int)) = t.flat (b + f) := by
 induction t with
 | l0 x => intro b f h; simp [T.flat, kjf f x [] (by simp) (by simp)]
 | l1 x p ih =>
  intro b f h
  have := p.size_pos
  simp only [T.size] at h
  simp only [T.flat, List.map_append, List.map_cons, List.map_nil, ih b f (by omega)]
  rw [kjf f x _ (by simp) (by simp; omega)]
  congr 3
  simp; omega
 | l2 x p q ih1 ih2 =>
  intro b f h
  have := p.size_pos; have := q.size_pos
  simp only [T.size] at h
  simp only [T.flat, List.map_append, List.map_cons, List.map_nil, ih1 b f (by omega), ih2 (b + p.size) f (by omega)]
  rw [kjf f x _ (by simp) (by simp; omega)]
  have e1 : b + p.size + f = b + f + p.size := by omega
  rw [e1]
  congr 3
  simp; omega
 | l3 x p q r ih1 ih2 ih3 =>
  intro b f h
  have := p.size_pos; have := q.size_pos; have := r.size_pos
  simp only [T.size] at h
  simp only [T.flat, List.map_append, List.map_cons, List.map_nil, ih1 b f (by omega), ih2 (b + p.size) f (by omega), ih3 (b + p.size + q.size) f (by omega)]
  rw [kjf f x _ (by simp) (by simp; omega)]
  have e1 : b + p.size + f = b + f + p.size := by omega
  have e2 : b + p.size + q.size + f = b + f + p.size + q.size := by omega
  rw [e1, e2]
  congr 3
  simp; omega
theorem kb7 (a : List Nd) (t : T) (h : a.length + t.size <= 1000000000) : kaX a (t.flat 0) = a ++ t.flat a.length := by
 unfold kaX; rw [kew t 0 a.length (by omega), Nat.zero_add]
theorem kmf (t : T) (b : Nat) : t.flat b ≠ [] := fun h => by
 have := T.flat_len t b; rw [h] at this; have := t.size_pos; simp at *; omega
def keB (acc : T) : List T -> T
 | [] => acc
 | t :: ts => keB (.l2 ⟨28, 0, []⟩ acc t) ts
def kd4 (s : Bytes) : List T -> T
 | [] => .l0 ⟨27, 0, s⟩
 | t :: ts => .l1 ⟨27, 0, s⟩ (keB (.l1 ⟨28, 0, []⟩ t) ts)
theorem kkx (ts : List T) : ∀ acc, (keB acc ts).size = acc.size + (ts.map T.size).sum + ts.length := by
 induction ts with
 | nil => intro acc; rfl
 | cons t r ih => intro acc; rw [keB, ih]; simp [T.size]; omega
theorem kdv (s : Bytes) (ts : List T) : (kd4 s ts).size = 1 + (ts.map T.size).sum + ts.length := by
 cases ts with
 | nil => rfl
 | cons t r => rw [kd4, T.size, kkx]; simp [T.size]; omega
theorem kiE (ts : List T) : ∀ acc : T, acc.size + (ts.map T.size).sum + ts.length <= 1000000 ->
 (ts.map (fun t => t.flat 0)).foldl kbL (acc.flat 0, (acc.size : Int) - 1) = ((keB acc ts).flat 0, ((keB acc ts).size : Int) - 1) := by
 induction ts with
 | nil => intro acc _; rfl
 | cons t r ih =>
  intro acc h
  simp only [List.map_cons, List.sum_cons, List.length_cons] at h
  have := acc.size_pos; have := t.size_pos
  rw [List.map_cons, List.foldl_cons]
  have e : kbL (acc.flat 0, (acc.size : Int) - 1) (t.flat 0) = ((T.l2 ⟨28, 0, []⟩ acc t).flat 0, ((T.l2 ⟨28, 0, []⟩ acc t).size : Int) - 1) := by
   unfold kbL
   simp only
   rw [kb7 _ _ (by rw [T.flat_len]; omega), List.length_append, T.flat_len, T.flat_len]
   simp only [T.flat, T.size, kba, mkL, Nat.zero_add]
   simp
   omega
  rw [e, ih _ (by simp only [T.size]; omega)]
  rfl
theorem kfW (s : Bytes) (ts : List T) (h : (kd4 s ts).size <= 1000000) : kae 27 0 s (ts.map (fun t => t.flat 0)) = (kd4 s ts).flat 0 := by
 have hany : (ts.map (fun t => t.flat 0)).any List.isEmpty = false := by
  rw [List.any_map]; simp only [List.any_eq_false]; intro t _; simpa using kmf t 0
 unfold kae
 rw [hany]
 simp only [Bool.false_eq_true, if_false, if_true]
 rw [if_neg (by decide)]
 cases ts with
 | nil => simp [kmv, kbg, kd4, T.flat, kba, mkL]
 | cons t r =>
  rw [kdv] at h
  simp only [List.map_cons, List.sum_cons, List.length_cons] at h
  have := t.size_pos
  unfold kmv kbg
  rw [List.map_cons, List.foldl_cons]
  have e : kbL ([], -1) (t.flat 0) = ((T.l1 ⟨28, 0, []⟩ t).flat 0, ((T.l1 ⟨28, 0, []⟩ t).size : Int) - 1) := by
   unfold kbL
   simp only
   rw [kb7 _ _ (by simp; omega)]
   simp only [List.nil_append, List.length_nil, T.flat_len, T.flat, T.size, kba, mkL, Nat.zero_add]
   simp
   omega
  rw [e, kiE _ _ (by simp only [T.size]; omega)]
  simp only [kd4, T.flat, T.size, kba, mkL, Nat.zero_add]
  have hp := (keB (.l1 ⟨28, 0, []⟩ t) r).size_pos
  simp
  omega
theorem lay1 (a : T) (h : a.size <= 1000000) : layF [a.flat 0] = (a.flat 0, [(a.size : Int) - 1]) := by
 simp only [layF, List.foldl_cons, List.foldl_nil, kcC]
 rw [kb7 _ _ (by simp; omega)]
 simp [T.flat_len]
theorem lay2 (a b : T) (h : a.size + b.size <= 1000000) : layF [a.flat 0, b.flat 0] = (a.flat 0 ++ b.flat a.size, [(a.size : Int) - 1, (a.size : Int) + (b.size : Int) - 1]) := by
 simp only [layF, List.foldl_cons, List.foldl_nil, kcC]
 rw [kb7 [] a (by simp; omega)]
 rw [kb7 _ b (by simp [T.flat_len]; omega)]
 simp [T.flat_len]
theorem lay3 (a b c : T) (h : a.size + b.size + c.size <= 1000000) : layF [a.flat 0, b.flat 0, c.flat 0] = (a.flat 0 ++ b.flat a.size ++ c.flat (a.size + b.size), [(a.size : Int) - 1, (a.size : Int) + (b.size : Int) - 1, (a.size : Int) + (b.size : Int) + (c.size : Int) - 1]) := by
 simp only [layF, List.foldl_cons, List.foldl_nil, kcC]
 rw [kb7 [] a (by simp; omega)]
 rw [kb7 _ b (by simp [T.flat_len]; omega)]
 rw [kb7 _ c (by simp [T.flat_len]; omega)]
 simp [T.flat_len]; omega
theorem keO (o n : Int) (s : Bytes) (ls : List (List Nd)) (h0 : ls.any List.isEmpty = false) (h27 : o ≠ 27) (h28 : o ≠ 28) (hk : (ka5 (kba o n s [])).length = ls.length) :
 kae o n s ls = (layF ls).1 ++ [kba o n s (layF ls).2] := by
 unfold kae
 rw [h0, if_neg h28, if_neg h27, if_pos hk]; simp
theorem kgD (ts : List T) : (ts.map (fun t => t.flat 0)).any List.isEmpty = false := by
 rw [List.any_map]; simp only [List.any_eq_false]; intro t _; simpa using kmf t 0
theorem kpm (o n : Int) (s : Bytes) (h : kaa o = true) : (ka5 (kba o n s [])).length = 1 := by simp [ka5, kba, h]
theorem kgs (o n : Int) (s : Bytes) (h : ka9 o = true) : (ka5 (kba o n s [])).length = 2 := by
 have hb := h
 simp [ka9] at hb
 have hu : kaa o = false := by simp [kaa]; omega
 have e26 : o ≠ 26 := by omega
 have e27 : o ≠ 27 := by omega
 have e28 : o ≠ 28 := by omega
 simp [ka5, kba, hu, h, e26, e27, e28]
theorem klW (o n : Int) (s : Bytes) (h : 1 <= o /\ o <= 3) : (ka5 (kba o n s [])).length = 0 := by
 have hu : kaa o = false := by simp [kaa]; omega
 have hb : ka9 o = false := by simp [ka9]; omega
 have e26 : o ≠ 26 := by omega
 have e27 : o ≠ 27 := by omega
 have e28 : o ≠ 28 := by omega
 simp [ka5, kba, hu, hb, e26, e27, e28]
theorem kfV (o n : Int) (s : Bytes) (h : 1 <= o /\ o <= 3) : kae o n s [] = (T.l0 ⟨o, n, s⟩).flat 0 := by
 rw [keO o n s [] rfl (by omega) (by omega) (klW o n s h)]
 simp [layF, T.flat, kba, mkL]
theorem kjn (o n : Int) (s : Bytes) (a : T) (h : kaa o = true) (hs : a.size <= 1000000) : kae o n s [a.flat 0] = (T.l1 ⟨o, n, s⟩ a).flat 0 := by
 have hu := h
 simp [kaa] at hu
 rw [keO o n s [a.flat 0] (by simpa using kgD [a]) (by omega) (by omega) (kpm o n s h), lay1 a hs]
 have := a.size_pos
 simp [T.flat, kba, mkL]; omega
theorem khh (o n : Int) (s : Bytes) (a b : T) (h : ka9 o = true) (hs : a.size + b.size <= 1000000) : kae o n s [a.flat 0, b.flat 0] = (T.l2 ⟨o, n, s⟩ a b).flat 0 := by
 have hu := h
 simp [ka9] at hu
 rw [keO o n s [a.flat 0, b.flat 0] (by simpa using kgD [a, b]) (by omega) (by omega) (kgs o n s h), lay2 a b hs]
 have := a.size_pos; have := b.size_pos
 have h28 : o ≠ 28 := by omega
 simp [T.flat, kba, mkL, h28]; omega
theorem kjo (n : Int) (s : Bytes) (a b c : T) (hs : a.size + b.size + c.size <= 1000000) : kae 26 n s [a.flat 0, b.flat 0, c.flat 0] = (T.l3 ⟨26, n, s⟩ a b c).flat 0 := by
 rw [keO 26 n s [a.flat 0, b.flat 0, c.flat 0] (by simpa using kgD [a, b, c]) (by decide) (by decide) (by simp [ka5, kba, kaa]), lay3 a b c hs]
 have := a.size_pos; have := b.size_pos; have := c.size_pos
 simp [T.flat, kba, mkL]; omega
def ptOf (t : T) : Pt := ⟨if t.size <= 5000 /\ t.depth <= 40 then t.flat 0 else [], t.size, t.depth⟩
theorem kh3 (o n : Int) (s : Bytes) (h : 1 <= o /\ o <= 3) : joined o n s [] = ptOf (.l0 ⟨o, n, s⟩) := by
 unfold joined ptOf
 have e : nodesOf o [] = 1 := rfl
 have e2 : kdj o [] = 1 := rfl
 rw [e, e2, if_pos (by omega), List.map_nil, kfV o n s h]
 simp [T.size, T.depth]
theorem kp3 (o n : Int) (s : Bytes) (a : T) (h : kaa o = true) : joined o n s [ptOf a] = ptOf (.l1 ⟨o, n, s⟩ a) := by
 have hu := h
 simp [kaa] at hu
 have h27 : o ≠ 27 := by omega
 unfold joined
 have e : nodesOf o [ptOf a] = (T.l1 ⟨o, n, s⟩ a).size := by rw [kcX, if_neg h27]; simp [ptOf, T.size]; omega
 have e2 : kdj o [ptOf a] = (T.l1 ⟨o, n, s⟩ a).depth := by simp [kdj, ptOf, h27, T.depth]; omega
 rw [e, e2]
 show Pt.mk _ _ _ = Pt.mk _ _ _
 congr 1
 by_cases hs : (T.l1 ⟨o, n, s⟩ a).size <= 5000 /\ (T.l1 ⟨o, n, s⟩ a).depth <= 40
 · rw [if_pos hs, if_pos hs]
   simp only [T.size, T.depth] at hs
   simp only [List.map_cons, List.map_nil, ptOf]
   rw [if_pos (by omega)]
   exact kjn o n s a h (by omega)
 · rw [if_neg hs, if_neg hs]
theorem knk (o n : Int) (s : Bytes) (a b : T) (h : ka9 o = true) : joined o n s [ptOf a, ptOf b] = ptOf (.l2 ⟨o, n, s⟩ a b) := by
 have hu := h
 simp [ka9] at hu
 have h27 : o ≠ 27 := by omega
 unfold joined
 have e : nodesOf o [ptOf a, ptOf b] = (T.l2 ⟨o, n, s⟩ a b).size := by rw [kcX, if_neg h27]; simp [ptOf, T.size]; omega
 have e2 : kdj o [ptOf a, ptOf b] = (T.l2 ⟨o, n, s⟩ a b).depth := by simp [kdj, ptOf, h27, T.depth]; omega
 rw [e, e2]
 show Pt.mk _ _ _ = Pt.mk _ _ _
 congr 1
 by_cases hs : (T.l2 ⟨o, n, s⟩ a b).size <= 5000 /\ (T.l2 ⟨o, n, s⟩ a b).depth <= 40
 · rw [if_pos hs, if_pos hs]
   simp only [T.size, T.depth] at hs
   simp only [List.map_cons, List.map_nil, ptOf]
   rw [if_pos (by omega), if_pos (by omega)]
   exact khh o n s a b h (by omega)
 · rw [if_neg hs, if_neg hs]
theorem kp4 (n : Int) (s : Bytes) (a b c : T) : joined 26 n s [ptOf a, ptOf b, ptOf c] = ptOf (.l3 ⟨26, n, s⟩ a b c) := by
 unfold joined
 have e : nodesOf 26 [ptOf a, ptOf b, ptOf c] = (T.l3 ⟨26, n, s⟩ a b c).size := by rw [kcX, if_neg (by decide)]; simp [ptOf, T.size]; omega
 have e2 : kdj 26 [ptOf a, ptOf b, ptOf c] = (T.l3 ⟨26, n, s⟩ a b c).depth := by simp [kdj, ptOf, T.depth]; omega
 rw [e, e2]
 show Pt.mk _ _ _ = Pt.mk _ _ _
 congr 1
 by_cases hs : (T.l3 ⟨26, n, s⟩ a b c).size <= 5000 /\ (T.l3 ⟨26, n, s⟩ a b c).depth <= 40
 · rw [if_pos hs, if_pos hs]
   simp only [T.size, T.depth] at hs
   simp only [List.map_cons, List.map_nil, ptOf]
   rw [if_pos (by omega), if_pos (by omega), if_pos (by omega)]
   exact kjo n s a b c (by omega)
 · rw [if_neg hs, if_neg hs]
theorem kky (ts : List T) : ∀ acc : T, (ts.map ptOf).foldl (fun (a : Nat) (p : Pt) => max a (1 + p.deep) + if (27 : Int) = 27 then 1 else 0) (acc.depth + 1) = (keB acc ts).depth + 1 := by
 induction ts with
 | nil => intro acc; rfl
 | cons t r ih =>
  intro acc
  rw [List.map_cons, List.foldl_cons]
  have e : (max (acc.depth + 1) (1 + (ptOf t).deep) + if (27 : Int) = 27 then 1 else 0) = (T.l2 ⟨28, 0, []⟩ acc t).depth + 1 := by
   simp only [T.depth, ptOf, if_true]; omega
  rw [e, ih]; rfl
theorem kks (s : Bytes) (ts : List T) : kdj 27 (ts.map ptOf) = (kd4 s ts).depth := by
 cases ts with
 | nil => rfl
 | cons t r =>
  unfold kdj
  rw [List.map_cons, List.foldl_cons]
  have e : (max 1 (1 + (ptOf t).deep) + if (27 : Int) = 27 then 1 else 0) = (T.l1 ⟨28, 0, []⟩ t).depth + 1 := by
   simp only [T.depth, ptOf, if_true]; omega
  rw [e, kky]; rfl
theorem kiZ (ts : List T) : ∀ acc : T, acc.depth <= (keB acc ts).depth /\ ∀ t ∈ ts, t.depth <= (keB acc ts).depth := by
 induction ts with
 | nil => intro acc; exact ⟨Nat.le_refl _, by simp⟩
 | cons t r ih =>
  intro acc
  have := ih (.l2 ⟨28, 0, []⟩ acc t)
  rw [keB]
  simp only [T.depth] at this
  refine ⟨by omega, fun u hu => ?_⟩
  rcases List.mem_cons.1 hu with rfl | hu
  · omega
  · exact this.2 u hu
theorem kiD (s : Bytes) (ts : List T) : ∀ t ∈ ts, t.depth <= (kd4 s ts).depth /\ t.size <= (kd4 s ts).size := by
 intro u hu
 have h2 : u.size <= (ts.map T.size).sum := by
  clear s
  induction ts with
  | nil => simp at hu
  | cons t r ih =>
   rw [List.map_cons, List.sum_cons]
   rcases List.mem_cons.1 hu with rfl | hu
   · omega
   · have := ih hu; omega
 refine ⟨?_, by rw [kdv]; omega⟩
 cases ts with
 | nil => simp at hu
 | cons t r =>
  have := kiZ r (.l1 ⟨28, 0, []⟩ t)
  simp only [T.depth] at this
  rw [kd4]
  simp only [T.depth]
  rcases List.mem_cons.1 hu with rfl | hu
  · omega
  · have := this.2 u hu; omega
theorem klk (s : Bytes) (ts : List T) : joined 27 0 s (ts.map ptOf) = ptOf (kd4 s ts) := by
 unfold joined
 have e : nodesOf 27 (ts.map ptOf) = (kd4 s ts).size := by
  rw [kcX, if_pos rfl, kdv, List.map_map, List.length_map]; rfl
 rw [e, kks s]
 show Pt.mk _ _ _ = Pt.mk _ _ _
 congr 1
 by_cases hs : (kd4 s ts).size <= 5000 /\ (kd4 s ts).depth <= 40
 · rw [if_pos hs, if_pos hs]
   rw [List.map_map]
   have : ts.map (Pt.e ∘ ptOf) = ts.map (fun t => t.flat 0) := List.map_congr_left fun t ht => by
    have := kiD s ts t ht
    simp only [Function.comp, ptOf]
    rw [if_pos (by omega)]
   rw [this]
   exact kfW s ts (by omega)
 · rw [if_neg hs, if_neg hs]
def okT (t : T) : Prop := t.okB = true /\ t.lab.op ≠ 28
theorem kje (o : Int) (h : 4 <= o /\ o <= 24) : ka8 ⟨o, 0, []⟩ = true := by
 have e1 : o ≠ 1 := by omega
 have e2 : o ≠ 2 := by omega
 have e3 : o ≠ 3 := by omega
 have e25 : o ≠ 25 := by omega
 have e27 : o ≠ 27 := by omega
 simp [ka8, e1, e2, e3, e25, e27]; omega
theorem kom (ts : List T) (h : ∀ t ∈ ts, okT t) : ∀ acc : T, acc.okB = true -> acc.lab.op = 28 -> (keB acc ts).okB = true /\ (keB acc ts).lab.op = 28 := by
 induction ts with
 | nil => intro acc h1 h2; exact ⟨h1, h2⟩
 | cons t r ih =>
  intro acc h1 h2
  have ht := h t (by simp)
  refine ih (fun u hu => h u (by simp [hu])) _ ?_ rfl
  have h3 := ht.1
  have h4 := ht.2
  simp [T.okB, ka8, fitsB, kaa, argsT, argsL, h1, h2, h3, h4]
theorem kc2 (e : Int) (he : e ≠ 0) (r : Rd) : (r.fail e).code ≠ 0 := by
 unfold Rd.fail; split
 · exact he
 · assumption
theorem kgi : ∀ (f : Nat) (t : Task) (r : Rd) (p : Pt) (r' : Rd), run f t r = some (p, r') -> r.code ≠ 0 -> r'.code = r.code /\ r'.at_ = r.at_ := by
 have fl : ∀ (e : Int) (r : Rd), r.code ≠ 0 -> (r.fail e).code = r.code /\ (r.fail e).at_ = r.at_ := fun e r h => by unfold Rd.fail; rw [if_neg h]; exact ⟨rfl, rfl⟩
 have nd : ∀ (s : Bytes) (r : Rd), r.code ≠ 0 -> (r.need s).code = r.code /\ (r.need s).at_ = r.at_ := fun s r h => by
  unfold Rd.need; split
  · exact ⟨rfl, rfl⟩
  · exact fl 5 r h
 have nm : ∀ (m : Nat) (r : Rd), r.code ≠ 0 -> (r.numR m).code = r.code /\ (r.numR m).at_ = r.at_ := fun m r h => by
  unfold Rd.numR; split
  · exact ⟨rfl, rfl⟩
  · exact fl 5 r h
 intro f
 induction f with
 | zero => intro t r p r' h; cases h
 | succ f ih =>
  intro t r p r' h hc
  have IH : ∀ {t : Task} {r1 : Rd} {p : Pt} {r' : Rd}, run f t r1 = some (p, r') -> (r1.code = r.code /\ r1.at_ = r.at_) -> r'.code = r.code /\ r'.at_ = r.at_ := fun h1 h2 => by
   have := ih _ _ _ _ h1 (by rw [h2.1]; exact hc)
   exact ⟨this.1.trans h2.1, this.2.trans h2.2⟩
  have N : ∀ (s : Bytes) {r1 : Rd}, (r1.code = r.code /\ r1.at_ = r.at_) -> (r1.need s).code = r.code /\ (r1.need s).at_ = r.at_ := fun s {r1} h2 => by
   have := nd s r1 (by rw [h2.1]; exact hc)
   exact ⟨this.1.trans h2.1, this.2.trans h2.2⟩
  cases t with
  | lev n =>
   simp only [run] at h
   split at h
   · exact IH h ⟨rfl, rfl⟩
   · obtain ⟨⟨q, r1⟩, h1, h2⟩ := bind_some h
     simp only at h2
     split at h2 <;> exact IH h2 (IH h1 ⟨rfl, rfl⟩)
  | rl n ps ops =>
   simp only [run] at h
   split at h
   · simp only [Option.some.injEq, Prod.mk.injEq] at h
     obtain ⟨rfl, rfl⟩ := h; exact ⟨rfl, rfl⟩
   · obtain ⟨⟨q, r1⟩, h1, h2⟩ := bind_some h
     exact IH h2 (IH h1 ⟨rfl, rfl⟩)
  | ll n p0 =>
   simp only [run] at h
   split at h
   · simp only [Option.some.injEq, Prod.mk.injEq] at h
     obtain ⟨rfl, rfl⟩ := h; exact ⟨rfl, rfl⟩
   · obtain ⟨⟨q, r1⟩, h1, h2⟩ := bind_some h
     simp only at h2
     split at h2
     · simp only [Option.some.injEq, Prod.mk.injEq] at h2
       obtain ⟨rfl, rfl⟩ := h2; exact IH h1 ⟨rfl, rfl⟩
     · exact IH h2 (IH h1 ⟨rfl, rfl⟩)
  | opnd =>
   simp only [run] at h
   split at h
   · simp only [Option.some.injEq, Prod.mk.injEq] at h
     obtain ⟨rfl, rfl⟩ := h; exact fl 6 r hc
   · split at h
     · obtain ⟨⟨q, r1⟩, h1, h2⟩ := map_some h
       simp only [Prod.mk.injEq] at h2
       obtain ⟨rfl, rfl⟩ := h2
       exact IH (r' := r1) h1 ⟨rfl, rfl⟩
     · obtain ⟨⟨q, r1⟩, h1, h2⟩ := map_some h
       simp only [Prod.mk.injEq] at h2
       obtain ⟨rfl, rfl⟩ := h2
       refine IH (r' := r1) h1 ?_
       split
       · exact nm 1000 r.open_.adv hc
       · exact ⟨rfl, rfl⟩
  | single =>
   simp only [run] at h
   split at h
   · obtain ⟨⟨q, r1⟩, h1, h2⟩ := map_some h
     simp only [Prod.mk.injEq] at h2
     obtain ⟨rfl, rfl⟩ := h2
     exact N _ (IH h1 ⟨rfl, rfl⟩)
   · split at h
     · obtain ⟨⟨a, r1⟩, h1, h⟩ := bind_some h
       obtain ⟨⟨b, r2⟩, h2, h⟩ := bind_some h
       obtain ⟨⟨c, r3⟩, h3, h⟩ := map_some h
       simp only [Prod.mk.injEq] at h
       obtain ⟨rfl, rfl⟩ := h
       exact IH h3 (N _ (IH h2 (N _ (IH h1 ⟨rfl, rfl⟩))))
     · split at h
       · simp only [Option.some.injEq, Prod.mk.injEq] at h
         obtain ⟨rfl, rfl⟩ := h; exact ⟨rfl, rfl⟩
       · split at h
         · simp only [Option.some.injEq, Prod.mk.injEq] at h
           obtain ⟨rfl, rfl⟩ := h; exact ⟨rfl, rfl⟩
         · split at h
           · simp only [Option.some.injEq, Prod.mk.injEq] at h
             obtain ⟨rfl, rfl⟩ := h; exact nm _ r hc
           · split at h
             · exact IH h ⟨rfl, rfl⟩
             · simp only [Option.some.injEq, Prod.mk.injEq] at h
               obtain ⟨rfl, rfl⟩ := h; exact fl 5 r hc
  | named s =>
   simp only [run] at h
   split at h
   · split at h
     · simp only [Option.some.injEq, Prod.mk.injEq] at h
       obtain ⟨rfl, rfl⟩ := h; exact ⟨rfl, rfl⟩
     · obtain ⟨⟨q, r1⟩, h1, h2⟩ := bind_some h
       exact IH h2 (IH h1 ⟨rfl, rfl⟩)
   · simp only [Option.some.injEq, Prod.mk.injEq] at h
     obtain ⟨rfl, rfl⟩ := h; exact ⟨rfl, rfl⟩
  | args s ps =>
   simp only [run] at h
   split at h
   · obtain ⟨⟨q, r1⟩, h1, h2⟩ := bind_some h
     exact IH h2 (IH h1 ⟨rfl, rfl⟩)
   · simp only [Option.some.injEq, Prod.mk.injEq] at h
     obtain ⟨rfl, rfl⟩ := h; exact nd rp r hc
theorem kaD {f : Nat} {t : Task} {r : Rd} {p : Pt} {r' : Rd} (h : run f t r = some (p, r')) (hc : r'.code = 0) : r.code = 0 := by
 apply Classical.byContradiction
 intro h0
 exact h0 ((kgi f t r p r' h h0).1.symm.trans hc)
theorem klF {s : Bytes} {r : Rd} (h : (r.need s).code = 0) : r.isB s = true /\ r.need s = r.adv := by
 unfold Rd.need at h ⊢
 split at h
 · rename_i hb; exact ⟨hb, by rw [if_pos hb]⟩
 · exact absurd h (kc2 5 (by decide) r)
end Go.Proofs.YtlhcajhgbkgjbaaGreatDoor.Ex
namespace Go.Proofs.YtlhcajhgbkgjbaaGreatDoor.Ex
open Tr
section
variable {pre m x l : List Tok} {d : Nat} {r q : Rd}
end
end Go.Proofs.YtlhcajhgbkgjbaaGreatDoor.Ex
namespace Go.Proofs.YtlhcajhgbkgjbaaGreatDoor.Ex
open Tr
end Go.Proofs.YtlhcajhgbkgjbaaGreatDoor.Ex
namespace Go.Proofs.YtlhcajhgbkgjbaaGreatDoor.Sh
open Tr Ex
def kp6 : List Bytes := [[], [], [], [], [110, 111, 116], [45], [97, 110, 100], [111, 114], [120, 111, 114], [61, 62], [61], [60, 62], [60], [60, 61], [43], [45], [42], [100, 105, 118], [109, 111, 100], [45, 62], [115, 105, 110, 99, 101], [112, 114, 101], [111, 110, 99, 101], [104, 105, 115, 116], [112, 114, 101, 118], [119, 105, 116, 104, 105, 110], [105, 102]]
def levels : List Int := [-1, 10, 10, 10, 9, 9, 5, 4, 4, 2, 6, 6, 6, 6, 7, 7, 8, 8, 8, 1, 3, 9, 9, 9, 9, 9, 0, 10]
def kos (o : Int) : Bytes := if o < 0 then [] else (kp6[o.toNat]?).getD []
def levM (o : Int) : Int := if o < 0 then -1 else (levels[o.toNat]?).getD (-1)
def digs (n : Nat) : Bytes := if n < 10 then [(48 + n).toUInt8] else digs (n / 10) ++ [(48 + n % 10).toUInt8]
termination_by n
abbrev KT := Int × Bytes
def kd (s : Bytes) : KT := (if Lx.wordB s then 3 else 4, s)
def tLp : KT := (4, [40])
def tRp : KT := (4, [41])
def tCo : KT := (4, [44])
def kqy : KT := (3, [116, 114, 117, 101])
def kq4 : KT := (3, [102, 97, 108, 115, 101])
def tIf : KT := (3, [105, 102])
def kqz : KT := (3, [116, 104, 101, 110])
def kqA : KT := (3, [101, 108, 115, 101])
def numT (n : Int) : KT := (2, digs n.toNat)
def kpd (s : Bytes) : KT := (1, s)
def sur (b : Bool) (l : List KT) : List KT := if b then tLp :: (l ++ [tRp]) else l
def leftOf (L : Int) : Int := if L <= 2 then L + 1 else if L = 6 then 7 else L
def koZ (L : Int) : Int := if L <= 2 then L else L + 1
def toks : T -> List KT
 | .l0 x => if x.op = 1 then [numT x.n] else if x.op = 2 then [if x.n = 1 then kqy else kq4] else if x.op = 27 then [kpd x.name, tLp, tRp] else [kpd x.name]
 | .l1 x p =>
  if x.op = 27 then kpd x.name :: tLp :: (toks p ++ [tRp]) else if x.op = 28 then toks p
  else kd (kos x.op) :: ((if x.op = 25 then [numT x.n] else []) ++ sur (decide (levM p.lab.op < 9)) (toks p))
 | .l2 x p q =>
  if x.op = 28 then toks p ++ tCo :: toks q
  else sur (decide (levM p.lab.op < leftOf (levM x.op))) (toks p) ++ kd (kos x.op) :: sur (decide (levM q.lab.op < koZ (levM x.op))) (toks q)
 | .l3 x a b c => tIf :: (toks a ++ kqz :: (toks b ++ kqA :: toks c))
theorem kn1 : ∀ (f : Nat) (t : Task) (r : Rd) (x : Pt × Rd), run f t r = some x -> run (f + 1) t r = some x := by
 intro f
 induction f with
 | zero => intro t r x h; cases h
 | succ f ih =>
  intro t r x h
  have IH : ∀ {t : Task} {r : Rd} {x : Pt × Rd}, run f t r = some x -> run (f + 1) t r = some x := fun h => ih _ _ _ h
  cases t with
  | lev n =>
   rw [run] at h ⊢
   split at h
   · rename_i h9; rw [if_pos h9]; exact IH h
   · rename_i h9; rw [if_neg h9]
     obtain ⟨⟨a, b⟩, h1, h2⟩ := bind_some h
     rw [IH h1]
     simp only [Option.bind_some] at h2 ⊢
     by_cases h3 : n <= 2
     · rw [if_pos h3] at h2 ⊢; exact IH h2
     · rw [if_neg h3] at h2 ⊢; exact IH h2
  | rl n ps ops =>
   rw [run] at h ⊢
   cases hs : r.sign n with
   | none => rw [hs] at h; exact h
   | some s =>
    rw [hs] at h
    obtain ⟨a, h1, h2⟩ := bind_some h
    simp only
    rw [IH h1]
    exact IH h2
  | ll n p0 =>
   rw [run] at h ⊢
   cases hs : r.sign n with
   | none => rw [hs] at h; exact h
   | some s =>
    rw [hs] at h
    obtain ⟨⟨a, b⟩, h1, h2⟩ := bind_some h
    simp only
    rw [IH h1]
    simp only [Option.bind_some] at h2 ⊢
    by_cases h3 : n = 6
    · rw [if_pos h3] at h2 ⊢; exact h2
    · rw [if_neg h3] at h2 ⊢; exact IH h2
  | opnd =>
   rw [run] at h ⊢
   split at h
   · rename_i h3; rw [if_pos h3]; exact h
   · rename_i h3; rw [if_neg h3]
     cases hs : r.open_.sign 9 with
     | none => rw [hs] at h; obtain ⟨a, h1, h2⟩ := map_some h; simp only; rw [IH h1]; exact congrArg some h2
     | some s => rw [hs] at h; obtain ⟨a, h1, h2⟩ := map_some h; simp only; rw [IH h1]; exact congrArg some h2
  | single =>
   rw [run] at h ⊢
   split at h
   · rename_i h3; rw [if_pos h3]; obtain ⟨a, h1, h2⟩ := map_some h; rw [IH h1]; exact congrArg some h2
   · rename_i h3; rw [if_neg h3]
     split at h
     · rename_i h4; rw [if_pos h4]
       obtain ⟨a, h1, h⟩ := bind_some h
       obtain ⟨b, h2, h⟩ := bind_some h
       obtain ⟨c, h3, h⟩ := map_some h
       rw [IH h1]; simp only [Option.bind_some]; rw [IH h2]; simp only [Option.bind_some]; rw [IH h3]
       exact congrArg some h
     · rename_i h4; rw [if_neg h4]
       split at h
       · rename_i h5; rw [if_pos h5]; exact h
       · rename_i h5; rw [if_neg h5]
         split at h
         · rename_i h6; rw [if_pos h6]; exact h
         · rename_i h6; rw [if_neg h6]
           split at h
           · rename_i h7; rw [if_pos h7]; exact h
           · rename_i h7; rw [if_neg h7]
             split at h
             · rename_i h8; rw [if_pos h8]; exact IH h
             · rename_i h8; rw [if_neg h8]; exact h
  | named s =>
   rw [run] at h ⊢
   split at h
   · rename_i h3; rw [if_pos h3]
     split at h
     · rename_i h4; rw [if_pos h4]; exact h
     · rename_i h4; rw [if_neg h4]; obtain ⟨a, h1, h2⟩ := bind_some h; rw [IH h1]; exact IH h2
   · rename_i h3; rw [if_neg h3]; exact h
  | args s ps =>
   rw [run] at h ⊢
   split at h
   · rename_i h3; rw [if_pos h3]; obtain ⟨a, h1, h2⟩ := bind_some h; rw [IH h1]; exact IH h2
   · rename_i h3; rw [if_neg h3]; exact h
theorem keL {f g : Nat} (hfg : f <= g) {t : Task} {r : Rd} {x : Pt × Rd} (h : run f t r = some x) : run g t r = some x := by
 induction hfg with
 | refl => exact h
 | step _ ih => exact kn1 _ _ _ _ ih
def Gets (t : Task) (r : Rd) (p : Pt) (r' : Rd) : Prop := ∃ f, run f t r = some (p, r')
theorem Gets.det {t : Task} {r : Rd} {p p' : Pt} {r1 r2 : Rd} {f : Nat} (h : Gets t r p r1) (h2 : run f t r = some (p', r2)) : p' = p /\ r2 = r1 := by
 obtain ⟨g, h⟩ := h
 have a := keL (Nat.le_max_left f g) h2
 have b := keL (Nat.le_max_right f g) h
 rw [a] at b
 simpa using b
end Go.Proofs.YtlhcajhgbkgjbaaGreatDoor.Sh
namespace Go.Proofs.YtlhcajhgbkgjbaaGreatDoor.Tr
open Go.ChangeShapes Go.WideShapes Go.ChangeAt Go.RowKit
theorem kqx : Tryz.prog.underlying 39 = some (.struct (Tryz.prog.fieldsOf 39)) := by kernel_rfl
theorem koQ : Tryz.prog.stoodInHeld 39 = false := by kernel_rfl
theorem kpt : Tryz.prog.eqGuardType Tryz.prog.depth 39 = false := by kernel_rfl
def ndB (o a b c n o' a' b' c' n' : Int) (s s' : ByteArray) : Bool := o == o' && (a == a' && (b == b' && (c == c' && (n == n' && s.toList == s'.toList))))
theorem kju (d : Nat) (o a b c n o' a' b' c' n' : Int) (s s' : ByteArray) (w : World) :
 (Op.equalIn (d + 2) 39 (.agg #[.int .i64 o, .int .i64 a, .int .i64 b, .int .i64 c, .int .i64 n, .string s]) (.agg #[.int .i64 o', .int .i64 a', .int .i64 b', .int .i64 c', .int .i64 n', .string s'])).run Tryz.prog w =
  .ok (ndB o a b c n o' a' b' c' n' s s') w := by
 rw [run_equalIn_agg w (d + 1) 39 _ _ kqx koQ]
 simp only [Program.fieldsOf, Tryz.underlying39]
 unfold ndB
 rcases Bool.eq_false_or_eq_true (o == o') with h1 | h1
 rotate_left
 · simp [go_sem, h1, Tryz.underlying3, Tryz.underlying9]
 rcases Bool.eq_false_or_eq_true (a == a') with h2 | h2
 rotate_left
 · simp [go_sem, h1, h2, Tryz.underlying3, Tryz.underlying9]
 rcases Bool.eq_false_or_eq_true (b == b') with h3 | h3
 rotate_left
 · simp [go_sem, h1, h2, h3, Tryz.underlying3, Tryz.underlying9]
 rcases Bool.eq_false_or_eq_true (c == c') with h4 | h4
 rotate_left
 · simp [go_sem, h1, h2, h3, h4, Tryz.underlying3, Tryz.underlying9]
 rcases Bool.eq_false_or_eq_true (n == n') with h5 | h5
 rotate_left
 · simp [go_sem, h1, h2, h3, h4, h5, Tryz.underlying3, Tryz.underlying9]
 rcases Bool.eq_false_or_eq_true (s.toList == s'.toList) with h6 | h6
 rotate_left
 · simp [go_sem, h1, h2, h3, h4, h5, h6, Tryz.underlying3, Tryz.underlying9]
 simp [go_sem, h1, h2, h3, h4, h5, h6, Tryz.underlying3, Tryz.underlying9]
theorem kqg (o a b c n o' a' b' c' n' : Int) (s s' : ByteArray) (w : World) :
 (binOp .neq 39 (.agg #[.int .i64 o, .int .i64 a, .int .i64 b, .int .i64 c, .int .i64 n, .string s]) (.agg #[.int .i64 o', .int .i64 a', .int .i64 b', .int .i64 c', .int .i64 n', .string s'])).run Tryz.prog w = .ok (.bool (!ndB o a b c n o' a' b' c' n' s s')) w := by
 rw [run_neq_struct, show (10000 : Nat) = 9998 + 2 from rfl, kju]; rfl
theorem kqo (o a b c n o' a' b' c' n' : Int) (s s' : ByteArray) (w : World) :
 (binOp .eql 39 (.agg #[.int .i64 o, .int .i64 a, .int .i64 b, .int .i64 c, .int .i64 n, .string s]) (.agg #[.int .i64 o', .int .i64 a', .int .i64 b', .int .i64 c', .int .i64 n', .string s'])).run Tryz.prog w = .ok (.bool (ndB o a b c n o' a' b' c' n' s s')) w := by
 rw [run_eql_struct, show (10000 : Nat) = 9998 + 2 from rfl, kju]; rfl
theorem ko2 (op : BinOp) (x y : Operand) (xs ys : Array Value) (w : World) : (eqGuard op 39 x y (.agg xs) (.agg ys)).run Tryz.prog w = .ok () w := run_eqGuard_agg w op 39 x y xs ys kpt
attribute [local go_sem ↓] kqg kqo ko2
end Go.Proofs.YtlhcajhgbkgjbaaGreatDoor.Tr
namespace Go.Proofs.YtlhcajhgbkgjbaaGreatDoor.Sh
open Go.ChangeShapes Go.WideShapes Go.ChangeAt Go.RowKit
open Tr (str ka1 ka6 Bytes Nd T)
end Go.Proofs.YtlhcajhgbkgjbaaGreatDoor.Sh
namespace Go.Proofs.YtlhcajhgbkgjbaaGreatDoor.Lx
open Go.ChangeShapes Go.WideShapes Go.ChangeAt Go.RowKit
end Go.Proofs.YtlhcajhgbkgjbaaGreatDoor.Lx
namespace Go.Proofs.YtlhcajhgbkgjbaaGreatDoor.Ex
open Go.ChangeShapes Go.WideShapes Go.ChangeAt Go.RowKit
open Tr (str ka1 ka6 Bytes Nd)
def TokOff (w : World) (b : Nat) (v : Value) (l : List Tok) : Prop :=
 ∃ A c, v = .slice A l.length c /\ l.length <= c /\ c <= maxLen /\ ∀ i t, l[i]? = some t -> ∃ g, A = some ⟨g, 0, none⟩ /\ g < b /\ g < w.heap.size /\
  w.cell? ⟨g, i * 3, none⟩ = some (.int .i64 t.kind) /\ w.cell? ⟨g, i * 3 + 1, none⟩ = some (.string (str t.text)) /\ w.cell? ⟨g, i * 3 + 2, none⟩ = some (.int .i64 (t.at_ : Int))
theorem TokOff.keep {w w' : World} {b : Nat} {v : Value} {l : List Tok} (h : TokOff w b v l) (hs : w.heap.size <= w'.heap.size) (hk : ∀ g, g < b -> g < w.heap.size -> w'.heap[g]? = w.heap[g]?) : TokOff w' b v l := by
 obtain ⟨A, c, rfl, h1, h2, h3⟩ := h
 refine ⟨A, c, rfl, h1, h2, fun i t hi => ?_⟩
 obtain ⟨g, hg, hne, hlt, c0, c1, c2⟩ := h3 i t hi
 have q : ∀ k, w'.cell? ⟨g, k, none⟩ = w.cell? ⟨g, k, none⟩ := fun k => World.cell?_of_block (w := w) (a := ⟨g, k, none⟩) (hk g hne hlt)
 exact ⟨g, hg, hne, by omega, (q _).trans c0, (q _).trans c1, (q _).trans c2⟩
theorem TokOff.nil (w : World) (b : Nat) : TokOff w b (.slice none 0 0) [] := ⟨none, 0, rfl, by simp, by unfold maxLen; omega, fun i t h => by simp at h⟩
def PtW (w : World) (x : Value × Pt) : Prop := Tr.Nodes w x.1 x.2.e /\ (0 < x.2.e.length -> ∀ g o n c, x.1 = .slice (some ⟨g, o, none⟩) n c -> ∃ (cs : Array Value) (f : Nat × Nat), w.heap[g]? = some (Obj.cells cs 39 f))
theorem PtW.keep {w w' : World} {x : Value × Pt} (h : PtW w x) (hs : w.heap.size <= w'.heap.size) (hk : ∀ g : Nat, (∃ (cs : Array Value) (f : Nat × Nat), w.heap[g]? = some (Obj.cells cs 39 f)) -> w'.heap[g]? = w.heap[g]?) : PtW w' x := by
 obtain ⟨⟨A, c, e, h1, h2, h3⟩, h4⟩ := h
 refine ⟨⟨A, c, e, h1, h2, fun i t hi => ?_⟩, fun h0 g o n c e => ?_⟩
 · obtain ⟨g, o, rfl, hlt, c0, c1, c2, c3, c4, c5⟩ := h3 i t hi
   have q : ∀ k, w'.cell? ⟨g, k, none⟩ = w.cell? ⟨g, k, none⟩ := fun k => World.cell?_of_block (w := w) (a := ⟨g, k, none⟩) (hk g (h4 (by have := (List.getElem?_eq_some_iff.1 hi).1; omega) g o _ _ e))
   exact ⟨g, o, rfl, by omega, (q _).trans c0, (q _).trans c1, (q _).trans c2, (q _).trans c3, (q _).trans c4, (q _).trans c5⟩
 · obtain ⟨cs, f, hc⟩ := h4 h0 g o n c e
   exact ⟨cs, f, (hk g ⟨cs, f, hc⟩).trans hc⟩
theorem PtW.below {w w' : World} {x : Value × Pt} (h : PtW w x) (hb : Below w.heap.size w w') : PtW w' x :=
 h.keep hb.size (fun g ⟨_, _, hc⟩ => hb.block g (lt_of_block hc))
theorem PtW.set {w : World} {x : Value × Pt} (h : PtW w x) {B k T : Nat} {cs : Array Value} {f : Nat × Nat} (hB : w.heap[B]? = some (.cells cs T f)) (hT : T ≠ 39) (v : Value) : PtW (w.setCell ⟨B, k, none⟩ v) x :=
 h.keep (by simp [World.setCell]) (fun g ⟨cs', f', hc⟩ => Below.heap_setCell _ _ _ _ (by
  rintro rfl
  rw [hB] at hc
  simp only [Option.some.injEq, Obj.cells.injEq] at hc
  exact hT hc.2.1))
theorem PtW.own {w : World} {b : Nat} {v : Value} {p : Pt} (h : w.ownsRow b 39 6 v p.e.length (Tr.ndsOf p.e)) : PtW w (v, p) := by
 refine ⟨Tr.Nodes.of_own h, fun h0 g o n c e => ?_⟩
 obtain ⟨hl, h0' | ⟨g', cap, cur, hv, hb, hh, _⟩⟩ := h
 · simp only at e; rw [h0'.1] at e; cases e
 · simp only at e
   rw [hv] at e
   simp only [Value.slice.injEq, Option.some.injEq, Addr.mk.injEq] at e
   obtain ⟨⟨rfl, _⟩, _⟩ := e
   exact ⟨_, _, hh⟩
theorem PtW.nil (w : World) (p : Pt) (h : p.e = []) : PtW w (.slice none 0 0, p) := by
 refine ⟨?_, fun h0 => by simp only [h] at h0; simp at h0⟩
 simp only [h]
 exact ⟨none, 0, rfl, by simp, by unfold maxLen; omega, fun i t h => by simp at h⟩
theorem below_new (w : World) (o : Obj) : Below w.heap.size w (w.alloc o) := (Below.refl _ _).alloc (Nat.le_refl _) _
end Go.Proofs.YtlhcajhgbkgjbaaGreatDoor.Ex

