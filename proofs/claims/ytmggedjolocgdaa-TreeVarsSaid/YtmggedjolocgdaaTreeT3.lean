/- What two expressions that may be are joined to: whether it may be, and its operands. Conditions: none. -/
import Derived.Test.YtmggedjolocgdaaTreeT2
namespace Go.Proofs.Ytmggedjolocgdaa.Tr
open Go.RowKit
set_option linter.unusedVariables false
set_option linter.unusedSimpArgs false

/-- Two expressions under an operator of two operands. -/
def pairM (x : Lab) (a b : List Nd) : List Nd := a ++ b.map (onNd (a.length : Int)) ++ [mkL x [(a.length : Int) - 1, (a.length : Int) + (b.length : Int) - 1]]
theorem pair_len (x : Lab) (a b : List Nd) : (pairM x a b).length = a.length + b.length + 1 := by unfold pairM; simp; omega
theorem onNd_lab (f : Int) (x : Nd) : (onNd f x).lab = x.lab := rfl
theorem onNd_op (f : Int) (x : Nd) : (onNd f x).op = x.op := rfl
/-- A node that is well, counted on: its operands are counted on. -/
theorem kids_on {e : List Nd} {i : Nat} {x : Nd} (h : Good e i x) (f : Nat) (hs : i + f ≤ 1000000000) : kidsM (onNd (f : Int) x) = (kidsM x).map (fun k => k + (f : Int)) ∧ onNd (f : Int) x = mkL x.lab ((kidsM x).map (fun k => k + (f : Int))) := by
  have e1 : onNd (f : Int) x = mkL x.lab ((kidsM x).map (fun k => k + (f : Int))) := by
    have h2 : onNd (f : Int) x = mkL x.lab ((kidsM x).map (onM (f : Int))) := by
      conv => lhs; rw [h.bare]
      rw [onNd_mk]
    rw [h2]
    congr 1
    apply List.map_congr_left
    intro k hk
    have := h.ahead k hk
    obtain ⟨j, rfl⟩ := Int.eq_ofNat_of_zero_le this.1
    rw [onM_nat _ _ (by omega)]; omega
  refine ⟨?_, e1⟩
  rw [e1]
  exact kids_mkL x.lab _ (by rw [List.length_map]; exact fits_kids x) (fun k hk => by
    rw [List.mem_map] at hk
    obtain ⟨j, hj, rfl⟩ := hk
    have := h.ahead j hj
    omega)

theorem pair_left (x : Lab) (a b : List Nd) {i : Nat} (hi : i < a.length) : (pairM x a b)[i]? = a[i]? := by
  unfold pairM; rw [List.append_assoc, List.getElem?_append_left hi]
theorem pair_mid (x : Lab) (a b : List Nd) {i : Nat} (hi : i < b.length) : (pairM x a b)[a.length + i]? = (b[i]?).map (onNd (a.length : Int)) := by
  unfold pairM
  rw [List.append_assoc, List.getElem?_append_right (by omega), Nat.add_sub_cancel_left, List.getElem?_append_left (by simpa using hi), List.getElem?_map]
theorem pair_last (x : Lab) (a b : List Nd) : (pairM x a b)[a.length + b.length]? = some (mkL x [(a.length : Int) - 1, (a.length : Int) + (b.length : Int) - 1]) := by
  unfold pairM; rw [List.getElem?_append_right (by simp)]; simp
theorem pair_cases (x : Lab) (a b : List Nd) {i : Nat} {n : Nd} (h : (pairM x a b)[i]? = some n) :
    (i < a.length ∧ a[i]? = some n) ∨ (∃ j m, i = a.length + j ∧ j < b.length ∧ b[j]? = some m ∧ n = onNd (a.length : Int) m) ∨ (i = a.length + b.length ∧ n = mkL x [(a.length : Int) - 1, (a.length : Int) + (b.length : Int) - 1]) := by
  have hl := (List.getElem?_eq_some_iff.1 h).1
  rw [pair_len] at hl
  by_cases h1 : i < a.length
  · exact .inl ⟨h1, by rw [pair_left x a b h1] at h; exact h⟩
  by_cases h2 : i < a.length + b.length
  · refine .inr (.inl ⟨i - a.length, b[i - a.length]'(by omega), by omega, by omega, List.getElem?_eq_getElem (by omega), ?_⟩)
    have := pair_mid x a b (i := i - a.length) (by omega)
    rw [show a.length + (i - a.length) = i by omega, h, List.getElem?_eq_getElem (by omega)] at this
    simpa using this
  · have : i = a.length + b.length := by omega
    subst this
    rw [pair_last] at h
    exact .inr (.inr ⟨rfl, by simpa using h.symm⟩)
theorem pair_opL (x : Lab) (a b : List Nd) {k : Int} (h0 : 0 ≤ k) (h1 : k < (a.length : Int)) : opAt (pairM x a b) k = opAt a k := by
  unfold opAt; rw [List.getD, List.getD, pair_left x a b (by omega)]
theorem pair_opR (x : Lab) (a b : List Nd) {k : Int} (h0 : 0 ≤ k) (h1 : k < (b.length : Int)) : opAt (pairM x a b) (k + (a.length : Int)) = opAt b k := by
  unfold opAt
  rw [List.getD, List.getD, show (k + (a.length : Int)).toNat = a.length + k.toNat by omega, pair_mid x a b (by omega)]
  cases h : b[k.toNat]? with
  | none => rw [List.getElem?_eq_none_iff] at h; omega
  | some m => rfl
theorem fits2 {x : Lab} (hbin : binaryB x.op = true) : fitsB x.op 2 = true ∧ x.op ≠ 27 ∧ x.op ≠ 28 := by
  have h : 6 ≤ x.op ∧ x.op ≤ 20 := by simpa [binaryB] using hbin
  have h27 : x.op ≠ 27 := by omega
  have h28 : x.op ≠ 28 := by omega
  have h26 : x.op ≠ 26 := by omega
  have hu : unaryB x.op = false := by
    unfold unaryB
    simp only [Bool.or_eq_false_iff, beq_eq_false_iff_ne]; omega
  exact ⟨by unfold fitsB; simp [h26, h27, h28, hu, hbin], h27, h28⟩
theorem pair_good {x : Lab} {a b : List Nd} (ha : May a) (hb : May b) (hx : plainB x = true) (hbin : binaryB x.op = true) {i : Nat} {n : Nd} (h : (pairM x a b)[i]? = some n) : Good (pairM x a b) i n := by
  have hla := ha.le
  have hlb := hb.le
  have hpa := ha.pos
  have hpb := hb.pos
  rcases pair_cases x a b h with ⟨h1, h2⟩ | ⟨j, m, rfl, hj, h2, rfl⟩ | ⟨rfl, rfl⟩
  · have g := ha.node i n h2
    refine ⟨g.plain, g.bare, g.ahead, ?_⟩
    rw [List.map_congr_left (g := opAt a) (fun k hk => pair_opL x a b (g.ahead k hk).1 (by have := (g.ahead k hk).2; omega))]
    exact g.args
  · have g := hb.node j m h2
    obtain ⟨k1, k2⟩ := kids_on g a.length (by omega)
    refine ⟨g.plain, by rw [k1]; exact k2, ?_, ?_⟩
    · rw [k1]
      intro k hk
      rw [List.mem_map] at hk
      obtain ⟨q, hq, rfl⟩ := hk
      have := g.ahead q hq
      omega
    · rw [k1, List.map_map]
      rw [List.map_congr_left (f := opAt (pairM x a b) ∘ fun k => k + (a.length : Int)) (g := opAt b) (fun k hk => pair_opR x a b (g.ahead k hk).1 (by have := (g.ahead k hk).2; omega))]
      exact g.args
  · obtain ⟨f2, f27, f28⟩ := fits2 hbin
    refine good_mk hx f2 (by intro k hk; simp at hk; omega) ?_
    simp only [List.map_cons, List.map_nil]
    have o1 : opAt (pairM x a b) ((a.length : Int) - 1) ≠ 28 := by
      rw [pair_opL x a b (by omega) (by omega)]
      have := ha.last
      unfold opAt
      rwa [show ((a.length : Int) - 1).toNat = a.length - 1 by omega]
    have o2 : opAt (pairM x a b) ((a.length : Int) + (b.length : Int) - 1) ≠ 28 := by
      rw [show (a.length : Int) + (b.length : Int) - 1 = ((b.length : Int) - 1) + (a.length : Int) by omega, pair_opR x a b (by omega) (by omega)]
      have := hb.last
      unfold opAt
      rwa [show ((b.length : Int) - 1).toNat = b.length - 1 by omega]
    have q1 : (opAt (pairM x a b) ((a.length : Int) - 1) == 28) = false := by rw [beq_eq_false_iff_ne]; exact o1
    have q2 : (opAt (pairM x a b) ((a.length : Int) + (b.length : Int) - 1) == 28) = false := by rw [beq_eq_false_iff_ne]; exact o2
    have q3 : (x.op == 27) = false := by rw [beq_eq_false_iff_ne]; exact f27
    have q4 : (x.op == 28) = false := by rw [beq_eq_false_iff_ne]; exact f28
    simp [argsL, q1, q2, q3, q4]
theorem pair_ahead {x : Lab} {a b : List Nd} (ha : May a) (hb : May b) (hx : plainB x = true) (hbin : binaryB x.op = true) : Ahead (pairM x a b) := fun i n hn => (pair_good ha hb hx hbin hn).ahead
/-- The second one's trees stand as they stood. -/
theorem pair_treeR {x : Lab} {a b : List Nd} (ha : May a) (hb : May b) (hx : plainB x = true) (hbin : binaryB x.op = true) : ∀ i, i < b.length → tree (pairM x a b) (a.length + i) = tree b i := by
  have hla := ha.le
  have hlb := hb.le
  intro i
  induction i using Nat.strongRecOn with
  | ind i ih =>
    intro hi
    have hn := of_getD hi
    have hm : (pairM x a b)[a.length + i]? = some (onNd (a.length : Int) (b.getD i default)) := by rw [pair_mid x a b hi, hn]; rfl
    have g := hb.node i _ hn
    rw [tree_eq (pair_ahead ha hb hx hbin) hm, tree_eq hb.ahead hn, (kids_on g a.length (by omega)).1, List.map_map]
    congr 1
    apply List.map_congr_left
    intro k hk
    have hk2 := g.ahead k hk
    have := ih k.toNat (by omega) (by omega)
    rw [← this]
    show tree _ (k + (a.length : Int)).toNat = _
    congr 1; omega
theorem pair_treeL {x : Lab} {a b : List Nd} (ha : May a) (hb : May b) (hx : plainB x = true) (hbin : binaryB x.op = true) {i : Nat} (hi : i < a.length) : tree (pairM x a b) i = tree a i := by
  have h := ha.ahead
  unfold pairM; rw [List.append_assoc]; exact tree_append h hi
theorem pair_root {x : Lab} {a b : List Nd} (ha : May a) (hb : May b) (hx : plainB x = true) (hbin : binaryB x.op = true) : root (pairM x a b) = .l2 x (root a) (root b) := by
  have hpa := ha.pos
  have hpb := hb.pos
  obtain ⟨f2, f27, f28⟩ := fits2 hbin
  unfold root
  rw [pair_len, Nat.add_sub_cancel, tree_eq (pair_ahead ha hb hx hbin) (pair_last x a b), mkL_lab, kids_mkL x [_, _] f2 (by intro k hk; simp at hk; omega)]
  simp only [List.map_cons, List.map_nil, mkT]
  rw [show ((a.length : Int) - 1).toNat = a.length - 1 by omega, show ((a.length : Int) + (b.length : Int) - 1).toNat = a.length + (b.length - 1) by omega, pair_treeL ha hb hx hbin (by omega), pair_treeR ha hb hx hbin _ (by omega)]
theorem pair_depth {x : Lab} {a b : List Nd} (ha : May a) (hb : May b) (hx : plainB x = true) (hbin : binaryB x.op = true) : depthM (pairM x a b) = max (depthM a) (depthM b) + 1 := by
  rw [depth_tree (pair_ahead ha hb hx hbin) (by rw [pair_len]; omega), ← ha.root_depth, ← hb.root_depth]
  show (root (pairM x a b)).depth = _
  rw [pair_root ha hb hx hbin]; rfl
theorem pair_uses {x : Lab} {a b : List Nd} (ha : May a) (hb : May b) (hx : plainB x = true) (hbin : binaryB x.op = true) {j : Nat} (hj : j + 1 < (pairM x a b).length) : usesM (pairM x a b) j = 1 := by
  have hla := ha.le
  have hlb := hb.le
  have hpa := ha.pos
  have hpb := hb.pos
  obtain ⟨f2, f27, f28⟩ := fits2 hbin
  rw [pair_len] at hj
  unfold usesM pairM
  rw [List.flatMap_append, List.flatMap_append, List.count_append, List.count_append, List.flatMap_cons, List.flatMap_nil, List.append_nil, kids_mkL x [_, _] f2 (by intro k hk; simp at hk; omega)]
  have hcb : (b.map (onNd (a.length : Int))).flatMap kidsM = (b.flatMap kidsM).map (fun k => k + (a.length : Int)) := by
    rw [List.flatMap_map, List.map_flatMap, List.flatMap_def, List.flatMap_def]
    congr 1
    apply List.map_congr_left
    intro m hm
    obtain ⟨i, hi⟩ := List.mem_iff_getElem?.1 hm
    exact (kids_on (hb.node i m hi) a.length (by have := (List.getElem?_eq_some_iff.1 hi).1; omega)).1
  rw [hcb]
  have zero_of : ∀ {e : List Nd} (he : May e) (k : Int), (k < 0 ∨ (e.length : Int) - 1 ≤ k) → (e.flatMap kidsM).count k = 0 := fun {e} he k hk => by
    rw [List.count_eq_zero]
    intro hm
    rw [List.mem_flatMap] at hm
    obtain ⟨n, hn, hk2⟩ := hm
    obtain ⟨i, hi⟩ := List.mem_iff_getElem?.1 hn
    have h1 := he.ahead i n hi k hk2
    have h2 := (List.getElem?_eq_some_iff.1 hi).1
    omega
  have cnt : ((b.flatMap kidsM).map (fun k => k + (a.length : Int))).count (j : Int) = (b.flatMap kidsM).count ((j : Int) - (a.length : Int)) := by
    have h : ∀ l : List Int, (l.map (fun k => k + (a.length : Int))).count (j : Int) = l.count ((j : Int) - (a.length : Int)) := fun l => by
      induction l with
      | nil => rfl
      | cons p r ih =>
        rw [List.map_cons, List.count_cons, List.count_cons, ih]
        congr 1
        by_cases hp : p = (j : Int) - (a.length : Int)
        · rw [if_pos (by rw [beq_iff_eq]; omega), if_pos (by rw [beq_iff_eq]; exact hp)]
        · rw [if_neg (by rw [beq_iff_eq]; omega), if_neg (by rw [beq_iff_eq]; exact hp)]
    exact h _
  rw [cnt]
  simp only [List.count_cons, List.count_nil, beq_iff_eq]
  by_cases h1 : j + 1 < a.length
  · have := ha.uses j h1
    unfold usesM at this
    rw [this, zero_of hb _ (by omega), if_neg (by omega), if_neg (by omega)]
  by_cases h2 : j + 1 = a.length
  · rw [zero_of ha _ (by omega), zero_of hb _ (by omega), if_neg (by omega), if_pos (by omega)]
  by_cases h3 : j + 1 < a.length + b.length
  · have := hb.uses (j - a.length) (by omega)
    unfold usesM at this
    rw [zero_of ha _ (by omega), show ((j : Int) - (a.length : Int)) = ((j - a.length : Nat) : Int) by omega, this, if_neg (by omega), if_neg (by omega)]
  · rw [zero_of ha _ (by omega), zero_of hb _ (by omega), if_pos (by omega), if_neg (by omega)]
theorem pair_may {x : Lab} {a b : List Nd} (ha : May a) (hb : May b) (hx : plainB x = true) (hbin : binaryB x.op = true) (hl : a.length + b.length + 1 ≤ 5000) (h1 : depthM a < 40) (h2 : depthM b < 40) : May (pairM x a b) := by
  obtain ⟨f2, f27, f28⟩ := fits2 hbin
  refine ⟨by rw [pair_len]; omega, by rw [pair_len]; exact hl, fun i n hn => pair_good ha hb hx hbin hn, fun j hj => pair_uses ha hb hx hbin hj, ?_, by rw [pair_depth ha hb hx hbin]; omega⟩
  rw [pair_len, Nat.add_sub_cancel, getD_of (pair_last x a b), mkL_op]; exact f28
theorem pair_not {x : Lab} {a b : List Nd} (ha : May a) (hb : May b) (hx : plainB x = true) (hbin : binaryB x.op = true) (h : 40 ≤ depthM a ∨ 40 ≤ depthM b) : ¬ May (pairM x a b) := fun hm => by
  have := hm.deep
  rw [pair_depth ha hb hx hbin] at this
  omega
/-- The names of the first one stand ahead. -/
theorem pair_vars {x : Lab} {a b : List Nd} (ha : May a) (hb : May b) (hx : plainB x = true) (hbin : binaryB x.op = true) : ∃ R, varsOf (normM (pairM x a b)) = varsOf (normM a) ++ R ∧ ∀ s ∈ R, s ∈ varsOf (normM b) ∧ s ∉ varsOf (normM a) := by
  obtain ⟨f2, f27, f28⟩ := fits2 hbin
  have h3 : x.op ≠ 3 := fits_not3 f2 (by omega)
  unfold normM
  rw [pair_root ha hb hx hbin]
  simp only [T.flat, Nat.zero_add]
  unfold varsOf
  rw [List.foldl_append, List.foldl_append, List.foldl_cons, List.foldl_nil]
  obtain ⟨R, r1, r2, r3, r4⟩ := vars_ext ((root b).flat (root a).size) (((root a).flat 0).foldl addName [])
  refine ⟨R, ?_, fun s hs => ?_⟩
  · rw [r1]
    unfold addName
    rw [mkL_op, if_neg h3]
  · refine ⟨?_, (r3 s hs).1⟩
    have h5 := (vars_mem ((root b).flat (root a).size) s).2 (r3 s hs).2
    rw [vars_flat] at h5
    exact (vars_flat (root b) s 0).2 h5
end Go.Proofs.Ytmggedjolocgdaa.Tr
