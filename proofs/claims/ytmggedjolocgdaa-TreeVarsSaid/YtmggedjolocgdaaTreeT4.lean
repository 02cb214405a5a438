/- What two expressions are joined to, its operands, its names; what is put in the places of names. Conditions: the expressions may be. -/
import Derived.Test.YtmggedjolocgdaaTreeT3
import Derived.Test.YtmggedjolocgdaaTreeLj
namespace Go.Proofs.Ytmggedjolocgdaa.Tr
open Go.RowKit
set_option linter.unusedVariables false
set_option linter.unusedSimpArgs false

theorem on_zero {e : List Nd} {i : Nat} {x : Nd} (h : Good e i x) (hi : i ≤ 1000000) : onNd 0 x = x := by
  have := (kids_on h 0 (by omega)).2
  rw [Int.natCast_zero] at this
  rw [this]
  conv => rhs; rw [h.bare]
  congr 1
  conv => rhs; rw [← List.map_id (kidsM x)]
  apply List.map_congr_left
  intro k _
  simp
theorem May.on_zero {e : List Nd} (h : May e) : e.map (onNd 0) = e := by
  conv => rhs; rw [← List.map_id e]
  apply List.map_congr_left
  intro x hx
  obtain ⟨i, hi⟩ := List.mem_iff_getElem?.1 hx
  have hl := h.le
  have := (List.getElem?_eq_some_iff.1 hi).1
  exact Tr.on_zero (h.node i x hi) (by omega)
theorem join_pair {a b : List Nd} (ha : May a) (hb : May b) (o : Int) (hbin : binaryB o = true) : joinM o 0 [] [a, b] = pairM ⟨o, 0, []⟩ a b := by
  obtain ⟨f2, f27, f28⟩ := fits2 (x := ⟨o, 0, []⟩) hbin
  simp only at f27 f28
  have pa := ha.pos
  have pb := hb.pos
  have ea : a.isEmpty = false := by cases a with
    | nil => simp at pa
    | cons _ _ => rfl
  have eb : b.isEmpty = false := by cases b with
    | nil => simp at pb
    | cons _ _ => rfl
  have hk : (kidsM (overM o 0 [] [])).length = 2 := by
    have hb' : 6 ≤ o ∧ o ≤ 20 := by simpa [binaryB] using hbin
    rw [kidsM_bin _ hbin]; rfl
  unfold joinM
  rw [show [a, b].any List.isEmpty = false by simp [ea, eb], if_neg (by simp), if_neg f28, if_neg f27, if_pos (by rw [hk]; rfl)]
  show (layStep (layStep ([], []) a) b).1 ++ [overM o 0 [] (layStep (layStep ([], []) a) b).2] = _
  unfold layStep behindM pairM
  simp only [List.length_nil, Int.natCast_zero, List.nil_append, ha.on_zero, List.length_append, List.length_map]
  congr 1
  simp only [overM, mkL, f28, if_false]
  simp
theorem plain_bin {o : Int} (hbin : binaryB o = true) : plainB ⟨o, 0, []⟩ = true := by
  have h : 6 ≤ o ∧ o ≤ 20 := by simpa [binaryB] using hbin
  unfold plainB
  have h1 : o ≠ 1 := by omega
  have h2 : o ≠ 2 := by omega
  have h3 : o ≠ 3 := by omega
  have h25 : o ≠ 25 := by omega
  have h27 : o ≠ 27 := by omega
  simp [h1, h2, h3, h25, h27]; omega
theorem pair_subL {a b : List Nd} (ha : May a) (hb : May b) {o : Int} (hbin : binaryB o = true) (hm : May (pairM ⟨o, 0, []⟩ a b)) : subM (pairM ⟨o, 0, []⟩ a b) ((a.length : Int) - 1) = normB a := by
  have pa := ha.pos
  rw [norm_eq ha]
  unfold subM
  rw [if_pos ⟨may_yes hm, by omega, by rw [pair_len]; omega⟩, show ((a.length : Int) - 1).toNat = a.length - 1 by omega, pair_treeL ha hb (plain_bin hbin) hbin (by omega)]; rfl
theorem pair_subR {a b : List Nd} (ha : May a) (hb : May b) {o : Int} (hbin : binaryB o = true) (hm : May (pairM ⟨o, 0, []⟩ a b)) : subM (pairM ⟨o, 0, []⟩ a b) ((a.length : Int) + (b.length : Int) - 1) = normB b := by
  have pb := hb.pos
  rw [norm_eq hb]
  unfold subM
  rw [if_pos ⟨may_yes hm, by omega, by rw [pair_len]; omega⟩, show ((a.length : Int) + (b.length : Int) - 1).toNat = a.length + (b.length - 1) by omega, pair_treeR ha hb (plain_bin hbin) hbin _ (by omega)]; rfl
/-- The names in what is joined: those of the first one, then others of the second one. -/
theorem pair_names {a b : List Nd} (ha : May a) (hb : May b) {o : Int} (hbin : binaryB o = true) (hm : May (pairM ⟨o, 0, []⟩ a b)) : ∃ R, varsM (pairM ⟨o, 0, []⟩ a b) = varsM a ++ R ∧ ∀ s ∈ R, (varsM b).count s = 1 ∧ (varsM a).count s = 0 := by
  obtain ⟨R, h1, h2⟩ := pair_vars ha hb (plain_bin hbin) hbin
  unfold varsM
  rw [norm_eq hm, norm_eq ha, norm_eq hb]
  refine ⟨R, h1, fun s hs => ⟨?_, List.count_eq_zero_of_not_mem (h2 s hs).2⟩⟩
  rw [vars_count, if_pos (h2 s hs).1]
/-- Each Var's name is one of the names, once. -/
theorem name_count {e : List Nd} (h : May e) {i : Nat} {x : Nd} (hx : e[i]? = some x) (ho : x.op = 3) : (varsM e).count x.name = 1 := by
  unfold varsM
  have hm : x.name ∈ varsOf (normM e) := (vars_flat (root e) x.name 0).2 ⟨x.lab, h.lab_mem hx, ho, rfl⟩
  rw [norm_eq h, vars_count, if_pos hm]

/-! ### What is put -/
/-- A name's expression, as a tree. -/
def putF (names : List Bytes) (ps : List (List Nd)) (x : Lab) : Option T := if x.op = 3 then (match placeM names x.name with | some k => (ps[k]?).map root | none => none) else none
theorem putF_op (names : List Bytes) (ps : List (List Nd)) (x : Lab) (u : T) (h : putF names ps x = some u) : x.op = 3 := by
  unfold putF at h
  split at h
  · assumption
  · simp at h
theorem putF_some (names : List Bytes) (ps : List (List Nd)) (hps : ∀ p ∈ ps, May p) (x : Lab) (u : T) (h : putF names ps x = some u) : x.op = 3 ∧ u.okB = true ∧ u.lab.op ≠ 28 := by
  refine ⟨putF_op names ps x u h, ?_⟩
  unfold putF at h
  split at h
  · cases hp : placeM names x.name with
    | none => rw [hp] at h; simp at h
    | some k =>
      rw [hp] at h
      simp only [Option.map_eq_some_iff] at h
      obtain ⟨p, hpk, rfl⟩ := h
      have hm := hps p (List.mem_of_getElem? hpk)
      exact ⟨hm.root_ok, hm.root_lab⟩
  · simp at h
theorem putP_eq (names : List Bytes) (ps : List (List Nd)) (hn : names.length = ps.length) (hps : ∀ p ∈ ps, May p) (x : Nd) : putP names (ps.map normB) x = match putF names ps x.lab with | some u => u.flat 0 | none => [] := by
  unfold putP putF
  show (if x.op = 3 then _ else _) = match (if x.op = 3 then (match placeM names x.name with | some k => (ps[k]?).map root | none => none) else none) with | some u => u.flat 0 | none => []
  by_cases ho : x.op = 3
  · rw [if_pos ho, if_pos ho]
    cases hp : placeM names x.name with
    | none => rfl
    | some k =>
      have hk := (List.getElem?_eq_some_iff.1 (place_some _ _ _ hp)).1
      have hkp : k < ps.length := by omega
      simp only [List.getElem?_eq_getElem hkp, Option.map_some, List.getD, List.getElem?_map, Option.getD_some]
      rw [norm_eq (hps _ (List.getElem_mem hkp))]; rfl
  · rw [if_neg ho, if_neg ho]
theorem put_size (f : Lab → Option T) (m : Nat) (hf : ∀ x u, f x = some u → u.size ≤ m) (hm : 1 ≤ m) (t : T) : (t.put f).size ≤ t.size * m := by
  induction t with
  | l0 x =>
    simp only [T.put, T.size, Nat.one_mul]
    cases hx : f x with
    | none => simpa [T.size] using hm
    | some u => exact hf x u hx
  | l1 x p ih => simp only [T.put, T.size, Nat.add_mul]; omega
  | l2 x p q ih1 ih2 => simp only [T.put, T.size, Nat.add_mul]; omega
  | l3 x p q r ih1 ih2 ih3 => simp only [T.put, T.size, Nat.add_mul]; omega
theorem putF_size (names : List Bytes) (ps : List (List Nd)) (hps : ∀ p ∈ ps, May p) (m : Nat) (hl : ∀ p ∈ ps, p.length ≤ m) (x : Lab) (u : T) (h : putF names ps x = some u) : u.size ≤ m := by
  unfold putF at h
  split at h
  · cases hp : placeM names x.name with
    | none => rw [hp] at h; simp at h
    | some k =>
      rw [hp] at h
      simp only [Option.map_eq_some_iff] at h
      obtain ⟨p, hpk, rfl⟩ := h
      have hmem := List.mem_of_getElem? hpk
      unfold root
      rw [(hps p hmem).size]; exact hl p hmem
  · simp at h
/-- What is put, as a tree in order. -/
theorem putM_flat {e : List Nd} (he : May e) (names : List Bytes) (ps : List (List Nd)) (hn : names.length = ps.length) (hps : ∀ p ∈ ps, May p) (hl : ∀ p ∈ ps, p.length ≤ 100000) : putM e names ps = ((root e).put (putF names ps)).flat 0 := by
  have hne : normB e ≠ [] := fun h => by rw [(norm_nil_iff e)] at h; rw [may_yes he] at h; cases h
  have hle := he.le
  have hsz := put_size (putF names ps) 100000 (fun x u h => putF_size names ps hps 100000 hl x u h) (by omega) (root e)
  have hre : (root e).size = e.length := he.size
  obtain ⟨A, _, _, h3⟩ := fill_flat (putP names (ps.map normB)) (putF names ps) (putP_eq names ps hn hps) (putF_op names ps) (root e) 0 ([], []) he.root_ok rfl (by simp; rw [hre] at hsz; omega)
  rw [putM_eq, if_neg hne, if_pos hn, if_pos (fun p hp h => by rw [(norm_nil_iff p), may_yes (hps p hp)] at h; cases h), norm_eq he]
  unfold fillF normM
  rw [h3]; simp
theorem room_put {e : List Nd} (he : ∀ x, x ∈ normB e → True) (names : List Bytes) (ps : List (List Nd)) (hl : ∀ p ∈ ps, p.length ≤ 100) (hel : (normB e).length ≤ 100) : roomOf (putP names (ps.map normB)) (normB e) ≤ 80000 := by
  refine Nat.le_trans (room_le _ _ 100 (fun x _ => ?_)) (by omega)
  unfold putP
  split
  · cases placeM names x.name with
    | none => simp
    | some k =>
      simp only [List.getD, List.getElem?_map]
      cases hp : ps[k]? with
      | none => simp
      | some p =>
        simp only [Option.map_some, Option.getD_some]
        have := hl p (List.mem_of_getElem? hp)
        refine Nat.le_trans ?_ this
        unfold normB subM
        split
        · rename_i hc
          rw [T.flat_len]
          exact size_le p (may_of hc.1) _ (by omega)
        · simp
  · simp
theorem norm_len_le (e : List Nd) : (normB e).length ≤ e.length := by
  unfold normB subM
  split
  · rename_i hc
    rw [T.flat_len]
    exact size_le e (may_of hc.1) _ (by omega)
  · simp
end Go.Proofs.Ytmggedjolocgdaa.Tr
