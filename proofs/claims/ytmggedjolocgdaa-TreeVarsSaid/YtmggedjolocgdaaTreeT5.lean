/- What is put in the places of one name; contracts with their results written out. Conditions: the expressions may be. -/
import Derived.Test.YtmggedjolocgdaaTreeT4
namespace Go.Proofs.Ytmggedjolocgdaa.Tr
open Go.RowKit
set_option linter.unusedVariables false
set_option linter.unusedSimpArgs false

theorem norm_mem {e : List Nd} {x : Nd} (hx : x ∈ normB e) : mayB e = true ∧ x.lab ∈ (root e).labs := by
  rcases Bool.eq_false_or_eq_true (mayB e) with hm | hm
  · refine ⟨hm, ?_⟩
    rw [norm_eq (may_of hm)] at hx
    unfold normM at hx
    rw [← flat_labs (root e) 0]
    exact List.mem_map_of_mem hx
  · rw [(norm_nil_iff e).2 hm] at hx; simp at hx
theorem root_mem {e : List Nd} (h : May e) {x : Lab} (hx : x ∈ (root e).labs) : ∃ y ∈ e, y.lab = x := by
  have hp := h.pos
  unfold root at hx
  rw [tree_labs h.ahead _ (by omega), List.mem_map] at hx
  obtain ⟨j, hj, rfl⟩ := hx
  have := desc_le h.ahead _ (by omega) j hj
  have hjl : j < e.length := by omega
  exact ⟨e[j], List.getElem_mem hjl, by simp [List.getD, List.getElem?_eq_getElem hjl]⟩
theorem short_norm {e : List Nd} (h : Short e) : Short (normB e) := by
  intro x hx
  obtain ⟨hm, hl⟩ := norm_mem hx
  obtain ⟨y, hy, hyl⟩ := root_mem (may_of hm) hl
  have : x.name = y.name := (congrArg Lab.name hyl).symm
  rw [this]; exact h y hy
theorem short_labs {e : List Nd} (h : May e) (hs : Short (normB e)) {x : Lab} (hx : x ∈ (root e).labs) : x.name.length ≤ maxLen := by
  rw [norm_eq h] at hs
  rw [← flat_labs (root e) 0, List.mem_map] at hx
  obtain ⟨y, hy, rfl⟩ := hx
  exact hs y hy
theorem one_may {b : List Nd} (hb : May b) : ∀ p ∈ [b], May p := fun p hp => by simp at hp; subst hp; exact hb
theorem one_le {b : List Nd} (m : Nat) (h : b.length ≤ m) : ∀ p ∈ [b], p.length ≤ m := fun p hp => by simp at hp; subst hp; exact h
theorem put_tree {a b : List Nd} (ha : May a) (hb : May b) (s : Bytes) (hbl : b.length ≤ 100) : putM a [s] [b] = ((root a).put (putF [s] [b])).flat 0 :=
  putM_flat ha [s] [b] rfl (one_may hb) (one_le _ (by omega))
theorem put_len {a b : List Nd} (ha : May a) (hb : May b) (s : Bytes) (hal : a.length ≤ 100) (hbl : b.length ≤ 100) : (putM a [s] [b]).length ≤ 100000 := by
  rw [put_tree ha hb s hbl, T.flat_len]
  have h1 := put_size (putF [s] [b]) 100 (fun x u h => putF_size [s] [b] (one_may hb) 100 (one_le _ hbl) x u h) (by omega) (root a)
  have h2 : (root a).size = a.length := ha.size
  rw [h2] at h1
  omega
theorem putF_one {b : List Nd} {s : Bytes} {x : Lab} {u : T} (h : putF [s] [b] x = some u) : x.op = 3 ∧ x.name = s ∧ u = root b := by
  refine ⟨putF_op _ _ _ _ h, ?_⟩
  unfold putF at h
  rw [if_pos (putF_op _ _ _ _ h)] at h
  cases hp : placeM [s] x.name with
  | none => rw [hp] at h; simp at h
  | some k =>
    rw [hp] at h
    have h1 := place_some _ _ _ hp
    cases k with
    | zero => simp at h h1; exact ⟨h1.symm, h.symm⟩
    | succ k => simp at h1
theorem put_short {a b : List Nd} (ha : May a) (hb : May b) (s : Bytes) (hsa : Short (normB a)) (hsb : Short (normB b)) (hbl : b.length ≤ 100) : Short (normB (putM a [s] [b])) := by
  apply short_norm
  intro x hx
  rw [put_tree ha hb s hbl] at hx
  have hl : x.lab ∈ ((root a).put (putF [s] [b])).labs := by rw [← flat_labs _ 0]; exact List.mem_map_of_mem hx
  rcases labs_put (putF [s] [b]) (putF_op _ _) (root a) ha.root_ok _ hl with ⟨h1, _⟩ | ⟨y, u, _, hu, h2⟩
  · exact short_labs ha hsa h1
  · obtain ⟨_, _, rfl⟩ := putF_one hu
    exact short_labs hb hsb h2
theorem name_mem {e : List Nd} (h : May e) (s : Bytes) : s ∈ varsM e ↔ ∃ x ∈ (root e).labs, x.op = 3 ∧ x.name = s := by
  unfold varsM; rw [norm_eq h]; exact vars_flat (root e) s 0
theorem put_off {a b : List Nd} (ha : May a) (hb : May b) (s : Bytes) (hbl : b.length ≤ 100) (h0 : (varsM a).count s = 0) : putM a [s] [b] = normB a := by
  rw [put_tree ha hb s hbl, norm_eq ha, put_same (putF [s] [b]) (root a) (fun x hx => ?_)]
  · rfl
  · cases hf : putF [s] [b] x with
    | none => exact .inl rfl
    | some u =>
      exfalso
      obtain ⟨h1, h2, _⟩ := putF_one hf
      have := (name_mem ha s).2 ⟨x, hx, h1, h2⟩
      have := List.one_le_count_iff.2 this
      omega
theorem put_on {a b : List Nd} (ha : May a) (hb : May b) (s : Bytes) (hbl : b.length ≤ 100) (hq : May (putM a [s] [b])) (h0 : (varsM b).count s = 0) : (varsM (putM a [s] [b])).count s = 0 := by
  rw [List.count_eq_zero]
  intro hm
  rw [name_mem hq s] at hm
  obtain ⟨x, hx, ho, hn⟩ := hm
  rw [put_tree ha hb s hbl, root_flat _ (put_ok _ (putF_some [s] [b] (one_may hb)) (root a) ha.root_ok)] at hx
  rcases labs_put (putF [s] [b]) (putF_op _ _) (root a) ha.root_ok _ hx with ⟨_, h1⟩ | ⟨y, u, _, hu, h2⟩
  · unfold putF at h1
    rw [if_pos ho, hn] at h1
    simp [placeM] at h1
  · obtain ⟨_, _, rfl⟩ := putF_one hu
    have := (name_mem hb s).2 ⟨x, h2, ho, hn⟩
    have := List.one_le_count_iff.2 this
    omega
theorem sub_lit (v : Value) (p : List Nd) (i : Int) (q : List Nd) (w : World) (hv : Nodes w v p) (h : subM p i = q) : Calls Try.prog 21 #[v, .int .i64 i] w (NodesPost w q) := by rw [← h]; exact sub_any v p i w hv
theorem count_lit (v : Value) (l : List Bytes) (s : Bytes) (m : Nat) (w : World) (hv : Strs w v l) (h : l.count s = m) : Calls Try.prog 31 #[v, .string (str s)] w fun e w' => e = .returned (.int .i64 (m : Int)) ∧ w = w' := by rw [← h]; exact count_any v l s w hv
end Go.Proofs.Ytmggedjolocgdaa.Tr
