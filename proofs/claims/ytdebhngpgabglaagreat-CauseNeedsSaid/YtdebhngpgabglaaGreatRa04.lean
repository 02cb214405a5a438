/- The order of equations, as plain functions of their names and needs. Conditions: none. -/
import Derived.Test.YtdebhngpgabglaaGreatRa02
import Derived.Test.YtdebhngpgabglaaGreatRa03
set_option linter.unusedVariables false
set_option linter.unusedSimpArgs false
namespace Go.Proofs.YtdebhngpgabglaaGreat.Ca
open Go.Proofs.YtdebhngpgabglaaGreat.Tr
abbrev Qs := List (Bytes × List Bytes)
def nmQ (Q : Qs) (i : Nat) : Bytes := (Q.getD i ([], [])).1
def ndQ (Q : Qs) (i : Nat) : List Bytes := (Q.getD i ([], [])).2
def leftB (Q : Qs) (t : List Nat) (s : Bytes) : Bool := (List.range Q.length).any fun j => !t.contains j && nmQ Q j == s
def freeB (Q : Qs) (t : List Nat) (i : Nat) : Bool := !t.contains i && !(ndQ Q i).any (leftB Q t)
def nextQ (Q : Qs) (t : List Nat) : Option Nat := (List.range Q.length).find? (freeB Q t)
def goM (Q : Qs) : Nat → List Nat → List Nat
 | 0, t => t
 | f + 1, t => match nextQ Q t with
  | none => t
  | some i => goM Q f (t ++ [i])
def takenM (Q : Qs) : List Nat := goM Q Q.length []
def orderM (Q : Qs) : Option (List Nat) := if (takenM Q).length < Q.length then none else some (takenM Q)
theorem left_iff {Q : Qs} {t : List Nat} {s : Bytes} : leftB Q t s = true ↔ ∃ j, j < Q.length ∧ j ∉ t ∧ nmQ Q j = s := by
 unfold leftB; simp [and_assoc]
theorem left_not {Q : Qs} {t : List Nat} {s : Bytes} : leftB Q t s = false ↔ ∀ j, j < Q.length → nmQ Q j = s → j ∈ t := by
 rw [← Bool.not_eq_true, left_iff]
 constructor
 · intro h j hj e
   by_cases ht : j ∈ t
   · exact ht
   · exact absurd ⟨j, hj, ht, e⟩ h
 · rintro h ⟨j, hj, ht, e⟩; exact ht (h j hj e)
theorem free_iff {Q : Qs} {t : List Nat} {i : Nat} : freeB Q t i = true ↔ i ∉ t ∧ ∀ s ∈ ndQ Q i, ∀ j, j < Q.length → nmQ Q j = s → j ∈ t := by
 unfold freeB
 simp only [Bool.and_eq_true, Bool.not_eq_true', List.any_eq_false, Bool.not_eq_true]
 constructor
 · rintro ⟨h1, h2⟩; exact ⟨by simpa using h1, fun s hs => left_not.1 (h2 s hs)⟩
 · rintro ⟨h1, h2⟩; exact ⟨by simpa using h1, fun s hs => left_not.2 (h2 s hs)⟩
theorem next_some {Q : Qs} {t : List Nat} {i : Nat} (h : nextQ Q t = some i) : i < Q.length ∧ freeB Q t i = true ∧ ∀ j, j < i → freeB Q t j = false := by
 unfold nextQ at h
 have h1 := List.find?_some h
 have h2 := List.mem_of_find?_eq_some h
 refine ⟨by simpa using h2, h1, fun j hj => ?_⟩
 rw [List.find?_range_eq_some] at h
 simpa using h.2.2 j hj
theorem next_none {Q : Qs} {t : List Nat} (h : nextQ Q t = none) : ∀ i, i < Q.length → freeB Q t i = false := by
 unfold nextQ at h
 intro i hi
 have := List.find?_eq_none.1 h i (by simpa using hi)
 simpa using this
theorem next_of {Q : Qs} {t : List Nat} {i : Nat} (hi : i < Q.length) (hf : freeB Q t i = true) (hm : ∀ j, j < Q.length → freeB Q t j = true → i ≤ j) : nextQ Q t = some i := by
 unfold nextQ
 rw [List.find?_range_eq_some]
 refine ⟨hf, by simpa using hi, fun j hj => ?_⟩
 cases h : freeB Q t j with
 | false => rfl
 | true => have := hm j (by omega) h; omega
theorem next_no {Q : Qs} {t : List Nat} (h : ∀ i, i < Q.length → freeB Q t i = false) : nextQ Q t = none := by
 unfold nextQ
 rw [List.find?_eq_none]
 intro i hi
 rw [h i (by simpa using hi)]; simp
structure Valid (Q : Qs) (t : List Nat) : Prop where
 nodup : t.Nodup
 lt : ∀ i ∈ t, i < Q.length
 behind : ∀ (k i : Nat), t[k]? = some i → ∀ s ∈ ndQ Q i, ∀ j, j < Q.length → nmQ Q j = s → j ∈ t.take k
theorem Valid.nil (Q : Qs) : Valid Q [] := ⟨List.nodup_nil, fun i h => by simp at h, fun k i h => by simp at h⟩
theorem Valid.snoc {Q : Qs} {t : List Nat} {i : Nat} (h : Valid Q t) (hi : i < Q.length) (hf : freeB Q t i = true) : Valid Q (t ++ [i]) := by
 obtain ⟨h1, h2⟩ := free_iff.1 hf
 refine ⟨List.nodup_append.2 ⟨h.nodup, by simp, fun a ha b hb => by simp at hb; subst hb; exact fun e => h1 (e ▸ ha)⟩, fun j hj => ?_, fun k j hk s hs m hm e => ?_⟩
 · rcases List.mem_append.1 hj with hj | hj
   · exact h.lt j hj
   · simp at hj; omega
 · by_cases hkt : k < t.length
   · rw [List.getElem?_append_left hkt] at hk
     rw [List.take_append_of_le_length (by omega)]
     exact h.behind k j hk s hs m hm e
   · rw [List.getElem?_append_right (by omega)] at hk
     have hk0 : k - t.length = 0 := by have := (List.getElem?_eq_some_iff.1 hk).1; simpa using this
     rw [hk0] at hk
     simp at hk
     subst hk
     rw [show k = t.length by omega, List.take_append_of_le_length (by omega), List.take_length]
     exact h2 s hs m hm e
theorem nodup_le (n : Nat) (l : List Nat) (h : l.Nodup) (hl : ∀ x ∈ l, x < n) : l.length ≤ n := Tr.nodup_le n l h hl
theorem Valid.len {Q : Qs} {t : List Nat} (h : Valid Q t) : t.length ≤ Q.length := nodup_le _ _ h.nodup h.lt
theorem go_valid {Q : Qs} : ∀ (f : Nat) (t : List Nat), Valid Q t → Valid Q (goM Q f t) := by
 intro f
 induction f with
 | zero => intro t h; exact h
 | succ f ih =>
  intro t h
  unfold goM
  cases hn : nextQ Q t with
  | none => exact h
  | some i =>
   obtain ⟨h1, h2, -⟩ := next_some hn
   exact ih _ (h.snoc h1 h2)
theorem taken_valid (Q : Qs) : Valid Q (takenM Q) := go_valid _ _ (Valid.nil Q)
theorem full_mem {n : Nat} {l : List Nat} (h : l.Nodup) (hl : ∀ x ∈ l, x < n) (hn : n ≤ l.length) : ∀ i, i < n → i ∈ l := by
 intro i hi
 by_cases h0 : i ∈ l
 · exact h0
 · have := nodup_le n (i :: l) (List.nodup_cons.2 ⟨h0, h⟩) (fun x hx => by
    rcases List.mem_cons.1 hx with rfl | hx
    · exact hi
    · exact hl x hx)
   simp at this; omega
theorem order_valid {Q : Qs} {o : List Nat} (h : orderM Q = some o) : Valid Q o ∧ o.length = Q.length := by
 unfold orderM at h
 split at h
 · cases h
 · injection h with h
   subst h
   have := (taken_valid Q).len
   exact ⟨taken_valid Q, by omega⟩
theorem nodup_get {l : List Nat} (h : l.Nodup) {a b x : Nat} (ha : l[a]? = some x) (hb : l[b]? = some x) : a = b := by
 obtain ⟨h1, e1⟩ := List.getElem?_eq_some_iff.1 ha
 obtain ⟨h2, e2⟩ := List.getElem?_eq_some_iff.1 hb
 have hp := List.pairwise_iff_getElem.1 h
 rcases Nat.lt_trichotomy a b with c | c | c
 · exact absurd (e1.trans e2.symm) (hp a b h1 h2 c)
 · exact c
 · exact absurd (e2.trans e1.symm) (hp b a h2 h1 c)
end Go.Proofs.YtdebhngpgabglaaGreat.Ca
/- What the queue of the equations that wait counts, as plain functions. Conditions: none. -/
namespace Go.Proofs.YtdebhngpgabglaaGreat.Ca
open Go.Proofs.YtdebhngpgabglaaGreat.Tr
def leftN (Q : Qs) (t : List Nat) (s : Bytes) : Nat := ((List.range Q.length).filter fun j => !t.contains j && nmQ Q j == s).length
def waitN (Q : Qs) (t : List Nat) (k : Nat) : Nat := ((ndQ Q k).filter (leftB Q t)).length
def waitL (Q : Qs) (s : Bytes) : List Nat := (List.range Q.length).filter fun k => (ndQ Q k).contains s
theorem left_zero {Q : Qs} {t : List Nat} {s : Bytes} : leftB Q t s = decide (0 < leftN Q t s) := by
 cases h : leftB Q t s with
 | true =>
  obtain ⟨j, h1, h2, h3⟩ := left_iff.1 h
  refine (decide_eq_true ?_).symm
  exact List.length_pos_of_mem (a := j) (List.mem_filter.2 ⟨by simpa using h1, by simp [h2, h3]⟩)
 | false =>
  refine (decide_eq_false (fun hp => ?_)).symm
  obtain ⟨j, hj⟩ := List.exists_mem_of_length_pos hp
  rw [List.mem_filter] at hj
  obtain ⟨h1, h2⟩ := hj
  simp at h1 h2
  exact h2.1 (left_not.1 h j h1 h2.2)
theorem free_wait {Q : Qs} {t : List Nat} {i : Nat} : freeB Q t i = (!t.contains i && waitN Q t i == 0) := by
 unfold freeB waitN
 congr 1
 cases h : (ndQ Q i).any (leftB Q t) with
 | true =>
  obtain ⟨s, h1, h2⟩ := List.any_eq_true.1 h
  have := List.length_pos_of_mem (List.mem_filter.2 ⟨h1, h2⟩)
  have h0 : ((ndQ Q i).filter (leftB Q t)).length ≠ 0 := by omega
  simp only [Bool.not_true]
  exact (beq_eq_false_iff_ne.2 h0).symm
 | false =>
  have : (ndQ Q i).filter (leftB Q t) = [] := by
   rw [List.filter_eq_nil_iff]; intro s hs; have := List.any_eq_false.1 h s hs; simpa using this
  rw [this]; rfl
theorem filter_more (n k0 : Nat) (p p' : Nat → Bool) (hk : k0 < n) (h0 : p k0 = false) (h : ∀ k, k < n → p' k = (p k || k == k0)) : ((List.range n).filter p').Perm (k0 :: (List.range n).filter p) := by
 induction n with
 | zero => omega
 | succ n ih =>
  rw [List.range_succ, List.filter_append, List.filter_append]
  by_cases e : k0 = n
  · subst e
    have e1 : (List.range k0).filter p' = (List.range k0).filter p := List.filter_congr (fun k hk => by
     have hk := List.mem_range.1 hk
     rw [h k (by omega), beq_eq_false_iff_ne.2 (by omega), Bool.or_false])
    have e2 : [k0].filter p' = [k0] := by rw [List.filter_cons_of_pos (by rw [h k0 (by omega)]; simp)]; rfl
    have e3 : [k0].filter p = [] := by rw [List.filter_cons_of_neg (by rw [h0]; simp)]; rfl
    rw [e1, e2, e3, List.append_nil]
    exact List.perm_append_comm
  · have e1 : [n].filter p' = [n].filter p := List.filter_congr (fun k hk => by
     simp at hk; subst hk
     rw [h k (by omega), beq_eq_false_iff_ne.2 (by omega), Bool.or_false])
    rw [e1]
    exact (ih (by omega) (fun k hk => h k (by omega))).append_right _
theorem filter_len_more (n k0 : Nat) (p p' : Nat → Bool) (hk : k0 < n) (h0 : p k0 = false) (h : ∀ k, k < n → p' k = (p k || k == k0)) : ((List.range n).filter p').length = ((List.range n).filter p).length + 1 := by
 have := (filter_more n k0 p p' hk h0 h).length_eq
 simpa using this
theorem left_took {Q : Qs} {t : List Nat} {i : Nat} (hi : i < Q.length) (ht : i ∉ t) (s : Bytes) : leftN Q t s = leftN Q (t ++ [i]) s + (if nmQ Q i = s then 1 else 0) := by
 unfold leftN
 by_cases hs : nmQ Q i = s
 · rw [if_pos hs]
   refine filter_len_more _ i _ _ hi (by simp) (fun k hk => ?_)
   by_cases e : k = i
   · subst e; simp [ht, hs]
   · simp [e]
 · rw [if_neg hs, Nat.add_zero]
   congr 1
   refine List.filter_congr (fun k hk => ?_)
   by_cases e : k = i
   · subst e; simp [hs]
   · simp [e]
theorem leftB_took {Q : Qs} {t : List Nat} {i : Nat} (hi : i < Q.length) (ht : i ∉ t) (s : Bytes) : leftB Q (t ++ [i]) s = (leftB Q t s && (decide (nmQ Q i ≠ s) || decide (0 < leftN Q (t ++ [i]) s))) := by
 have h := left_took hi ht s
 rw [left_zero, left_zero, h]
 by_cases e : nmQ Q i = s
 · rw [if_pos e]
   simp [e]
 · rw [if_neg e]; simp [e]
theorem wait_same {Q : Qs} {t : List Nat} {i : Nat} (hi : i < Q.length) (ht : i ∉ t) (hl : 0 < leftN Q (t ++ [i]) (nmQ Q i)) (k : Nat) : waitN Q (t ++ [i]) k = waitN Q t k := by
 unfold waitN
 congr 1
 refine List.filter_congr (fun s _ => ?_)
 rw [leftB_took hi ht]
 by_cases e : nmQ Q i = s
 · subst e; simp [hl]
 · simp [e]
theorem count_less {l : List Bytes} (hn : l.Nodup) (s : Bytes) (p p' : Bytes → Bool) (hp : p s = true) (h' : p' s = false) (h : ∀ x, x ≠ s → p' x = p x) : (l.filter p).length = (l.filter p').length + (if s ∈ l then 1 else 0) := by
 induction l with
 | nil => simp
 | cons a l ih =>
  have ih := ih (List.nodup_cons.1 hn).2
  have hna := (List.nodup_cons.1 hn).1
  by_cases e : a = s
  · subst e
    rw [List.filter_cons_of_pos hp, List.filter_cons_of_neg (by rw [h']; simp), if_pos (by simp)]
    rw [if_neg hna] at ih
    simp [ih]
  · have e2 : (s ∈ a :: l) ↔ s ∈ l := by simp [Ne.symm e]
    by_cases hpa : p a = true
    · rw [List.filter_cons_of_pos hpa, List.filter_cons_of_pos (by rw [h a e]; exact hpa), List.length_cons, List.length_cons, ih]
      simp only [e2]; omega
    · rw [List.filter_cons_of_neg hpa, List.filter_cons_of_neg (by rw [h a e]; exact hpa), ih]
      simp only [e2]
theorem wait_took {Q : Qs} {t : List Nat} {i : Nat} (hnd : ∀ k, (ndQ Q k).Nodup) (hi : i < Q.length) (ht : i ∉ t) (hl : leftN Q (t ++ [i]) (nmQ Q i) = 0) (k : Nat) : waitN Q t k = waitN Q (t ++ [i]) k + (if nmQ Q i ∈ ndQ Q k then 1 else 0) := by
 unfold waitN
 refine count_less (hnd k) _ _ _ ?_ ?_ (fun s hs => ?_)
 · rw [left_zero, left_took hi ht, if_pos rfl]; exact decide_eq_true (by omega)
 · rw [left_zero, hl]; rfl
 · rw [leftB_took hi ht]; simp [Ne.symm hs]
def wtsAt (Q : Qs) (t w : List Nat) (m k : Nat) : Nat := waitN Q t k - (if k ∈ w.take m then 1 else 0)
def wtsL (Q : Qs) (t w : List Nat) (m : Nat) : List Int := (List.range Q.length).map fun k => (wtsAt Q t w m k : Int)
def rdyAt (Q : Qs) (t : List Nat) (i : Nat) (w : List Nat) (m : Nat) : List Nat := (List.range Q.length).filter fun k => !(t ++ [i]).contains k && wtsAt Q t w m k == 0
theorem wait_nodup (Q : Qs) (s : Bytes) : (waitL Q s).Nodup := List.Pairwise.sublist List.filter_sublist List.nodup_range
theorem wait_mem {Q : Qs} {s : Bytes} {k : Nat} : k ∈ waitL Q s ↔ k < Q.length ∧ s ∈ ndQ Q k := by unfold waitL; simp
theorem take_next {w : List Nat} {m k0 : Nat} (hw : w.Nodup) (h : w[m]? = some k0) : k0 ∉ w.take m ∧ ∀ k, k ∈ w.take (m + 1) ↔ k ∈ w.take m ∨ k = k0 := by
 refine ⟨fun hk => ?_, fun k => by rw [List.take_add_one, h]; simp⟩
 obtain ⟨a, ha, e⟩ := List.mem_iff_getElem.1 hk
 have hal : a < m := by simp at ha; omega
 have e2 : w[a]? = some k0 := by rw [← e, List.getElem_take]; exact List.getElem?_eq_getElem _
 have := nodup_get hw e2 h
 omega
theorem wts_next {Q : Qs} {t w : List Nat} {m k0 : Nat} (hw : w.Nodup) (h : w[m]? = some k0) (k : Nat) : wtsAt Q t w (m + 1) k = if k = k0 then wtsAt Q t w m k0 - 1 else wtsAt Q t w m k := by
 obtain ⟨h1, h2⟩ := take_next hw h
 unfold wtsAt
 by_cases e : k = k0
 · subst e
   rw [if_pos rfl, if_pos ((h2 k).2 (.inr rfl)), if_neg h1]; omega
 · rw [if_neg e]
   congr 1
   by_cases hk : k ∈ w.take m
   · rw [if_pos hk, if_pos ((h2 k).2 (.inl hk))]
   · rw [if_neg hk, if_neg (fun hh => ((h2 k).1 hh).elim hk e)]
theorem wtsL_len (Q : Qs) (t w : List Nat) (m : Nat) : (wtsL Q t w m).length = Q.length := by unfold wtsL; simp
theorem wtsL_get (Q : Qs) (t w : List Nat) (m : Nat) {k : Nat} (hk : k < Q.length) : (wtsL Q t w m)[k]? = some (wtsAt Q t w m k : Int) := by
 unfold wtsL; rw [List.getElem?_map, List.getElem?_range hk]; rfl
theorem wtsL_next {Q : Qs} {t w : List Nat} {m k0 : Nat} (hw : w.Nodup) (h : w[m]? = some k0) (hk : k0 < Q.length) (hp : 0 < wtsAt Q t w m k0) : (wtsL Q t w m).set k0 ((wtsAt Q t w m k0 : Int) - 1) = wtsL Q t w (m + 1) := by
 apply List.ext_getElem?
 intro k
 rw [List.getElem?_set, wtsL_len]
 by_cases hk' : k < Q.length
 · rw [wtsL_get Q t w m hk', wtsL_get Q t w (m + 1) hk', wts_next hw h k]
   by_cases e : k = k0
   · subst e
     rw [if_pos rfl, if_pos hk', if_pos rfl]; congr 1; omega
   · rw [if_neg (Ne.symm e), if_neg e]
 · rw [if_neg (by omega), List.getElem?_eq_none_iff.2 (by rw [wtsL_len]; omega), List.getElem?_eq_none_iff.2 (by rw [wtsL_len]; omega)]
theorem rdy_more {Q : Qs} {t w : List Nat} {i m k0 : Nat} (hw : w.Nodup) (h : w[m]? = some k0) (hk : k0 < Q.length) (ht : k0 ∉ t ++ [i]) (hp : wtsAt Q t w m k0 = 1) : (rdyAt Q t i w (m + 1)).Perm (k0 :: rdyAt Q t i w m) := by
 refine filter_more _ k0 _ _ hk (by rw [hp]; simp) (fun k hk => ?_)
 rw [wts_next hw h k]
 by_cases e : k = k0
 · subst e
   rw [if_pos rfl, hp]
   have : (t ++ [i]).contains k = false := by simpa using ht
   rw [this]; simp
 · rw [if_neg e, beq_eq_false_iff_ne.2 e, Bool.or_false]
theorem rdy_same {Q : Qs} {t w : List Nat} {i m k0 : Nat} (hw : w.Nodup) (h : w[m]? = some k0) (hp : 2 ≤ wtsAt Q t w m k0) : rdyAt Q t i w (m + 1) = rdyAt Q t i w m := by
 refine List.filter_congr (fun k _ => ?_)
 rw [wts_next hw h k]
 by_cases e : k = k0
 · subst e
   rw [if_pos rfl, beq_eq_false_iff_ne.2 (by omega), beq_eq_false_iff_ne.2 (by omega)]
 · rw [if_neg e]
theorem wts_zero (Q : Qs) (t w : List Nat) (k : Nat) : wtsAt Q t w 0 k = waitN Q t k := by unfold wtsAt; simp
theorem wts_end {Q : Qs} {t : List Nat} {i : Nat} (hnd : ∀ k, (ndQ Q k).Nodup) (hi : i < Q.length) (ht : i ∉ t) (hl : leftN Q (t ++ [i]) (nmQ Q i) = 0) {m : Nat} (hm : (waitL Q (nmQ Q i)).length ≤ m) {k : Nat} (hk : k < Q.length) : wtsAt Q t (waitL Q (nmQ Q i)) m k = waitN Q (t ++ [i]) k := by
 have h := wait_took hnd hi ht hl k
 unfold wtsAt
 rw [List.take_of_length_le hm]
 by_cases e : nmQ Q i ∈ ndQ Q k
 · rw [if_pos e] at h; rw [if_pos (wait_mem.2 ⟨hk, e⟩)]; omega
 · rw [if_neg e] at h; rw [if_neg (fun x => e (wait_mem.1 x).2)]; omega
theorem wts_pos {Q : Qs} {t : List Nat} {i : Nat} (hnd : ∀ k, (ndQ Q k).Nodup) (hi : i < Q.length) (ht : i ∉ t) (hl : leftN Q (t ++ [i]) (nmQ Q i) = 0) {m k0 : Nat} (h : (waitL Q (nmQ Q i))[m]? = some k0) : 0 < wtsAt Q t (waitL Q (nmQ Q i)) m k0 ∧ wtsAt Q t (waitL Q (nmQ Q i)) m k0 = waitN Q t k0 ∧ k0 < Q.length := by
 have hk := wait_mem.1 (List.mem_of_getElem? h)
 have h1 := wait_took hnd hi ht hl k0
 rw [if_pos hk.2] at h1
 have h2 := (take_next (wait_nodup Q _) h).1
 have e : wtsAt Q t (waitL Q (nmQ Q i)) m k0 = waitN Q t k0 := by unfold wtsAt; rw [if_neg h2]; rfl
 exact ⟨by omega, e, hk.1⟩
theorem wait_free {Q : Qs} {t : List Nat} (hv : Valid Q t) {k : Nat} (hk : k ∈ t) : waitN Q t k = 0 := by
 obtain ⟨a, ha, e⟩ := List.mem_iff_getElem.1 hk
 have he : t[a]? = some k := by rw [List.getElem?_eq_getElem ha, e]
 unfold waitN
 have : (ndQ Q k).filter (leftB Q t) = [] := by
  rw [List.filter_eq_nil_iff]
  intro s hs
  rw [left_not.2 (fun j hj ej => List.mem_of_mem_take (hv.behind a k he s hs j hj ej))]; simp
 rw [this]; rfl
theorem free_took {Q : Qs} {t : List Nat} {i : Nat} (hi : i < Q.length) (hf : freeB Q t i = true) (w : List Nat) : ((List.range Q.length).filter (freeB Q t)).Perm (i :: rdyAt Q t i w 0) := by
 refine filter_more _ i _ _ hi (by simp) (fun k hk => ?_)
 rw [wts_zero, free_wait]
 by_cases e : k = i
 · subst e
   rw [free_wait] at hf
   rw [hf]; simp
 · simp [e]
theorem rdy_end {Q : Qs} {t : List Nat} {i : Nat} (hnd : ∀ k, (ndQ Q k).Nodup) (hi : i < Q.length) (ht : i ∉ t) (hl : leftN Q (t ++ [i]) (nmQ Q i) = 0) {m : Nat} (hm : (waitL Q (nmQ Q i)).length ≤ m) : rdyAt Q t i (waitL Q (nmQ Q i)) m = (List.range Q.length).filter (freeB Q (t ++ [i])) := by
 refine List.filter_congr (fun k hk => ?_)
 rw [wts_end hnd hi ht hl hm (List.mem_range.1 hk), free_wait]
theorem rdy_none {Q : Qs} {t : List Nat} {i : Nat} (hi : i < Q.length) (ht : i ∉ t) (hl : 0 < leftN Q (t ++ [i]) (nmQ Q i)) (w : List Nat) : rdyAt Q t i w 0 = (List.range Q.length).filter (freeB Q (t ++ [i])) := by
 refine List.filter_congr (fun k hk => ?_)
 rw [wts_zero, free_wait, wait_same hi ht hl]
theorem wtsL_zero (Q : Qs) (t w : List Nat) : wtsL Q t w 0 = (List.range Q.length).map fun k => (waitN Q t k : Int) := by
 unfold wtsL; exact List.map_congr_left (fun k _ => by rw [wts_zero])
theorem wtsL_end {Q : Qs} {t : List Nat} {i : Nat} (hnd : ∀ k, (ndQ Q k).Nodup) (hi : i < Q.length) (ht : i ∉ t) (hl : leftN Q (t ++ [i]) (nmQ Q i) = 0) {m : Nat} (hm : (waitL Q (nmQ Q i)).length ≤ m) : wtsL Q t (waitL Q (nmQ Q i)) m = (List.range Q.length).map fun k => (waitN Q (t ++ [i]) k : Int) := by
 unfold wtsL; exact List.map_congr_left (fun k hk => by rw [wts_end hnd hi ht hl hm (List.mem_range.1 hk)])
theorem wtsL_same {Q : Qs} {t : List Nat} {i : Nat} (hi : i < Q.length) (ht : i ∉ t) (hl : 0 < leftN Q (t ++ [i]) (nmQ Q i)) (w : List Nat) : wtsL Q t w 0 = (List.range Q.length).map fun k => (waitN Q (t ++ [i]) k : Int) := by
 rw [wtsL_zero]; exact List.map_congr_left (fun k _ => by rw [wait_same hi ht hl])
end Go.Proofs.YtdebhngpgabglaaGreat.Ca
/- The queue in memory: how many of a name are left, who waits for a name, for how many each waits, what may be taken. Conditions: none. -/
namespace Go.Proofs.YtdebhngpgabglaaGreat.Ca
open Go.ChangeShapes Go.WideShapes Go.ChangeAt Go.RowKit Go.Maps Go.WideMaps Go.Proofs.YtdebhngpgabglaaGreat.Tr
def heldE (v : Value) : Option (DataW Value × List MemPlace) := some (.held v, [])
def MapIs (w : World) (b n : Nat) (f : Bytes → Option Value) : Prop :=
 ∃ D : DataW Value, w.ownsMap Tryz.prog 9 heldE b n D ∧ ∀ s : Bytes, Maps.has D (.string s) = (f s).isSome ∧ ∀ v z, f s = some v → D.atKey (.string s) z = .held v
theorem MapIs.made (w : World) : MapIs (w.alloc (.map #[] 0)) w.heap.size 0 (fun _ => none) :=
 ⟨.map [], World.ownsMap_made _ _ _ _, fun s => ⟨rfl, fun v z h => by cases h⟩⟩
theorem MapIs.lt {w : World} {b n : Nat} {f : Bytes → Option Value} (h : MapIs w b n f) : b < w.heap.size := by
 obtain ⟨D, h1, _⟩ := h; exact h1.lt
theorem MapIs.keep {w w' : World} {b n : Nat} {f : Bytes → Option Value} (h : MapIs w b n f) (hb : w'.heap[b]? = w.heap[b]?) : MapIs w' b n f := by
 obtain ⟨D, ⟨es, clock, h1, h2⟩, h3⟩ := h
 exact ⟨D, ⟨es, clock, hb.trans h1, h2⟩, h3⟩
theorem MapIs.nocells {w : World} {b n : Nat} {f : Bytes → Option Value} (h : MapIs w b n f) {cs : Array Value} {T : TypeId} {fr : Nat × Nat} (hc : w.heap[b]? = some (.cells cs T fr)) : False := by
 obtain ⟨D, ⟨es, clock, h1, h2⟩, h3⟩ := h
 rw [hc] at h1; cases h1
theorem MapIs.alloc {w : World} {b n : Nat} {f : Bytes → Option Value} (h : MapIs w b n f) (o : Obj) : MapIs (w.alloc o) b n f := h.keep (Below.heap_alloc _ _ _ h.lt)
theorem MapIs.lookN {w : World} {b n : Nat} {f : Bytes → Option Value} (h : MapIs w b n f) {t e : TypeId} {z : Value} (ht : Tryz.prog.underlying t = some (.map 9 e)) (hz : (zeroValue e).run Tryz.prog w = .ok z w) (s : Bytes) (hs : s.length ≤ maxLen) :
 (Instr.lookup t (.map (some b)) (.string (str s)) false).run Tryz.prog w = .ok ((f s).getD z) w := by
 obtain ⟨D, own, hD⟩ := h
 obtain ⟨v, ps, hrun, hv⟩ := own.lookup lawT ht hz (zd := .held z) (zp := []) rfl (keyName s hs)
 have hv' : DataW.held v = D.atKey (.string s) (.held z) := by
  unfold heldE at hv
  simp only [Option.some.injEq, Prod.mk.injEq] at hv
  exact hv.1
 rw [hrun]
 cases hf : f s with
 | some u =>
  rw [(hD s).2 u (.held z) hf] at hv'
  have hv' := DataW.held.inj hv'
  simp only [Option.getD_some, hv']
 | none =>
  have h0 : Maps.has D (.string s) = false := by rw [(hD s).1, hf]; rfl
  rw [atKey_of_not_has h0] at hv'
  have hv' := DataW.held.inj hv'
  simp only [Option.getD_none, hv']
theorem MapIs.put {w : World} {b n : Nat} {f : Bytes → Option Value} (h : MapIs w b n f) {t e : TypeId} (ht : Tryz.prog.underlying t = some (.map 9 e)) (hn : n < maxLen) (s : Bytes) (hs : s.length ≤ maxLen) (v : Value) :
 ∃ w', (Instr.mapUpdate t (.map (some b)) (.string (str s)) v).run Tryz.prog w = .ok () w' ∧ MapIs w' b (n + 1) (fun x => if x = s then some v else f x) ∧ w.grownBy w' (some b) := by
 obtain ⟨D, own, hD⟩ := h
 have hI := own.isMap
 obtain ⟨w', hrun, hown, hg⟩ := own.update lawT ht hn (keyName s hs) (d := .held v) (ps := []) rfl
 refine ⟨w', hrun, ⟨_, hown, fun x => ?_⟩, hg⟩
 show Maps.has _ _ = (if x = s then some v else f x).isSome ∧ ∀ u z, (if x = s then some v else f x) = some u → _
 by_cases hx : x = s
 · subst hx
   rw [if_pos rfl]
   exact ⟨has_put_same hI (show WideAt.IsKeyLit (.string x) from trivial) _, fun u z hu => by cases hu; exact atKey_put_same hI (show WideAt.IsKeyLit (.string x) from trivial) _ _⟩
 · have hne : (Lit.string x) ≠ .string s := fun h => hx (by injection h)
   rw [if_neg hx]
   exact ⟨(has_put_other hne _).trans (hD x).1, fun u z hu => (atKey_put_other hne _ _).trans ((hD x).2 u z hu)⟩
abbrev nilS : Value := .slice none 0 0
def natI (l : List Nat) : List Int := l.map Int.ofNat
abbrev wtV (gw N : Nat) : Value := .slice (some ⟨gw, 0, none⟩) N N
def wOf (g : Bytes → Option Value) (s : Bytes) : Value := (g s).getD nilS
structure QuAt (w : World) (base B bl bw gw N : Nat) (vr : Value) (f g : Bytes → Option Value) (nl nw : Nat) (LF : Bytes → Nat) (CF : Bytes → List Nat) (W H : List Int) : Prop where
 hp : HpAt w base B (.map (some bl)) (.map (some bw)) (wtV gw N) vr H
 left : MapIs w bl nl f
 leftV : ∀ s, (f s).getD (.int .i64 0) = .int .i64 (LF s : Int)
 wait : MapIs w bw nw g
 waitV : ∀ s, w.ownsRow base 3 1 (wOf g s) (natI (CF s)).length (intsOf (natI (CF s)))
 wts : w.ownsRow base 3 1 (wtV gw N) N (intsOf W)
 wlen : W.length = N
 ne : bl ≠ bw
 lo : base ≤ B ∧ base ≤ bl ∧ base ≤ bw ∧ base ≤ w.heap.size
 s1 : vr.ownBlock ≠ some gw
 s2 : ∀ s, (wOf g s).ownBlock ≠ some gw
 s3 : ∀ s k, (wOf g s).ownBlock = some k → vr.ownBlock ≠ some k
 s4 : ∀ s s' k, s ≠ s' → (wOf g s).ownBlock = some k → (wOf g s').ownBlock ≠ some k
theorem own_cells {w : World} {base n T sz : Nat} {v : Value} {xs : List Value} (h : w.ownsRow base T sz v n xs) {k : Nat} (hk : v.ownBlock = some k) : ∃ cs, w.heap[k]? = some (.cells cs T (0, 0)) := by
 obtain ⟨hl, h0 | ⟨g, cap, cur, rfl, hb, hh, _⟩⟩ := h
 · rw [h0.1] at hk; cases hk
 · have e : some g = some k := hk
   injection e with e
   subst e
   exact ⟨cur, hh⟩
section
variable {w w' : World} {base B bl bw gw N : Nat} {vr : Value} {f g : Bytes → Option Value} {nl nw : Nat} {LF : Bytes → Nat} {CF : Bytes → List Nat} {W H : List Int}
def Qb (B bl bw gw : Nat) (vr : Value) (g : Bytes → Option Value) (k : Nat) : Prop := k = B ∨ k = bl ∨ k = bw ∨ k = gw ∨ vr.ownBlock = some k ∨ ∃ s, (wOf g s).ownBlock = some k
theorem QuAt.row_ne (h : QuAt w base B bl bw gw N vr f g nl nw LF CF W H) {k : Nat} {cs : Array Value} (hc : w.heap[k]? = some (.cells cs 3 (0, 0))) : k ≠ B ∧ k ≠ bl ∧ k ≠ bw := by
 refine ⟨fun e => ?_, fun e => ?_, fun e => ?_⟩
 · subst e; have := h.hp.row.cell; rw [hc] at this; simp at this
 · subst e; exact h.left.nocells hc
 · subst e; exact h.wait.nocells hc
theorem QuAt.gw_ne (h : QuAt w base B bl bw gw N vr f g nl nw LF CF W H) : gw ≠ B ∧ gw ≠ bl ∧ gw ≠ bw := by
 obtain ⟨cs, hc⟩ := own_cells h.wts (k := gw) rfl
 exact h.row_ne hc
theorem QuAt.vr_ne (h : QuAt w base B bl bw gw N vr f g nl nw LF CF W H) {k : Nat} (hk : vr.ownBlock = some k) : k ≠ B ∧ k ≠ bl ∧ k ≠ bw := by
 obtain ⟨cs, hc⟩ := own_cells h.hp.row.own hk
 exact h.row_ne hc
theorem QuAt.w_ne (h : QuAt w base B bl bw gw N vr f g nl nw LF CF W H) {s : Bytes} {k : Nat} (hk : (wOf g s).ownBlock = some k) : k ≠ B ∧ k ≠ bl ∧ k ≠ bw := by
 obtain ⟨cs, hc⟩ := own_cells (h.waitV s) hk
 exact h.row_ne hc
theorem QuAt.B_ne (h : QuAt w base B bl bw gw N vr f g nl nw LF CF W H) : B ≠ bl ∧ B ≠ bw := by
 refine ⟨fun e => ?_, fun e => ?_⟩
 · subst e; exact h.left.nocells h.hp.row.cell
 · subst e; exact h.wait.nocells h.hp.row.cell
theorem QuAt.keep (h : QuAt w base B bl bw gw N vr f g nl nw LF CF W H) (hs : w.heap.size ≤ w'.heap.size) (hk : ∀ k, k < w.heap.size → Qb B bl bw gw vr g k → w'.heap[k]? = w.heap[k]?) : QuAt w' base B bl bw gw N vr f g nl nw LF CF W H :=
 ⟨⟨⟨(hk B h.hp.row.lt (.inl rfl)).trans h.hp.row.cell, own_block h.hp.row.own (fun k e => hk k (h.hp.row.ne k e).2 (.inr (.inr (.inr (.inr (.inl e))))))⟩, h.hp.heap⟩,
  h.left.keep (hk bl h.left.lt (.inr (.inl rfl))), h.leftV, h.wait.keep (hk bw h.wait.lt (.inr (.inr (.inl rfl)))),
  fun s => own_block (h.waitV s) (fun k e => hk k ((h.waitV s).lt k e).2 (.inr (.inr (.inr (.inr (.inr ⟨s, e⟩)))))),
  own_block h.wts (fun k e => hk k (h.wts.lt k e).2 (.inr (.inr (.inr (.inl (by
   have e : some gw = some k := e
   injection e with e; exact e.symm)))))), h.wlen, h.ne, ⟨h.lo.1, h.lo.2.1, h.lo.2.2.1, by have := h.lo.2.2.2; omega⟩, h.s1, h.s2, h.s3, h.s4⟩
theorem QuAt.below (h : QuAt w base B bl bw gw N vr f g nl nw LF CF W H) (hb : Below w.heap.size w w') : QuAt w' base B bl bw gw N vr f g nl nw LF CF W H := h.keep hb.size (fun k hk _ => hb.block k hk)
theorem QuAt.alloc (h : QuAt w base B bl bw gw N vr f g nl nw LF CF W H) (o : Obj) : QuAt (w.alloc o) base B bl bw gw N vr f g nl nw LF CF W H := h.below (below_new w o)
theorem QuAt.leftPut (h : QuAt w base B bl bw gw N vr f g nl nw LF CF W H) (hn : nl < maxLen) (s : Bytes) (hs : s.length ≤ maxLen) (m : Nat) :
 ∃ w1, (Instr.mapUpdate 67 (.map (some bl)) (.string (str s)) (.int .i64 (m : Int))).run Tryz.prog w = .ok () w1 ∧ (∃ f', QuAt w1 base B bl bw gw N vr f' g (nl + 1) nw (fun x => if x = s then m else LF x) CF W H) ∧ w.grownBy w1 (some bl) := by
 obtain ⟨w1, hrun, hm, hg⟩ := h.left.put Tryz.underlying67 hn s hs (.int .i64 (m : Int))
 have st : ∀ k, k < w.heap.size → k ≠ bl → w1.heap[k]? = w.heap[k]? := fun k hk hne => hg.block k hk (fun e => hne (by injection e))
 refine ⟨w1, hrun, ⟨_, ⟨⟨(st B h.hp.row.lt h.B_ne.1).trans h.hp.row.cell, own_block h.hp.row.own (fun k e => st k (h.hp.row.ne k e).2 (h.vr_ne e).2.1)⟩, h.hp.heap⟩, hm, fun x => ?_,
  h.wait.keep (st bw h.wait.lt h.ne.symm), fun x => own_block (h.waitV x) (fun k e => st k ((h.waitV x).lt k e).2 (h.w_ne e).2.1),
  own_block h.wts (fun k e => st k (h.wts.lt k e).2 (by have e : some gw = some k := e
                                                        injection e with e; subst e; exact h.gw_ne.2.1)), h.wlen, h.ne, ⟨h.lo.1, h.lo.2.1, h.lo.2.2.1, by have := h.lo.2.2.2; have := hg.size; omega⟩, h.s1, h.s2, h.s3, h.s4⟩, hg⟩
 by_cases hx : x = s
 · rw [if_pos hx, if_pos hx]; rfl
 · rw [if_neg hx, if_neg hx]; exact h.leftV x
theorem QuAt.wtsSet (h : QuAt w base B bl bw gw N vr f g nl nw LF CF W H) (k : Nat) (x : Int) : QuAt (w.setCell ⟨gw, k, none⟩ (.int .i64 x)) base B bl bw gw N vr f g nl nw LF CF (W.set k x) H := by
 have st : ∀ j, j ≠ gw → (w.setCell ⟨gw, k, none⟩ (.int .i64 x)).heap[j]? = w.heap[j]? := fun j hj => Below.heap_setCell _ _ _ _ hj
 obtain ⟨n1, n2, n3⟩ := h.gw_ne
 refine ⟨⟨⟨(st B n1.symm).trans h.hp.row.cell, own_block h.hp.row.own (fun j e => st j (fun e2 => h.s1 (e2 ▸ e)))⟩, h.hp.heap⟩, h.left.keep (st bl n2.symm), h.leftV, h.wait.keep (st bw n3.symm),
  fun s => own_block (h.waitV s) (fun j e => st j (fun e2 => h.s2 s (e2 ▸ e))), ?_, by rw [List.length_set]; exact h.wlen, h.ne, ⟨h.lo.1, h.lo.2.1, h.lo.2.2.1, by have := h.lo.2.2.2; simpa using this⟩, h.s1, h.s2, h.s3, h.s4⟩
 rw [intsOf_set]
 exact (h.wts.stored k (.int .i64 x)).1
theorem QuAt.heap (h : QuAt w base B bl bw gw N vr f g nl nw LF CF W H) {vr' : Value} {H' : List Int} (hp : HpAt w' base B (.map (some bl)) (.map (some bw)) (wtV gw N) vr' H') (hv : vr'.ownBlock = vr.ownBlock ∨ ∀ k, vr'.ownBlock = some k → w.heap.size ≤ k) (hk : Kp (fun i => i = B ∨ vr.ownBlock = some i) w w') :
 QuAt w' base B bl bw gw N vr' f g nl nw LF CF W H' := by
 have st : ∀ k, k < w.heap.size → k ≠ B → vr.ownBlock ≠ some k → w'.heap[k]? = w.heap[k]? := fun k h1 h2 h3 => hk.block k h1 (fun e => e.elim h2 h3)
 obtain ⟨n1, n2, n3⟩ := h.gw_ne
 have hgl : gw < w.heap.size := (h.wts.lt gw rfl).2
 have new : ∀ k, k < w.heap.size → vr.ownBlock ≠ some k → vr'.ownBlock ≠ some k := fun k h1 h2 e => by
  rcases hv with hv | hv
  · exact h2 (hv ▸ e)
  · have := hv k e; omega
 refine ⟨hp, h.left.keep (st bl h.left.lt h.B_ne.1.symm (fun e => (h.vr_ne e).2.1 rfl)), h.leftV, h.wait.keep (st bw h.wait.lt h.B_ne.2.symm (fun e => (h.vr_ne e).2.2 rfl)),
  fun s => own_block (h.waitV s) (fun k e => st k ((h.waitV s).lt k e).2 (h.w_ne e).1 (h.s3 s k e)), own_block h.wts (fun k e => ?_), h.wlen, h.ne, ⟨h.lo.1, h.lo.2.1, h.lo.2.2.1, by have := h.lo.2.2.2; have := hk.size; omega⟩,
  new gw hgl h.s1, h.s2, fun s k e => new k ((h.waitV s).lt k e).2 (h.s3 s k e), h.s4⟩
 have e : some gw = some k := e
 injection e with e
 subst e
 exact st gw hgl n1 h.s1
set_option maxRecDepth 100000 in
theorem QuAt.waitPut (h : QuAt w base B bl bw gw N vr f g nl nw LF CF W H) {wa w1 : World} (hb : Below w.heap.size w wa) (s : Bytes) (hs : s.length ≤ maxLen) (hn : nw < maxLen) (i : Nat) {g1 c1 : Nat}
 (hown : w1.ownsRow base 3 1 (.slice (some ⟨g1, 0, none⟩) ((CF s).length + 1) c1) ((CF s).length + 1) (intsOf (natI (CF s)) ++ [.int .i64 (i : Int)])) (hg : wa.grownBy w1 (wOf g s).ownBlock) (hat : (wOf g s).ownBlock = some g1 ∨ g1 = wa.heap.size) :
 ∃ w2, (Instr.mapUpdate 68 (.map (some bw)) (.string (str s)) (.slice (some ⟨g1, 0, none⟩) ((CF s).length + 1) c1)).run Tryz.prog w1 = .ok () w2 ∧
  (∃ g', QuAt w2 base B bl bw gw N vr f g' nl (nw + 1) LF (fun x => if x = s then CF s ++ [i] else CF x) W H) ∧ w1.grownBy w2 (some bw) := by
 have hz := hb.size
 have hz1 := hg.size
 have st : ∀ k, k < w.heap.size → (wOf g s).ownBlock ≠ some k → w1.heap[k]? = w.heap[k]? := fun k h1 h2 => (hg.block k (by omega) (fun e => h2 e.symm)).trans (hb.block k h1)
 have hbw1 : w1.heap[bw]? = w.heap[bw]? := st bw h.wait.lt (fun e => (h.w_ne e).2.2 rfl)
 obtain ⟨w2, hrun, hm, hg2⟩ := (h.wait.keep hbw1).put Tryz.underlying68 hn s hs (.slice (some ⟨g1, 0, none⟩) ((CF s).length + 1) c1)
 have hz2 := hg2.size
 have st2 : ∀ k, k < w.heap.size → (wOf g s).ownBlock ≠ some k → k ≠ bw → w2.heap[k]? = w.heap[k]? := fun k h1 h2 h3 => (hg2.block k (by omega) (fun e => h3 (by injection e))).trans (st k h1 h2)
 have hgl : gw < w.heap.size := (h.wts.lt gw rfl).2
 have hg1 : ∃ cs, w1.heap[g1]? = some (.cells cs 3 (0, 0)) := own_cells hown (k := g1) rfl
 have hg1bw : g1 ≠ bw := by
  rcases hat with e | e
  · exact (h.w_ne e).2.2
  · have := h.wait.lt; omega
 have hg1l : g1 < w1.heap.size := by obtain ⟨cs, hc⟩ := hg1; exact lt_of_block hc
 -- a block of the queue's own that is no one's of s is not g1
 have far : ∀ k, k < w.heap.size → (wOf g s).ownBlock ≠ some k → g1 ≠ k := fun k h1 h2 e => by
  rcases hat with e2 | e2
  · exact h2 (e ▸ e2)
  · omega
 have wo : ∀ x, wOf (fun x => if x = s then some (.slice (some ⟨g1, 0, none⟩) ((CF s).length + 1) c1) else g x) x = if x = s then .slice (some ⟨g1, 0, none⟩) ((CF s).length + 1) c1 else wOf g x := fun x => by
  show (if x = s then some (Value.slice (some ⟨g1, 0, none⟩) ((CF s).length + 1) c1) else g x).getD nilS = _
  by_cases hx : x = s
  · rw [if_pos hx, if_pos hx]; rfl
  · rw [if_neg hx, if_neg hx]; rfl
 have ob : (Value.slice (some ⟨g1, 0, none⟩) ((CF s).length + 1) c1).ownBlock = some g1 := rfl
 refine ⟨w2, hrun, ⟨_, ⟨⟨(st2 B h.hp.row.lt (fun e => (h.w_ne e).1 rfl) h.B_ne.2).trans h.hp.row.cell, own_block h.hp.row.own (fun k e => st2 k (h.hp.row.ne k e).2 (fun e2 => h.s3 s k e2 e) (h.vr_ne e).2.2)⟩, h.hp.heap⟩,
  h.left.keep (st2 bl h.left.lt (fun e => (h.w_ne e).2.1 rfl) h.ne), h.leftV, hm, fun x => ?_, own_block h.wts (fun k e => ?_), h.wlen, h.ne, ⟨h.lo.1, h.lo.2.1, h.lo.2.2.1, by have := h.lo.2.2.2; omega⟩, h.s1, fun x => ?_, fun x k hk => ?_, fun x y k hxy hk => ?_⟩, hg2⟩
 · rw [wo]
   by_cases hx : x = s
   · rw [if_pos hx, if_pos hx]
     have e1 : (natI (CF s ++ [i])).length = (CF s).length + 1 := by unfold natI; simp
     have e2 : intsOf (natI (CF s ++ [i])) = intsOf (natI (CF s)) ++ [.int .i64 (i : Int)] := by unfold natI intsOf; simp
     rw [e1, e2]
     exact own_block hown (fun k e => by
      rw [ob] at e; injection e with e; subst e
      exact hg2.block g1 hg1l (fun e => hg1bw (by injection e)))
   · rw [if_neg hx, if_neg hx]
     exact own_block (h.waitV x) (fun k e => st2 k ((h.waitV x).lt k e).2 (h.s4 x s k hx e) (h.w_ne e).2.2)
 · have e : some gw = some k := e
   injection e with e
   subst e
   exact st2 gw hgl (h.s2 s) h.gw_ne.2.2
 · rw [wo]
   by_cases hx : x = s
   · rw [if_pos hx, ob]
     intro e; injection e with e
     exact far gw hgl (h.s2 s) e
   · rw [if_neg hx]; exact h.s2 x
 · rw [wo] at hk
   by_cases hx : x = s
   · rw [if_pos hx, ob] at hk
     injection hk with hk
     subst hk
     intro e
     exact far g1 (h.hp.row.ne g1 e).2 (fun e2 => h.s3 s g1 e2 e) rfl
   · rw [if_neg hx] at hk; exact h.s3 x k hk
 · rw [wo] at hk ⊢
   by_cases hx : x = s
   · rw [if_pos hx, ob] at hk
     injection hk with hk
     subst hk
     rw [if_neg (fun e => hxy (hx.trans e.symm))]
     intro e
     exact far g1 ((h.waitV y).lt g1 e).2 (fun e2 => h.s4 s y g1 (fun e3 => hxy (hx.trans e3)) e2 e) rfl
   · rw [if_neg hx] at hk
     by_cases hy : y = s
     · rw [if_pos hy, ob]
       intro e; injection e with e
       exact far k ((h.waitV x).lt k hk).2 (h.s4 x s k hx hk) e
     · rw [if_neg hy]; exact h.s4 x y k hxy hk
end
end Go.Proofs.YtdebhngpgabglaaGreat.Ca
