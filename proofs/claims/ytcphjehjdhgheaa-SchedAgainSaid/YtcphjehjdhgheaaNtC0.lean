/- What a queue of operators counts: who waits for whom, for how many each one waits, which are free. Conditions: none. -/
import Derived.Test.YtcphjehjdhgheaaNtM
namespace Go.Proofs.Ytcphjehjdhgheaa.Nt
set_option linter.unusedVariables false
set_option linter.unusedSimpArgs false

/-- Who waits for i, of the first m, and of the first k needs of the next one. -/
def wlP (G : Gr) (m k i : Nat) : List Nat := ((List.range m).flatMap fun j => List.replicate ((G.nd j).count i) j) ++ List.replicate (((G.nd m).take k).count i) m
theorem wlP_zero (G : Gr) (i : Nat) : wlP G 0 0 i = [] := by unfold wlP; simp
theorem wlP_step {G : Gr} {m k j : Nat} (hj : (G.nd m)[k]? = some j) (i : Nat) : wlP G m (k + 1) i = if i = j then wlP G m k i ++ [m] else wlP G m k i := by
  unfold wlP
  rw [List.take_add_one, hj, show (some j).toList = [j] from rfl, List.count_append]
  by_cases e : i = j
  · subst e
    rw [if_pos rfl, List.append_assoc, show List.count i [i] = 1 by simp, List.replicate_succ']
  · rw [if_neg e]
    have : List.count i [j] = 0 := List.count_eq_zero.2 (by simpa using e)
    rw [this, Nat.add_zero]
theorem wlP_next (G : Gr) (m : Nat) {k : Nat} (hk : k = (G.nd m).length) (i : Nat) : wlP G m k i = wlP G (m + 1) 0 i := by
  unfold wlP
  subst hk
  rw [List.take_length, List.range_succ, List.flatMap_append]; simp
/-- Who waits for i, of all. -/
def wlA (G : Gr) (i : Nat) : List Nat := wlP G G.n 0 i
theorem wlA_eq (G : Gr) (i : Nat) : wlA G i = (List.range G.n).flatMap fun j => List.replicate ((G.nd j).count i) j := by unfold wlA wlP; simp
theorem count_flat (f : Nat → Nat) (j : Nat) : ∀ n, ((List.range n).flatMap fun k => List.replicate (f k) k).count j = if j < n then f j else 0 := by
  intro n
  induction n with
  | zero => simp
  | succ n ih =>
    rw [List.range_succ, List.flatMap_append, List.count_append, ih]
    simp only [List.flatMap_cons, List.flatMap_nil, List.append_nil, List.count_replicate]
    by_cases e : j = n
    · subst e; simp
    · have e' : (n == j) = false := by simpa using fun h : n = j => e h.symm
      rw [e']
      by_cases h : j < n
      · rw [if_pos h, if_pos (show j < n + 1 by omega)]; rfl
      · rw [if_neg h, if_neg (show ¬ j < n + 1 by omega)]; rfl
theorem wlA_count {G : Gr} {i j : Nat} (hj : j < G.n) : (wlA G i).count j = (G.nd j).count i := by
  rw [wlA_eq, count_flat, if_pos hj]
theorem wlA_mem {G : Gr} {i j : Nat} (h : j ∈ wlA G i) : j < G.n ∧ i ∈ G.nd j := by
  have hc := List.count_pos_iff.2 h
  rw [wlA_eq, count_flat] at hc
  by_cases hj : j < G.n
  · rw [if_pos hj] at hc; exact ⟨hj, List.count_pos_iff.1 hc⟩
  · rw [if_neg hj] at hc; omega
theorem wlP_len (G : Gr) (hG : ∀ j, (G.nd j).length ≤ 3) (m k i : Nat) : (wlP G m k i).length ≤ 3 * m + 3 := by
  unfold wlP
  rw [List.length_append, List.length_replicate]
  have h1 : ((List.range m).flatMap fun j => List.replicate ((G.nd j).count i) j).length ≤ 3 * m := by
    induction m with
    | zero => simp
    | succ m ih =>
      rw [List.range_succ, List.flatMap_append, List.length_append]
      simp only [List.flatMap_cons, List.flatMap_nil, List.append_nil, List.length_replicate]
      have := List.count_le_length (a := i) (l := G.nd m)
      have := hG m
      omega
  have h2 : ((G.nd m).take k).count i ≤ ((G.nd m).take k).length := List.count_le_length
  have h3 : ((G.nd m).take k).length ≤ (G.nd m).length := by rw [List.length_take]; omega
  have := hG m
  omega
/-- For how many it waits. -/
def wt (G : Gr) (t : List Nat) (j : Nat) : Nat := ((G.nd j).filter fun k => !t.contains k).length
theorem wt_nil (G : Gr) (j : Nat) : wt G [] j = (G.nd j).length := by unfold wt; simp
theorem free_wt (G : Gr) (t : List Nat) (j : Nat) : freeB G t j = (!t.contains j && wt G t j == 0) := by
  unfold freeB wt
  congr 1
  rw [Bool.eq_iff_iff]
  simp only [List.all_eq_true, beq_iff_eq, List.length_eq_zero_iff, List.filter_eq_nil_iff]
  constructor
  · intro h a ha; rw [h a ha]; simp
  · intro h a ha; have := h a ha; simpa using this
theorem wt_took {G : Gr} {t : List Nat} {i : Nat} (hi : i ∉ t) (j : Nat) : wt G t j = wt G (t ++ [i]) j + (G.nd j).count i := by
  unfold wt
  induction G.nd j with
  | nil => rfl
  | cons a l ih =>
    simp only [List.filter_cons, List.count_cons]
    by_cases ha : a = i
    · subst ha
      have h1 : (!t.contains a) = true := by simpa using hi
      have h2 : (!(t ++ [a]).contains a) = false := by simp
      rw [h1, h2]
      simp only [if_true, if_false, List.length_cons, beq_self_eq_true, Bool.false_eq_true]
      omega
    · have h1 : (!(t ++ [i]).contains a) = (!t.contains a) := by simp [ha]
      have h2 : (a == i) = false := by simpa using ha
      rw [h1, h2]
      cases (!t.contains a) with
      | true => simp only [if_true, List.length_cons, Bool.false_eq_true, if_false]; omega
      | false => simp only [Bool.false_eq_true, if_false]; omega
/-- The counts, p of those that wait for i being counted. -/
def wtP (G : Gr) (t wl : List Nat) (p j : Nat) : Nat := wt G t j - (wl.take p).count j
def rdP (G : Gr) (t : List Nat) (i : Nat) (wl : List Nat) (p : Nat) : List Nat := (List.range G.n).filter fun j => !(t ++ [i]).contains j && wtP G t wl p j == 0
theorem wtP_zero (G : Gr) (t wl : List Nat) (j : Nat) : wtP G t wl 0 j = wt G t j := by unfold wtP; simp
theorem wtP_pos {G : Gr} {t : List Nat} {i p k : Nat} (hi : i ∉ t) (hk : (wlA G i)[p]? = some k) : 0 < wtP G t (wlA G i) p k := by
  obtain ⟨hkn, -⟩ := wlA_mem (List.mem_of_getElem? hk)
  have h1 : (wlA G i).count k = (G.nd k).count i := wlA_count hkn
  have h2 := wt_took (G := G) hi k
  have h3 : ((wlA G i).take p).count k + 1 ≤ (wlA G i).count k := by
    have e := List.take_append_drop p (wlA G i)
    have hlt := (List.getElem?_eq_some_iff.1 hk).1
    have : (wlA G i).drop p = k :: (wlA G i).drop (p + 1) := by
      rw [List.drop_eq_getElem_cons hlt]; congr 1; exact (List.getElem?_eq_some_iff.1 hk).2
    conv => rhs; rw [← e, this]
    rw [List.count_append, List.count_cons_self]; omega
  unfold wtP; omega
theorem wtP_step {G : Gr} {t wl : List Nat} {p k : Nat} (hk : wl[p]? = some k) (j : Nat) : wtP G t wl (p + 1) j = if j = k then wtP G t wl p j - 1 else wtP G t wl p j := by
  unfold wtP
  rw [List.take_add_one, hk, show (some k).toList = [k] from rfl, List.count_append]
  by_cases e : j = k
  · subst e; rw [if_pos rfl, show List.count j [j] = 1 by simp]; omega
  · rw [if_neg e]
    have : List.count j [k] = 0 := List.count_eq_zero.2 (by simpa using e)
    rw [this, Nat.add_zero]
theorem wtP_end {G : Gr} {t : List Nat} {i j : Nat} (hi : i ∉ t) (hj : j < G.n) {p : Nat} (hp : (wlA G i).length ≤ p) : wtP G t (wlA G i) p j = wt G (t ++ [i]) j := by
  unfold wtP
  rw [List.take_of_length_le hp, wlA_count hj, wt_took hi j]; omega
theorem rdP_end {G : Gr} {t : List Nat} {i : Nat} (hi : i ∉ t) {p : Nat} (hp : (wlA G i).length ≤ p) : rdP G t i (wlA G i) p = (List.range G.n).filter (freeB G (t ++ [i])) := by
  unfold rdP
  refine List.filter_congr (fun j hj => ?_)
  rw [wtP_end hi (by simpa using hj) hp, free_wt]
theorem rdP_zero {G : Gr} {t : List Nat} {i : Nat} (wl : List Nat) (hi : i < G.n) (hf : freeB G t i = true) : ((List.range G.n).filter (freeB G t)).Perm (i :: rdP G t i wl 0) := by
  have h1 : (List.range G.n).Perm (i :: (List.range G.n).erase i) := List.perm_cons_erase (by simpa using hi)
  refine (h1.filter _).trans ?_
  rw [List.filter_cons_of_pos hf]
  refine List.Perm.cons _ ?_
  rw [List.nodup_range.erase_eq_filter, List.filter_filter]
  unfold rdP
  have : (List.range G.n).filter (fun a => freeB G t a && a != i) = (List.range G.n).filter fun j => !(t ++ [i]).contains j && wtP G t wl 0 j == 0 := by
    refine List.filter_congr (fun j _ => ?_)
    rw [wtP_zero, free_wt]
    by_cases e : j = i
    · subst e; simp
    · have : (j != i) = true := by simpa using e
      rw [this]; simp [e]
  rw [this]
theorem rdP_more {G : Gr} {t : List Nat} {i : Nat} {wl : List Nat} {p k : Nat} (hk : wl[p]? = some k) (hkn : k < G.n) (h1 : k ∉ t ++ [i]) (hx : wtP G t wl p k = 1) : (rdP G t i wl (p + 1)).Perm (k :: rdP G t i wl p) := by
  have hr : (List.range G.n).Perm (k :: (List.range G.n).erase k) := List.perm_cons_erase (by simpa using hkn)
  unfold rdP
  refine (hr.filter _).trans ?_
  have e1 : (!(t ++ [i]).contains k && wtP G t wl (p + 1) k == 0) = true := by rw [wtP_step hk, if_pos rfl, hx]; simp at h1 ⊢; exact h1
  have e2 : (!(t ++ [i]).contains k && wtP G t wl p k == 0) = false := by rw [hx]; simp
  have f1 : List.filter (fun j => !(t ++ [i]).contains j && wtP G t wl (p + 1) j == 0) (k :: (List.range G.n).erase k) = k :: List.filter (fun j => !(t ++ [i]).contains j && wtP G t wl (p + 1) j == 0) ((List.range G.n).erase k) := List.filter_cons_of_pos (by exact e1)
  have f2 : List.filter (fun j => !(t ++ [i]).contains j && wtP G t wl p j == 0) (k :: (List.range G.n).erase k) = List.filter (fun j => !(t ++ [i]).contains j && wtP G t wl p j == 0) ((List.range G.n).erase k) := List.filter_cons_of_neg (by rw [e2]; simp)
  rw [f1]
  refine List.Perm.cons _ ?_
  refine List.Perm.trans ?_ ((hr.filter _).symm)
  rw [f2]
  have : ∀ j ∈ (List.range G.n).erase k, (!(t ++ [i]).contains j && wtP G t wl (p + 1) j == 0) = (!(t ++ [i]).contains j && wtP G t wl p j == 0) := fun j hj => by
    have hne : j ≠ k := fun e => by
      subst e
      exact (List.nodup_range.not_mem_erase) hj
    rw [wtP_step hk, if_neg hne]
  rw [List.filter_congr this]
theorem rdP_same {G : Gr} {t : List Nat} {i : Nat} {wl : List Nat} {p k : Nat} (hk : wl[p]? = some k) (hx : wtP G t wl p k ≠ 1) (h0 : 0 < wtP G t wl p k) : rdP G t i wl (p + 1) = rdP G t i wl p := by
  unfold rdP
  refine List.filter_congr (fun j _ => ?_)
  rw [wtP_step hk]
  by_cases e : j = k
  · subst e
    rw [if_pos rfl]
    have e1 : (wtP G t wl p j - 1 == 0) = false := by simp; omega
    have e2 : (wtP G t wl p j == 0) = false := by simp; omega
    rw [e1, e2]
  · rw [if_neg e]
/-- What waits is not taken. -/
theorem wait_not {G : Gr} {t : List Nat} {i k : Nat} (hv : Valid G t) (hi : i ∉ t) (hk : k ∈ wlA G i) (hf : freeB G t i = true) : k ∉ t ++ [i] := by
  obtain ⟨-, hik⟩ := wlA_mem hk
  intro h
  rcases List.mem_append.1 h with h | h
  · obtain ⟨q, hq, e⟩ := List.mem_iff_getElem.1 h
    have := hv.behind q k (by rw [List.getElem?_eq_getElem hq, e]) i hik
    exact hi (List.mem_of_mem_take this)
  · simp at h
    subst h
    exact (free_iff.1 hf).1 ((free_iff.1 hf).2 k hik)
/-- The row of counts. -/
def cntP (G : Gr) (m k : Nat) : List Int := (List.range G.n).map fun j => if j < m then ((G.nd j).length : Int) else if j = m then (k : Int) else 0
theorem cntP_len (G : Gr) (m k : Nat) : (cntP G m k).length = G.n := by unfold cntP; simp
theorem cntP_zero (G : Gr) : cntP G 0 0 = List.replicate G.n 0 := by
  unfold cntP
  refine List.ext_getElem? (fun j => ?_)
  rw [List.getElem?_map, List.getElem?_replicate]
  by_cases hj : j < G.n
  · rw [List.getElem?_range hj, if_pos hj]; simp
  · rw [List.getElem?_eq_none (by simpa using hj), if_neg hj]; rfl
theorem cntP_at {G : Gr} {m k : Nat} (hm : m < G.n) : (cntP G m k)[m]? = some (k : Int) := by unfold cntP; rw [List.getElem?_map, List.getElem?_range hm]; simp
theorem cntP_set {G : Gr} {m k : Nat} (hm : m < G.n) : (cntP G m k).set m ((k : Int) + 1) = cntP G m (k + 1) := by
  refine List.ext_getElem? (fun j => ?_)
  rw [List.getElem?_set, cntP_len]
  unfold cntP
  rw [List.getElem?_map, List.getElem?_map]
  by_cases hj : j < G.n
  · rw [List.getElem?_range hj]
    by_cases e : m = j
    · subst e; rw [if_pos rfl, if_pos hj]; simp
    · rw [if_neg e]; simp [Ne.symm e]
  · rw [List.getElem?_eq_none (by simpa using hj)]
    by_cases e : m = j
    · omega
    · rw [if_neg e]; rfl
theorem cntP_next (G : Gr) (m : Nat) {k : Nat} (hk : k = (G.nd m).length) : cntP G m k = cntP G (m + 1) 0 := by
  unfold cntP
  subst hk
  refine List.map_congr_left (fun j _ => ?_)
  by_cases h1 : j < m
  · rw [if_pos h1, if_pos (by omega)]
  · rw [if_neg h1]
    by_cases h2 : j = m
    · subst h2; rw [if_pos rfl, if_pos (by omega)]
    · rw [if_neg h2, if_neg (show ¬ j < m + 1 by omega)]; split <;> rfl
def cntT (G : Gr) (t wl : List Nat) (p : Nat) : List Int := (List.range G.n).map fun j => (wtP G t wl p j : Int)
theorem cntT_len (G : Gr) (t wl : List Nat) (p : Nat) : (cntT G t wl p).length = G.n := by unfold cntT; simp
theorem cntT_at {G : Gr} {t wl : List Nat} {p j : Nat} (hj : j < G.n) : (cntT G t wl p)[j]? = some (wtP G t wl p j : Int) := by unfold cntT; rw [List.getElem?_map, List.getElem?_range hj]; rfl
theorem cntT_set {G : Gr} {t wl : List Nat} {p k : Nat} (hk : wl[p]? = some k) (h0 : 0 < wtP G t wl p k) : (cntT G t wl p).set k ((wtP G t wl p k : Int) - 1) = cntT G t wl (p + 1) := by
  refine List.ext_getElem? (fun j => ?_)
  rw [List.getElem?_set, cntT_len]
  unfold cntT
  rw [List.getElem?_map, List.getElem?_map]
  by_cases hj : j < G.n
  · rw [List.getElem?_range hj]
    simp only [Option.map_some]
    rw [wtP_step hk]
    by_cases e : k = j
    · subst e; rw [if_pos rfl, if_pos hj, if_pos rfl]; congr 1; omega
    · rw [if_neg e, if_neg (fun h => e h.symm)]
  · rw [List.getElem?_eq_none (by simpa using hj)]
    by_cases e : k = j
    · rw [if_pos e, if_neg (by omega)]; rfl
    · rw [if_neg e]; rfl
def cntA (G : Gr) (t : List Nat) : List Int := (List.range G.n).map fun j => (wt G t j : Int)
theorem cntA_start (G : Gr) {m : Nat} (hm : m = G.n) : cntP G m 0 = cntA G [] := by
  unfold cntP cntA
  subst hm
  refine List.map_congr_left (fun j hj => ?_)
  rw [if_pos (by simpa using hj), wt_nil]
theorem cntT_zero (G : Gr) (t wl : List Nat) : cntT G t wl 0 = cntA G t := by
  unfold cntT cntA
  exact List.map_congr_left (fun j _ => by rw [wtP_zero])
theorem cntT_end {G : Gr} {t : List Nat} {i : Nat} (hi : i ∉ t) {p : Nat} (hp : (wlA G i).length ≤ p) : cntT G t (wlA G i) p = cntA G (t ++ [i]) := by
  unfold cntT cntA
  exact List.map_congr_left (fun j hj => by rw [wtP_end hi (by simpa using hj) hp])
/-- Which of the first m are free at the beginning. -/
def rdM (G : Gr) (m : Nat) : List Nat := (List.range m).filter fun j => (G.nd j).length == 0
theorem rdM_succ (G : Gr) (m : Nat) : rdM G (m + 1) = if (G.nd m).length = 0 then rdM G m ++ [m] else rdM G m := by
  unfold rdM
  rw [List.range_succ, List.filter_append]
  by_cases h : (G.nd m).length = 0
  · rw [if_pos h]; simp [h]
  · rw [if_neg h]; simp [h]
theorem rdM_all (G : Gr) : rdM G G.n = (List.range G.n).filter (freeB G []) := by
  unfold rdM
  refine List.filter_congr (fun j _ => ?_)
  rw [free_wt, wt_nil]; simp
end Go.Proofs.Ytcphjehjdhgheaa.Nt
