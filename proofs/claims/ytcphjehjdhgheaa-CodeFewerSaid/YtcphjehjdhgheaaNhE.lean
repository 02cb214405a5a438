/- What a queue of operators counts: who waits for whom, for how many each one waits, which are free. Conditions: none. Push and Pop of the numbers that may be taken. Conditions: they lie in the queue. The heap's up and down, Push and Pop. Conditions: what may be taken lies in the queue. The heap's down, Push and Pop. Conditions: what may be taken lies in the queue. The heap's Push and Pop; the least number. Conditions: what may be taken lies in the queue. -/
import Derived.Test.YtcphjehjdhgheaaNtM
import Derived.Test.YtcphjehjdhgheaaNhA
namespace Go.Proofs.Ytcphjehjdhgheaa.Nt
set_option linter.unusedVariables false
set_option linter.unusedSimpArgs false

/-- Who waits for i, of the first m, and of the first k needs of the next one. -/
def wlP (G : Gr) (m k i : Nat) : List Nat := ((List.range m).flatMap fun j => List.replicate ((G.nd j).count i) j) ++ List.replicate (((G.nd m).take k).count i) m
theorem wlP_zero (G : Gr) (i : Nat) : wlP G 0 0 i = [] := by unfold wlP; simp
theorem wlP_step {G : Gr} {m k j : Nat} (hj : (G.nd m)[k]? = some j) (i : Nat) : wlP G m (k + 1) i = if i = j then wlP G m k i ++ [m] else wlP G m k i := by
  unfold wlP
  rw [List.take_add_one, hj, show (some j).toList = [j] from rfl, List.count_append]
  by_cases e : i = j
  · subst e
    rw [if_pos rfl, List.append_assoc, show List.count i [i] = 1 by simp, List.replicate_succ']
  · rw [if_neg e]
    have : List.count i [j] = 0 := List.count_eq_zero.2 (by simpa using e)
    rw [this, Nat.add_zero]
theorem wlP_next (G : Gr) (m : Nat) {k : Nat} (hk : k = (G.nd m).length) (i : Nat) : wlP G m k i = wlP G (m + 1) 0 i := by
  unfold wlP
  subst hk
  rw [List.take_length, List.range_succ, List.flatMap_append]; simp
/-- Who waits for i, of all. -/
def wlA (G : Gr) (i : Nat) : List Nat := wlP G G.n 0 i
theorem wlA_eq (G : Gr) (i : Nat) : wlA G i = (List.range G.n).flatMap fun j => List.replicate ((G.nd j).count i) j := by unfold wlA wlP; simp
theorem count_flat (f : Nat → Nat) (j : Nat) : ∀ n, ((List.range n).flatMap fun k => List.replicate (f k) k).count j = if j < n then f j else 0 := by
  intro n
  induction n with
  | zero => simp
  | succ n ih =>
    rw [List.range_succ, List.flatMap_append, List.count_append, ih]
    simp only [List.flatMap_cons, List.flatMap_nil, List.append_nil, List.count_replicate]
    by_cases e : j = n
    · subst e; simp
    · have e' : (n == j) = false := by simpa using fun h : n = j => e h.symm
      rw [e']
      by_cases h : j < n
      · rw [if_pos h, if_pos (show j < n + 1 by omega)]; rfl
      · rw [if_neg h, if_neg (show ¬ j < n + 1 by omega)]; rfl
theorem wlA_count {G : Gr} {i j : Nat} (hj : j < G.n) : (wlA G i).count j = (G.nd j).count i := by
  rw [wlA_eq, count_flat, if_pos hj]
theorem wlA_mem {G : Gr} {i j : Nat} (h : j ∈ wlA G i) : j < G.n ∧ i ∈ G.nd j := by
  have hc := List.count_pos_iff.2 h
  rw [wlA_eq, count_flat] at hc
  by_cases hj : j < G.n
  · rw [if_pos hj] at hc; exact ⟨hj, List.count_pos_iff.1 hc⟩
  · rw [if_neg hj] at hc; omega
theorem wlP_len (G : Gr) (hG : ∀ j, (G.nd j).length ≤ 3) (m k i : Nat) : (wlP G m k i).length ≤ 3 * m + 3 := by
  unfold wlP
  rw [List.length_append, List.length_replicate]
  have h1 : ((List.range m).flatMap fun j => List.replicate ((G.nd j).count i) j).length ≤ 3 * m := by
    induction m with
    | zero => simp
    | succ m ih =>
      rw [List.range_succ, List.flatMap_append, List.length_append]
      simp only [List.flatMap_cons, List.flatMap_nil, List.append_nil, List.length_replicate]
      have := List.count_le_length (a := i) (l := G.nd m)
      have := hG m
      omega
  have h2 : ((G.nd m).take k).count i ≤ ((G.nd m).take k).length := List.count_le_length
  have h3 : ((G.nd m).take k).length ≤ (G.nd m).length := by rw [List.length_take]; omega
  have := hG m
  omega
/-- For how many it waits. -/
def wt (G : Gr) (t : List Nat) (j : Nat) : Nat := ((G.nd j).filter fun k => !t.contains k).length
theorem wt_nil (G : Gr) (j : Nat) : wt G [] j = (G.nd j).length := by unfold wt; simp
theorem free_wt (G : Gr) (t : List Nat) (j : Nat) : freeB G t j = (!t.contains j && wt G t j == 0) := by
  unfold freeB wt
  congr 1
  rw [Bool.eq_iff_iff]
  simp only [List.all_eq_true, beq_iff_eq, List.length_eq_zero_iff, List.filter_eq_nil_iff]
  constructor
  · intro h a ha; rw [h a ha]; simp
  · intro h a ha; have := h a ha; simpa using this
theorem wt_took {G : Gr} {t : List Nat} {i : Nat} (hi : i ∉ t) (j : Nat) : wt G t j = wt G (t ++ [i]) j + (G.nd j).count i := by
  unfold wt
  induction G.nd j with
  | nil => rfl
  | cons a l ih =>
    simp only [List.filter_cons, List.count_cons]
    by_cases ha : a = i
    · subst ha
      have h1 : (!t.contains a) = true := by simpa using hi
      have h2 : (!(t ++ [a]).contains a) = false := by simp
      rw [h1, h2]
      simp only [if_true, if_false, List.length_cons, beq_self_eq_true, Bool.false_eq_true]
      omega
    · have h1 : (!(t ++ [i]).contains a) = (!t.contains a) := by simp [ha]
      have h2 : (a == i) = false := by simpa using ha
      rw [h1, h2]
      cases (!t.contains a) with
      | true => simp only [if_true, List.length_cons, Bool.false_eq_true, if_false]; omega
      | false => simp only [Bool.false_eq_true, if_false]; omega
/-- The counts, p of those that wait for i being counted. -/
def wtP (G : Gr) (t wl : List Nat) (p j : Nat) : Nat := wt G t j - (wl.take p).count j
def rdP (G : Gr) (t : List Nat) (i : Nat) (wl : List Nat) (p : Nat) : List Nat := (List.range G.n).filter fun j => !(t ++ [i]).contains j && wtP G t wl p j == 0
theorem wtP_zero (G : Gr) (t wl : List Nat) (j : Nat) : wtP G t wl 0 j = wt G t j := by unfold wtP; simp
theorem wtP_pos {G : Gr} {t : List Nat} {i p k : Nat} (hi : i ∉ t) (hk : (wlA G i)[p]? = some k) : 0 < wtP G t (wlA G i) p k := by
  obtain ⟨hkn, -⟩ := wlA_mem (List.mem_of_getElem? hk)
  have h1 : (wlA G i).count k = (G.nd k).count i := wlA_count hkn
  have h2 := wt_took (G := G) hi k
  have h3 : ((wlA G i).take p).count k + 1 ≤ (wlA G i).count k := by
    have e := List.take_append_drop p (wlA G i)
    have hlt := (List.getElem?_eq_some_iff.1 hk).1
    have : (wlA G i).drop p = k :: (wlA G i).drop (p + 1) := by
      rw [List.drop_eq_getElem_cons hlt]; congr 1; exact (List.getElem?_eq_some_iff.1 hk).2
    conv => rhs; rw [← e, this]
    rw [List.count_append, List.count_cons_self]; omega
  unfold wtP; omega
theorem wtP_step {G : Gr} {t wl : List Nat} {p k : Nat} (hk : wl[p]? = some k) (j : Nat) : wtP G t wl (p + 1) j = if j = k then wtP G t wl p j - 1 else wtP G t wl p j := by
  unfold wtP
  rw [List.take_add_one, hk, show (some k).toList = [k] from rfl, List.count_append]
  by_cases e : j = k
  · subst e; rw [if_pos rfl, show List.count j [j] = 1 by simp]; omega
  · rw [if_neg e]
    have : List.count j [k] = 0 := List.count_eq_zero.2 (by simpa using e)
    rw [this, Nat.add_zero]
theorem wtP_end {G : Gr} {t : List Nat} {i j : Nat} (hi : i ∉ t) (hj : j < G.n) {p : Nat} (hp : (wlA G i).length ≤ p) : wtP G t (wlA G i) p j = wt G (t ++ [i]) j := by
  unfold wtP
  rw [List.take_of_length_le hp, wlA_count hj, wt_took hi j]; omega
theorem rdP_end {G : Gr} {t : List Nat} {i : Nat} (hi : i ∉ t) {p : Nat} (hp : (wlA G i).length ≤ p) : rdP G t i (wlA G i) p = (List.range G.n).filter (freeB G (t ++ [i])) := by
  unfold rdP
  refine List.filter_congr (fun j hj => ?_)
  rw [wtP_end hi (by simpa using hj) hp, free_wt]
theorem rdP_zero {G : Gr} {t : List Nat} {i : Nat} (wl : List Nat) (hi : i < G.n) (hf : freeB G t i = true) : ((List.range G.n).filter (freeB G t)).Perm (i :: rdP G t i wl 0) := by
  have h1 : (List.range G.n).Perm (i :: (List.range G.n).erase i) := List.perm_cons_erase (by simpa using hi)
  refine (h1.filter _).trans ?_
  rw [List.filter_cons_of_pos hf]
  refine List.Perm.cons _ ?_
  rw [List.nodup_range.erase_eq_filter, List.filter_filter]
  unfold rdP
  have : (List.range G.n).filter (fun a => freeB G t a && a != i) = (List.range G.n).filter fun j => !(t ++ [i]).contains j && wtP G t wl 0 j == 0 := by
    refine List.filter_congr (fun j _ => ?_)
    rw [wtP_zero, free_wt]
    by_cases e : j = i
    · subst e; simp
    · have : (j != i) = true := by simpa using e
      rw [this]; simp [e]
  rw [this]
theorem rdP_more {G : Gr} {t : List Nat} {i : Nat} {wl : List Nat} {p k : Nat} (hk : wl[p]? = some k) (hkn : k < G.n) (h1 : k ∉ t ++ [i]) (hx : wtP G t wl p k = 1) : (rdP G t i wl (p + 1)).Perm (k :: rdP G t i wl p) := by
  have hr : (List.range G.n).Perm (k :: (List.range G.n).erase k) := List.perm_cons_erase (by simpa using hkn)
  unfold rdP
  refine (hr.filter _).trans ?_
  have e1 : (!(t ++ [i]).contains k && wtP G t wl (p + 1) k == 0) = true := by rw [wtP_step hk, if_pos rfl, hx]; simp at h1 ⊢; exact h1
  have e2 : (!(t ++ [i]).contains k && wtP G t wl p k == 0) = false := by rw [hx]; simp
  have f1 : List.filter (fun j => !(t ++ [i]).contains j && wtP G t wl (p + 1) j == 0) (k :: (List.range G.n).erase k) = k :: List.filter (fun j => !(t ++ [i]).contains j && wtP G t wl (p + 1) j == 0) ((List.range G.n).erase k) := List.filter_cons_of_pos (by exact e1)
  have f2 : List.filter (fun j => !(t ++ [i]).contains j && wtP G t wl p j == 0) (k :: (List.range G.n).erase k) = List.filter (fun j => !(t ++ [i]).contains j && wtP G t wl p j == 0) ((List.range G.n).erase k) := List.filter_cons_of_neg (by rw [e2]; simp)
  rw [f1]
  refine List.Perm.cons _ ?_
  refine List.Perm.trans ?_ ((hr.filter _).symm)
  rw [f2]
  have : ∀ j ∈ (List.range G.n).erase k, (!(t ++ [i]).contains j && wtP G t wl (p + 1) j == 0) = (!(t ++ [i]).contains j && wtP G t wl p j == 0) := fun j hj => by
    have hne : j ≠ k := fun e => by
      subst e
      exact (List.nodup_range.not_mem_erase) hj
    rw [wtP_step hk, if_neg hne]
  rw [List.filter_congr this]
theorem rdP_same {G : Gr} {t : List Nat} {i : Nat} {wl : List Nat} {p k : Nat} (hk : wl[p]? = some k) (hx : wtP G t wl p k ≠ 1) (h0 : 0 < wtP G t wl p k) : rdP G t i wl (p + 1) = rdP G t i wl p := by
  unfold rdP
  refine List.filter_congr (fun j _ => ?_)
  rw [wtP_step hk]
  by_cases e : j = k
  · subst e
    rw [if_pos rfl]
    have e1 : (wtP G t wl p j - 1 == 0) = false := by simp; omega
    have e2 : (wtP G t wl p j == 0) = false := by simp; omega
    rw [e1, e2]
  · rw [if_neg e]
/-- What waits is not taken. -/
theorem wait_not {G : Gr} {t : List Nat} {i k : Nat} (hv : Valid G t) (hi : i ∉ t) (hk : k ∈ wlA G i) (hf : freeB G t i = true) : k ∉ t ++ [i] := by
  obtain ⟨-, hik⟩ := wlA_mem hk
  intro h
  rcases List.mem_append.1 h with h | h
  · obtain ⟨q, hq, e⟩ := List.mem_iff_getElem.1 h
    have := hv.behind q k (by rw [List.getElem?_eq_getElem hq, e]) i hik
    exact hi (List.mem_of_mem_take this)
  · simp at h
    subst h
    exact (free_iff.1 hf).1 ((free_iff.1 hf).2 k hik)
/-- The row of counts. -/
def cntP (G : Gr) (m k : Nat) : List Int := (List.range G.n).map fun j => if j < m then ((G.nd j).length : Int) else if j = m then (k : Int) else 0
theorem cntP_len (G : Gr) (m k : Nat) : (cntP G m k).length = G.n := by unfold cntP; simp
theorem cntP_zero (G : Gr) : cntP G 0 0 = List.replicate G.n 0 := by
  unfold cntP
  refine List.ext_getElem? (fun j => ?_)
  rw [List.getElem?_map, List.getElem?_replicate]
  by_cases hj : j < G.n
  · rw [List.getElem?_range hj, if_pos hj]; simp
  · rw [List.getElem?_eq_none (by simpa using hj), if_neg hj]; rfl
theorem cntP_at {G : Gr} {m k : Nat} (hm : m < G.n) : (cntP G m k)[m]? = some (k : Int) := by unfold cntP; rw [List.getElem?_map, List.getElem?_range hm]; simp
theorem cntP_set {G : Gr} {m k : Nat} (hm : m < G.n) : (cntP G m k).set m ((k : Int) + 1) = cntP G m (k + 1) := by
  refine List.ext_getElem? (fun j => ?_)
  rw [List.getElem?_set, cntP_len]
  unfold cntP
  rw [List.getElem?_map, List.getElem?_map]
  by_cases hj : j < G.n
  · rw [List.getElem?_range hj]
    by_cases e : m = j
    · subst e; rw [if_pos rfl, if_pos hj]; simp
    · rw [if_neg e]; simp [Ne.symm e]
  · rw [List.getElem?_eq_none (by simpa using hj)]
    by_cases e : m = j
    · omega
    · rw [if_neg e]; rfl
theorem cntP_next (G : Gr) (m : Nat) {k : Nat} (hk : k = (G.nd m).length) : cntP G m k = cntP G (m + 1) 0 := by
  unfold cntP
  subst hk
  refine List.map_congr_left (fun j _ => ?_)
  by_cases h1 : j < m
  · rw [if_pos h1, if_pos (by omega)]
  · rw [if_neg h1]
    by_cases h2 : j = m
    · subst h2; rw [if_pos rfl, if_pos (by omega)]
    · rw [if_neg h2, if_neg (show ¬ j < m + 1 by omega)]; split <;> rfl
def cntT (G : Gr) (t wl : List Nat) (p : Nat) : List Int := (List.range G.n).map fun j => (wtP G t wl p j : Int)
theorem cntT_len (G : Gr) (t wl : List Nat) (p : Nat) : (cntT G t wl p).length = G.n := by unfold cntT; simp
theorem cntT_at {G : Gr} {t wl : List Nat} {p j : Nat} (hj : j < G.n) : (cntT G t wl p)[j]? = some (wtP G t wl p j : Int) := by unfold cntT; rw [List.getElem?_map, List.getElem?_range hj]; rfl
theorem cntT_set {G : Gr} {t wl : List Nat} {p k : Nat} (hk : wl[p]? = some k) (h0 : 0 < wtP G t wl p k) : (cntT G t wl p).set k ((wtP G t wl p k : Int) - 1) = cntT G t wl (p + 1) := by
  refine List.ext_getElem? (fun j => ?_)
  rw [List.getElem?_set, cntT_len]
  unfold cntT
  rw [List.getElem?_map, List.getElem?_map]
  by_cases hj : j < G.n
  · rw [List.getElem?_range hj]
    simp only [Option.map_some]
    rw [wtP_step hk]
    by_cases e : k = j
    · subst e; rw [if_pos rfl, if_pos hj, if_pos rfl]; congr 1; omega
    · rw [if_neg e, if_neg (fun h => e h.symm)]
  · rw [List.getElem?_eq_none (by simpa using hj)]
    by_cases e : k = j
    · rw [if_pos e, if_neg (by omega)]; rfl
    · rw [if_neg e]; rfl
def cntA (G : Gr) (t : List Nat) : List Int := (List.range G.n).map fun j => (wt G t j : Int)
theorem cntA_start (G : Gr) {m : Nat} (hm : m = G.n) : cntP G m 0 = cntA G [] := by
  unfold cntP cntA
  subst hm
  refine List.map_congr_left (fun j hj => ?_)
  rw [if_pos (by simpa using hj), wt_nil]
theorem cntT_zero (G : Gr) (t wl : List Nat) : cntT G t wl 0 = cntA G t := by
  unfold cntT cntA
  exact List.map_congr_left (fun j _ => by rw [wtP_zero])
theorem cntT_end {G : Gr} {t : List Nat} {i : Nat} (hi : i ∉ t) {p : Nat} (hp : (wlA G i).length ≤ p) : cntT G t (wlA G i) p = cntA G (t ++ [i]) := by
  unfold cntT cntA
  exact List.map_congr_left (fun j hj => by rw [wtP_end hi (by simpa using hj) hp])
/-- Which of the first m are free at the beginning. -/
def rdM (G : Gr) (m : Nat) : List Nat := (List.range m).filter fun j => (G.nd j).length == 0
theorem rdM_succ (G : Gr) (m : Nat) : rdM G (m + 1) = if (G.nd m).length = 0 then rdM G m ++ [m] else rdM G m := by
  unfold rdM
  rw [List.range_succ, List.filter_append]
  by_cases h : (G.nd m).length = 0
  · rw [if_pos h]; simp [h]
  · rw [if_neg h]; simp [h]
theorem rdM_all (G : Gr) : rdM G G.n = (List.range G.n).filter (freeB G []) := by
  unfold rdM
  refine List.filter_congr (fun j _ => ?_)
  rw [free_wt, wt_nil]; simp
end Go.Proofs.Ytcphjehjdhgheaa.Nt

namespace Go.Proofs.Ytcphjehjdhgheaa.Nt
open Go.ChangeShapes Go.WideShapes Go.ChangeAt Go.RowKit Go.Proofs.Ytcphjehjdhgheaa.Tr
set_option linter.unusedVariables false
set_option linter.unusedSimpArgs false

/-- The queue's block, and the row of the numbers that may be taken. -/
structure RdAt (w : World) (base B : Nat) (c0 c1 v : Value) (l : List Int) : Prop where
  cell : w.heap[B]? = some (.cells #[c0, c1, v] 85 (0, 0))
  own : w.ownsRow base 3 1 v l.length (intsOf l)
theorem RdAt.ne {w : World} {base B : Nat} {c0 c1 v : Value} {l : List Int} (h : RdAt w base B c0 c1 v l) : ∀ k, v.ownBlock = some k → k ≠ B ∧ k < w.heap.size := by
  intro k hk
  obtain ⟨hl, h0 | ⟨g, cap, cur, rfl, hb, hh, _⟩⟩ := h.own
  · rw [h0.1] at hk; cases hk
  · have e : some g = some k := hk
    injection e with e
    subst e
    refine ⟨fun e => ?_, lt_of_block hh⟩
    subst e
    rw [h.cell] at hh
    simp at hh
theorem RdAt.lt {w : World} {base B : Nat} {c0 c1 v : Value} {l : List Int} (h : RdAt w base B c0 c1 v l) : B < w.heap.size := lt_of_block h.cell
theorem RdAt.at3 {w : World} {base B : Nat} {c0 c1 v : Value} {l : List Int} (h : RdAt w base B c0 c1 v l) : w.cell? ⟨B, 2, none⟩ = some v ∧ w.frozen? ⟨B, 2, none⟩ = false := by
  have := h.cell
  constructor <;> simp [World.cell?, World.frozen?, this]
theorem ta_int (x : Int) (W : World) : Sem.run Try.prog (Instr.typeAssert (.iface 3 (.int .i64 x)) 20 3 false) W = .ok (.int .i64 x) W := by kernel_rfl
/-- What stands in the queue's last cell is another slice. -/
theorem set_que {w : World} {B : Nat} {c0 c1 v u : Value} (h : w.heap[B]? = some (.cells #[c0, c1, v] 85 (0, 0))) : (w.setCell ⟨B, 2, none⟩ u).heap[B]? = some (.cells #[c0, c1, u] 85 (0, 0)) := by
  simp [World.setCell, Array.getElem?_modify, h]
def PushPost (w : World) (base B : Nat) (c0 c1 v : Value) (l : List Int) (x : Int) (e : Ending) (w' : World) : Prop :=
  e = .returned (.tuple #[]) ∧ ∃ g c, RdAt w' base B c0 c1 (.slice (some ⟨g, 0, none⟩) (l.length + 1) c) (l ++ [x]) ∧ (v.ownBlock = some g ∨ w.heap.size ≤ g) ∧ Kp (fun i => i = B ∨ v.ownBlock = some i) w w'
theorem push_end {w wa w2 : World} {base B : Nat} {c0 c1 v : Value} {l : List Int} {x : Int} (h : RdAt w base B c0 c1 v l) (ha : Below w.heap.size w wa) {g cap : Nat}
    (hown : w2.ownsRow base 3 1 (.slice (some ⟨g, 0, none⟩) (l.length + 1) cap) (l.length + 1) (intsOf l ++ [.int .i64 x])) (hg : wa.grownBy w2 v.ownBlock) (hat : v.ownBlock = some g ∨ g = wa.heap.size) :
    PushPost w base B c0 c1 v l x (.returned (.tuple #[])) (w2.setCell ⟨B, 2, none⟩ (.slice (some ⟨g, 0, none⟩) (l.length + 1) cap)) := by
  have hz := ha.size
  have hB := h.lt
  have hk : Kp (fun i => i = B ∨ v.ownBlock = some i) w w2 := ((Kp.of_below ha).wide (fun _ _ h => h.elim)).grown hg (fun k hk _ => .inr hk)
  have hBv : v.ownBlock ≠ some B := fun e => (h.ne B e).1 rfl
  have hcell : w2.heap[B]? = some (.cells #[c0, c1, v] 85 (0, 0)) := (hg.block B (by omega) (fun e => hBv e.symm)).trans ((ha.block B hB).trans h.cell)
  have hgB : g ≠ B := by
    rcases hat with e | e
    · exact (h.ne g e).1
    · omega
  refine ⟨rfl, g, cap, ⟨set_que hcell, ?_⟩, ?_, hk.setCell (p := ⟨B, 2, none⟩) (.inl rfl) _⟩
  · rw [ints_snoc, List.length_append]
    exact own_block hown (fun k hk => by
      have e : some g = some k := hk
      injection e with e
      subst e
      exact Below.heap_setCell _ _ _ _ hgB)
  · rcases hat with e | e
    · exact .inl e
    · exact .inr (by omega)
set_option maxRecDepth 100000 in
set_option maxHeartbeats 4000000 in
theorem rpush_any (w : World) (base B : Nat) (c0 c1 v : Value) (l : List Int) (x : Int) (h : RdAt w base B c0 c1 v l) (hb : base ≤ w.heap.size) (hn : l.length ≤ 100000) :
    Calls Try.prog 163 #[.pointer (some ⟨B, 2, none⟩), .iface 3 (.int .i64 x)] w (PushPost w base B c0 c1 v l x) := by
  obtain ⟨i0, hi, hz0, hz1, hz2⟩ := info_parts info3
  have H := Lib.hid h
  have hBl := h.lt
  obtain ⟨k0, k1⟩ := h.at3
  have hown := h.own
  have HO := Lib.hid hown
  have hta := ta_int x
  have HE := Lib.hid (fun (wa w2 : World) (g cap : Nat) (ha : Below w.heap.size w wa) => @push_end w wa w2 base B c0 c1 v l x h ha g cap)
  have hBv : Hid (v.ownBlock ≠ some B) := Lib.hid (fun e => (h.ne B e).1 rfl)
  clear h
  rcases hown.2 with ⟨rfl, h0⟩ | ⟨g0, cap0, cur, rfl, hbg, hh, hc1, hc2, -, -⟩
  · clear hown
    obtain rfl : l = [] := List.length_eq_zero_iff.1 h0
    clear h0
    have q3 : ∀ w2 : World, ((w.drew).alloc (.cells #[.int .i64 x] 3)).grownBy w2 (Value.slice none 0 0).ownBlock → w2.cell? ⟨B, 2, none⟩ = some (.slice none 0 0) ∧ w2.frozen? ⟨B, 2, none⟩ = false := fun w2 hg => by
      have e := (hg.block B (by simp; omega) (by intro e; cases e)).trans (Below.heap_alloc _ _ _ hBl)
      have := H.out.cell
      have e2 := e.trans this
      constructor <;> simp [World.cell?, World.frozen?, e2]
    have Q3 := Lib.hid q3
    clear q3
    go_enter Try.func163, Try.ntmps163
    go_wp2_with fail
    go_region_law (refine step_append_lies _ (by rfl) _ _ _ (by rfl) base 3 i0 _ 1 8 Try.underlying81 hi hz0 hz1 hz2 rfl (by omega) (.slice none 0 0) 0 [] (by rfl) (by exact HO.out.alloc _) ⟨w.heap.size, 0, none⟩ 1 1 [.int .i64 x] (by rfl) (by rfl) (World.news_of_block (cs := #[.int .i64 x]) (t := 3) (fr := (0, 0)) (heap_alloc_new _ _)) (by simp [Value.oneCell']) (by omega) (by unfold maxLen; omega) (by omega) (by simp; omega) (w.heap.size + 1) (by simp) ?_; intro gg cap w2 hown2 hgrow hat hlt; obtain ⟨q1, q2⟩ := Q3.out w2 hgrow)
    all_goals
      try go_wp2
      go_end0
      exact HE.out _ _ gg cap ((below_new w _).drew) hown2 hgrow (hat.imp id (fun e => e.trans (by simp)))
  · clear hown hh
    unfold maxLen at hc2
    have q3 : ∀ w2 : World, ((w.drew).alloc (.cells #[.int .i64 x] 3)).grownBy w2 (Value.slice (some ⟨g0, 0, none⟩) l.length cap0).ownBlock → w2.cell? ⟨B, 2, none⟩ = some (.slice (some ⟨g0, 0, none⟩) l.length cap0) ∧ w2.frozen? ⟨B, 2, none⟩ = false := fun w2 hg => by
      have e := (hg.block B (by simp; omega) (fun e => hBv.out e.symm)).trans (Below.heap_alloc _ _ _ hBl)
      have := H.out.cell
      have e2 := e.trans this
      constructor <;> simp [World.cell?, World.frozen?, e2]
    have Q3 := Lib.hid q3
    clear q3
    go_enter Try.func163, Try.ntmps163
    go_wp2_with fail
    go_region_law (refine step_append_lies _ (by rfl) _ _ _ (by rfl) base 3 i0 _ 1 8 Try.underlying81 hi hz0 hz1 hz2 rfl (by omega) (.slice (some ⟨g0, 0, none⟩) l.length cap0) l.length (intsOf l) (by rfl) (by exact HO.out.alloc _) ⟨w.heap.size, 0, none⟩ 1 1 [.int .i64 x] (by rfl) (by rfl) (World.news_of_block (cs := #[.int .i64 x]) (t := 3) (fr := (0, 0)) (heap_alloc_new _ _)) (by simp [Value.oneCell']) (by omega) (by unfold maxLen; omega) (by omega) (by simp; omega) (w.heap.size + 1) (by simp) ?_; intro gg cap w2 hown2 hgrow hat hlt; obtain ⟨q1, q2⟩ := Q3.out w2 hgrow)
    all_goals
      try go_wp2
      go_end0
      exact HE.out _ _ gg cap ((below_new w _).drew) hown2 hgrow (hat.imp id (fun e => e.trans (by simp)))
/-- Without the last one. -/
def PopPost (w : World) (base B : Nat) (c0 c1 : Value) (g n c : Nat) (l : List Int) (e : Ending) (w' : World) : Prop :=
  e = .returned (.iface 3 (.int .i64 (gd l n))) ∧ RdAt w' base B c0 c1 (.slice (some ⟨g, 0, none⟩) n c) (l.take n) ∧ Kp (fun i => i = B) w w'
set_option maxRecDepth 100000 in
set_option maxHeartbeats 4000000 in
theorem rpop_any (w : World) (base B g n c : Nat) (c0 c1 : Value) (l : List Int) (hl : l.length = n + 1) (h : RdAt w base B c0 c1 (.slice (some ⟨g, 0, none⟩) (n + 1) c) l) :
    Calls Try.prog 162 #[.pointer (some ⟨B, 2, none⟩)] w (PopPost w base B c0 c1 g n c l) := by
  obtain ⟨k0, k1⟩ := h.at3
  have hBl := h.lt
  have hgB := (h.ne g rfl).1
  have own := h.own
  rw [hl] at own
  have hcell := Lib.hid h.cell
  have hnl : n < l.length := by omega
  have h1 := (own.cellAt n (by omega)).trans (intsOf_get _ n _ (gd_at hnl))
  have HO : Hid (w.ownsRow base 3 1 (.slice (some ⟨g, 0, none⟩) n c) (l.take n).length (intsOf (l.take n))) := Lib.hid (by
    obtain ⟨hl0, h0 | ⟨g', cap, cur, e, hb, hh, hnc, hcm, hcs, hct⟩⟩ := own
    · cases h0.1
    · simp only [Value.slice.injEq, Option.some.injEq, Addr.mk.injEq] at e
      obtain ⟨⟨rfl, -, -⟩, -, rfl⟩ := e
      have e1 : (l.take n).length = n := by rw [List.length_take]; omega
      refine ⟨by rw [e1]; unfold intsOf; rw [List.length_map, e1]; omega, .inr ⟨g, c, cur, by rw [e1], hb, hh, by omega, hcm, hcs, ?_⟩⟩
      rw [e1]
      have e2 : cur.toList.take (n * 1) = (cur.toList.take ((n + 1) * 1)).take n := by rw [List.take_take]; congr 1; omega
      rw [e2, hct]; unfold intsOf; rw [List.map_take])
  have hcap : Hid (n + 1 ≤ c ∧ c ≤ maxLen) := Lib.hid (by
    obtain ⟨hl0, h0 | ⟨g', cap, cur, e, hb, hh, hnc, hcm, hcs, hct⟩⟩ := own
    · cases h0.1
    · simp only [Value.slice.injEq, Option.some.injEq, Addr.mk.injEq] at e
      obtain ⟨⟨rfl, -, -⟩, -, rfl⟩ := e
      exact ⟨by omega, hcm⟩)
  obtain ⟨x, hx⟩ : ∃ x, gd l n = x := ⟨_, rfl⟩
  have HX := Lib.hid hx
  rw [hx] at h1
  have hgl := (own.lt g rfl).2
  obtain ⟨p1, p2⟩ := hcap.out
  unfold maxLen at p2
  clear h own hx hl hnl
  go_enter Try.func162, Try.ntmps162
  go_wp2_with fail
  refine (len_any _ _ _ _).mono ?_
  rintro e w1 ⟨rfl, rfl⟩
  go_wp2
  go_ret
  refine ⟨by rw [HX.out]; rfl, ⟨set_que hcell.out, own_block HO.out (fun k hk => ?_)⟩, Kp.setCell (A := fun i => i = B) (p := ⟨B, 2, none⟩) (Kp.refl _ _) rfl _⟩
  have e : some g = some k := hk
  injection e with e
  subst e
  exact Below.heap_setCell _ _ _ _ hgB
end Go.Proofs.Ytcphjehjdhgheaa.Nt

namespace Go.Proofs.Ytcphjehjdhgheaa.Nt
open Go.ChangeShapes Go.WideShapes Go.ChangeAt Go.RowKit Go.Proofs.Ytcphjehjdhgheaa.Tr
set_option linter.unusedVariables false
set_option linter.unusedSimpArgs false

abbrev ifc (B : Nat) : Value := .iface 153 (.pointer (some ⟨B, 2, none⟩))
/-- Places of the row have changed, nothing else. -/
theorem RdAt.turned {w w' : World} {base B g n c : Nat} {c0 c1 : Value} {l l' : List Int} (h : RdAt w base B c0 c1 (.slice (some ⟨g, 0, none⟩) n c) l) (ho : w'.ownsRow base 3 1 (.slice (some ⟨g, 0, none⟩) n c) l'.length (intsOf l')) (hk : Kp (fun k => k = g) w w') : RdAt w' base B c0 c1 (.slice (some ⟨g, 0, none⟩) n c) l' :=
  ⟨(hk.block B h.lt (fun e => (h.ne g rfl).1 e.symm)).trans h.cell, ho⟩
theorem RdAt.same {w w' : World} {base B : Nat} {c0 c1 v : Value} {l : List Int} (h : RdAt w base B c0 c1 v l) (hh : w'.heap = w.heap) : RdAt w' base B c0 c1 v l :=
  ⟨by rw [hh]; exact h.cell, own_block h.own (fun k _ => by rw [hh])⟩
theorem RdAt.drewN {w : World} {base B : Nat} {c0 c1 v : Value} {l : List Int} (h : RdAt w base B c0 c1 v l) (q : Nat) : RdAt (w.drewN q) base B c0 c1 v l := h.same rfl
theorem less_n {w : World} {base B g n c i j : Nat} {c0 c1 : Value} {l : List Int} (hr : RdAt w base B c0 c1 (.slice (some ⟨g, 0, none⟩) n c) l) (hl : l.length = n) (hi : i < n) (hj : j < n) :
    Calls Try.prog 157 #[.slice (some ⟨g, 0, none⟩) n c, .int .i64 (i : Int), .int .i64 (j : Int)] w (LessPost w l i j) := by
  subst hl; exact less_any g c base l i j w hr.own hi hj
def SwPost (w : World) (base B g n c : Nat) (c0 c1 : Value) (l : List Int) (i j : Nat) (e : Ending) (w' : World) : Prop :=
  e = .returned (.tuple #[]) ∧ RdAt w' base B c0 c1 (.slice (some ⟨g, 0, none⟩) n c) (sw l i j) ∧ Kp (fun k => k = g) w w'
theorem swap_n {w : World} {base B g n c i j : Nat} {c0 c1 : Value} {l : List Int} (hr : RdAt w base B c0 c1 (.slice (some ⟨g, 0, none⟩) n c) l) (hl : l.length = n) (hi : i < n) (hj : j < n) :
    Calls Try.prog 159 #[.slice (some ⟨g, 0, none⟩) n c, .int .i64 (i : Int), .int .i64 (j : Int)] w (SwPost w base B g n c c0 c1 l i j) := by
  subst hl
  refine (swap_any g c base l i j w hr.own hi hj).mono ?_
  rintro e w' ⟨rfl, ho, hk⟩
  exact ⟨rfl, hr.turned (by rw [sw_len]; exact ho) hk, hk⟩
def UpPost (w : World) (base B : Nat) (c0 c1 : Value) (g n c : Nat) (l : List Int) (e : Ending) (w' : World) : Prop :=
  e = .returned (.tuple #[]) ∧ ∃ l' : List Int, l'.Perm l ∧ Hp l' n ∧ RdAt w' base B c0 c1 (.slice (some ⟨g, 0, none⟩) n c) l' ∧ Kp (fun i => i = g) w w'
set_option maxRecDepth 100000 in
set_option maxHeartbeats 8000000 in
theorem up_any (w : World) (base B g n c j : Nat) (c0 c1 : Value) (l : List Int) (h : RdAt w base B c0 c1 (.slice (some ⟨g, 0, none⟩) n c) l) (hl : l.length = n) (hj : j < n) (hn : n ≤ 1000000) (hu : HpUp l n j) :
    Calls Try.prog 127 #[ifc B, .int .i64 (j : Int)] w (UpPost w base B c0 c1 g n c l) := by
  have H := Lib.hid h
  have HL := Lib.hid hl
  have HU := Lib.hid hu
  have e1 := eLess
  have e2 := eSwap
  clear h hl hu
  go_enter Try.func127, Try.ntmps127
  go_wp2_with fail
  go_loopw [1] (fun vj wr => ∃ (k : Nat) (l' : List Int), vj = .int .i64 (k : Int) ∧ k < n ∧ l'.Perm l ∧ HpUp l' n k ∧ RdAt wr base B c0 c1 (.slice (some ⟨g, 0, none⟩) n c) l' ∧ Kp (fun i => i = g) w wr) (fun vj _ => (intOf vj).toNat)
  case atStart => exact ⟨j, l, rfl, hj, List.Perm.refl _, HU.out, H.out, Kp.refl _ _⟩
  case round =>
    obtain ⟨k, l', rfl, hk, hp, hu, hr, hkp⟩ := hrel
    by_cases hk0 : k = 0
    · subst hk0
      have HP := Lib.hid hp
      have HK := Lib.hid hkp
      have HR := Lib.hid hr
      have HUU := Lib.hid hu
      have hz : (0 : Nat) < n := hk
      clear hp hkp hr hu
      go_wp2
      go_end0
      exact ⟨rfl, l', HP.out, up_done HUU.out (.inl rfl), HR.out, HK.out⟩
    · obtain ⟨i, hi⟩ : ∃ i, (k - 1) / 2 = i := ⟨_, rfl⟩
      have hik : i ≠ k := by omega
      have hq : ((k : Int) - 1).tdiv 2 = (i : Int) := by rw [Int.tdiv_eq_ediv_of_nonneg (by omega)]; omega
      have hm1 := mLess hr.at3.1
      have hm2 := mSwap hr.at3.1
      have hd : ((i : Int) == (k : Int)) = false := by simp; omega
      obtain ⟨q, hq'⟩ : ∃ q, decide (gd l' k < gd l' i) = q := ⟨_, rfl⟩
      have HQ := Lib.hid hq'
      have hl' : l'.length = n := hp.length_eq.trans HL.out
      have HLS := Lib.hid (less_n hr hl' hk (show i < n by omega))
      have HSW := Lib.hid (fun q => swap_n (hr.drewN q) hl' (show i < n by omega) hk)
      have hm3 := fun q => mSwap (hr.drewN q).at3.1
      have HP := Lib.hid hp
      have HK := Lib.hid hkp
      have HR := Lib.hid hr
      have HUU := Lib.hid hu
      have HI := Lib.hid hi
      have hin : i < n := by omega
      have HJ := Lib.hid (show i < k by omega)
      clear hq' hl' hp hkp hr hu hi
      cases q with
      | false =>
        go_wp2_with fail
        refine HLS.out.mono ?_
        rintro e w1 ⟨rfl, q, rfl⟩
        rw [HQ.out]
        go_wp2
        go_end0
        refine ⟨rfl, l', HP.out, up_done HUU.out (.inr ?_), HR.out.drewN q, HK.out.drewN q⟩
        have := of_decide_eq_false HQ.out
        rw [HI.out]; omega
      | true =>
        go_wp2_with fail
        refine HLS.out.mono ?_
        rintro e w1 ⟨rfl, q, rfl⟩
        rw [HQ.out]
        go_wp2_with fail
        refine (HSW.out q).mono ?_
        rintro e w2 ⟨rfl, hr2, hk2⟩
        have HR2 := Lib.hid hr2
        have HK2 := Lib.hid hk2
        clear hr2 hk2
        go_wp2
        refine ⟨⟨i, sw l' i k, rfl, hin, ?_, ?_, HR2.out, (HK.out.drewN q).trans HK2.out⟩, ?_⟩
        · exact (sw_perm (by rw [HP.out.length_eq, HL.out]; exact hin) (by rw [HP.out.length_eq, HL.out]; exact hk)).trans HP.out
        · have := up_step HUU.out (by omega) hk (by rw [HP.out.length_eq, HL.out]; exact Nat.le_refl _) (by rw [HI.out]; exact of_decide_eq_true HQ.out)
          rw [HI.out] at this; exact this
        · simp [intOf]; exact HJ.out
end Go.Proofs.Ytcphjehjdhgheaa.Nt

namespace Go.Proofs.Ytcphjehjdhgheaa.Nt
open Go.ChangeShapes Go.WideShapes Go.ChangeAt Go.RowKit Go.Proofs.Ytcphjehjdhgheaa.Tr
set_option linter.unusedVariables false
set_option linter.unusedSimpArgs false

theorem less_z {w : World} {base B g n c : Nat} (i j : Nat) {I J : Int} {c0 c1 : Value} {l : List Int} (hr : RdAt w base B c0 c1 (.slice (some ⟨g, 0, none⟩) n c) l) (hl : l.length = n) (hi : i < n) (hj : j < n) (hI : I = (i : Int)) (hJ : J = (j : Int)) :
    Calls Try.prog 157 #[.slice (some ⟨g, 0, none⟩) n c, .int .i64 I, .int .i64 J] w (LessPost w l i j) := by
  subst hI hJ; exact less_n hr hl hi hj
theorem swap_z {w : World} {base B g n c : Nat} (i j : Nat) {I J : Int} {c0 c1 : Value} {l : List Int} (hr : RdAt w base B c0 c1 (.slice (some ⟨g, 0, none⟩) n c) l) (hl : l.length = n) (hi : i < n) (hj : j < n) (hI : I = (i : Int)) (hJ : J = (j : Int)) :
    Calls Try.prog 159 #[.slice (some ⟨g, 0, none⟩) n c, .int .i64 I, .int .i64 J] w (SwPost w base B g n c c0 c1 l i j) := by
  subst hI hJ; exact swap_n hr hl hi hj
def DnPost (w : World) (base B : Nat) (c0 c1 : Value) (g N n c : Nat) (l : List Int) (e : Ending) (w' : World) : Prop :=
  ∃ b l', e = .returned (.bool b) ∧ l'.Perm l ∧ Hp l' n ∧ (∀ k, n ≤ k → gd l' k = gd l k) ∧ RdAt w' base B c0 c1 (.slice (some ⟨g, 0, none⟩) N c) l' ∧ Kp (fun i => i = g) w w'
set_option maxRecDepth 100000 in
set_option maxHeartbeats 16000000 in
theorem down_any (w : World) (base B g N n c : Nat) (c0 c1 : Value) (l : List Int) (h : RdAt w base B c0 c1 (.slice (some ⟨g, 0, none⟩) N c) l) (hl : l.length = N) (hnN : n ≤ N) (hn : n ≤ 1000000) (hu : HpDn l n 0) :
    Calls Try.prog 128 #[ifc B, .int .i64 0, .int .i64 (n : Int)] w (DnPost w base B c0 c1 g N n c l) := by
  have H := Lib.hid h
  have HL := Lib.hid hl
  have HU := Lib.hid hu
  have e1 := eLess
  have e2 := eSwap
  clear h hl hu
  go_enter Try.func128, Try.ntmps128
  go_wp2_with fail
  go_loopw [7] (fun vj wr => ∃ (k : Nat) (l' : List Int), vj = .int .i64 (k : Int) ∧ (k = 0 ∨ k < n) ∧ l'.Perm l ∧ HpDn l' n k ∧ (∀ m, n ≤ m → gd l' m = gd l m) ∧ RdAt wr base B c0 c1 (.slice (some ⟨g, 0, none⟩) N c) l' ∧ Kp (fun i => i = g) w wr) (fun vj _ => n - (intOf vj).toNat)
  case atStart => exact ⟨0, l, rfl, .inl rfl, List.Perm.refl _, HU.out, fun _ _ => rfl, H.out, Kp.refl _ _⟩
  case round =>
    obtain ⟨k, l', rfl, hk, hp, hu, hg, hr, hkp⟩ := hrel
    have hk2 : k ≤ 1000000 := by omega
    have hm1 := mLess hr.at3.1
    have hm1q := fun q => mLess (hr.drewN q).at3.1
    have hm2q := fun q => mSwap (hr.drewN q).at3.1
    have hl' : l'.length = N := hp.length_eq.trans HL.out
    have HL' := Lib.hid hl'
    have HP := Lib.hid hp
    have HK := Lib.hid hkp
    have HR := Lib.hid hr
    have HUU := Lib.hid hu
    have HG := Lib.hid hg
    have hlz : ¬ (2 * (k : Int) + 1 < 0) := by omega
    clear hl' hp hkp hr hu hg
    by_cases hA : n ≤ 2 * k + 1
    · have hd : (n : Int) ≤ 2 * (k : Int) + 1 := by omega
      go_wp2
      go_ret
      exact ⟨_, l', rfl, HP.out, dn_done HUU.out (fun m hm hc => by omega), HG.out, HR.out, HK.out⟩
    have hd : ¬ ((n : Int) ≤ 2 * (k : Int) + 1) := by omega
    by_cases hB : 2 * k + 2 < n
    · have hd2 : 2 * (k : Int) + 1 + 1 < (n : Int) := by omega
      obtain ⟨q1, hq1⟩ : ∃ q, decide (gd l' (2 * k + 2) < gd l' (2 * k + 1)) = q := ⟨_, rfl⟩
      have HQ1 := Lib.hid hq1
      have HLS1 := Lib.hid (less_z (2 * k + 2) (2 * k + 1) (I := 2 * (k : Int) + 1 + 1) (J := 2 * (k : Int) + 1) HR.out HL'.out (by omega) (by omega) (by omega) (by omega))
      clear hq1
      cases q1 with
      | true =>
        have HMIN : Hid (∀ m, m < n → (m = 2 * k + 1 ∨ m = 2 * k + 2) → gd l' (2 * k + 2) ≤ gd l' m) := Lib.hid (fun m hm hc => by
          have := of_decide_eq_true HQ1.out
          rcases hc with rfl | rfl <;> omega)
        obtain ⟨q2, hq2⟩ : ∃ q, decide (gd l' (2 * k + 2) < gd l' k) = q := ⟨_, rfl⟩
        have HQ2 := Lib.hid hq2
        have HLS2 := Lib.hid (fun W (hW : RdAt W base B c0 c1 (.slice (some ⟨g, 0, none⟩) N c) l') => less_z (2 * k + 2) k (I := 2 * (k : Int) + 1 + 1) (J := (k : Int)) hW HL'.out (by omega) (by omega) (by omega) rfl)
        have HSW := Lib.hid (fun W (hW : RdAt W base B c0 c1 (.slice (some ⟨g, 0, none⟩) N c) l') => swap_z k (2 * k + 2) (I := (k : Int)) (J := 2 * (k : Int) + 1 + 1) hW HL'.out (by omega) (by omega) rfl (by omega))
        clear hq2
        cases q2 with
        | false =>
          go_wp2_with fail
          refine HLS1.out.mono ?_
          rintro e w1 ⟨rfl, r0, rfl⟩
          rw [HQ1.out]
          go_wp2_with fail
          refine (HLS2.out _ (HR.out.drewN _)).mono ?_
          rintro e w2 ⟨rfl, r, rfl⟩
          rw [HQ2.out]
          go_wp2
          go_ret
          refine ⟨_, l', rfl, HP.out, dn_done HUU.out (fun m hm hc => ?_), HG.out, (HR.out.drewN _), (HK.out.drewN _)⟩
          have h1 := of_decide_eq_false HQ2.out
          have h2 := HMIN.out m hm hc
          omega
        | true =>
          go_wp2_with fail
          refine HLS1.out.mono ?_
          rintro e w1 ⟨rfl, r0, rfl⟩
          rw [HQ1.out]
          go_wp2_with fail
          refine (HLS2.out _ (HR.out.drewN _)).mono ?_
          rintro e w2 ⟨rfl, r, rfl⟩
          rw [HQ2.out]
          go_wp2_with fail
          refine (HSW.out _ (HR.out.drewN _)).mono ?_
          rintro e w3 ⟨rfl, hr3, hk3⟩
          have HR3 := Lib.hid hr3
          have HK3 := Lib.hid hk3
          clear hr3 hk3
          go_wp2
          refine ⟨⟨2 * k + 2, sw l' k (2 * k + 2), by first | rfl | (congr 1; omega), .inr (by omega), ?_, ?_, ?_, HR3.out, ((HK.out.drewN _)).trans HK3.out⟩, by simp [intOf]; omega⟩
          · exact (sw_perm (by rw [HL'.out]; omega) (by rw [HL'.out]; omega)).trans HP.out
          · exact dn_step HUU.out (by rw [HL'.out]; omega) (by omega) (by omega) HMIN.out (of_decide_eq_true HQ2.out)
          · intro m hm
            rw [gd_sw (by rw [HL'.out]; omega) (by rw [HL'.out]; omega), if_neg (by omega), if_neg (by omega)]
            exact HG.out m hm
      | false =>
        have HMIN : Hid (∀ m, m < n → (m = 2 * k + 1 ∨ m = 2 * k + 2) → gd l' (2 * k + 1) ≤ gd l' m) := Lib.hid (fun m hm hc => by
          have := of_decide_eq_false HQ1.out
          rcases hc with rfl | rfl <;> omega)
        obtain ⟨q2, hq2⟩ : ∃ q, decide (gd l' (2 * k + 1) < gd l' k) = q := ⟨_, rfl⟩
        have HQ2 := Lib.hid hq2
        have HLS2 := Lib.hid (fun W (hW : RdAt W base B c0 c1 (.slice (some ⟨g, 0, none⟩) N c) l') => less_z (2 * k + 1) k (I := 2 * (k : Int) + 1) (J := (k : Int)) hW HL'.out (by omega) (by omega) (by omega) rfl)
        have HSW := Lib.hid (fun W (hW : RdAt W base B c0 c1 (.slice (some ⟨g, 0, none⟩) N c) l') => swap_z k (2 * k + 1) (I := (k : Int)) (J := 2 * (k : Int) + 1) hW HL'.out (by omega) (by omega) rfl (by omega))
        clear hq2
        cases q2 with
        | false =>
          go_wp2_with fail
          refine HLS1.out.mono ?_
          rintro e w1 ⟨rfl, r0, rfl⟩
          rw [HQ1.out]
          go_wp2_with fail
          refine (HLS2.out _ (HR.out.drewN _)).mono ?_
          rintro e w2 ⟨rfl, r, rfl⟩
          rw [HQ2.out]
          go_wp2
          go_ret
          refine ⟨_, l', rfl, HP.out, dn_done HUU.out (fun m hm hc => ?_), HG.out, (HR.out.drewN _), (HK.out.drewN _)⟩
          have h1 := of_decide_eq_false HQ2.out
          have h2 := HMIN.out m hm hc
          omega
        | true =>
          go_wp2_with fail
          refine HLS1.out.mono ?_
          rintro e w1 ⟨rfl, r0, rfl⟩
          rw [HQ1.out]
          go_wp2_with fail
          refine (HLS2.out _ (HR.out.drewN _)).mono ?_
          rintro e w2 ⟨rfl, r, rfl⟩
          rw [HQ2.out]
          go_wp2_with fail
          refine (HSW.out _ (HR.out.drewN _)).mono ?_
          rintro e w3 ⟨rfl, hr3, hk3⟩
          have HR3 := Lib.hid hr3
          have HK3 := Lib.hid hk3
          clear hr3 hk3
          go_wp2
          refine ⟨⟨2 * k + 1, sw l' k (2 * k + 1), by first | rfl | (congr 1; omega), .inr (by omega), ?_, ?_, ?_, HR3.out, ((HK.out.drewN _)).trans HK3.out⟩, by simp [intOf]; omega⟩
          · exact (sw_perm (by rw [HL'.out]; omega) (by rw [HL'.out]; omega)).trans HP.out
          · exact dn_step HUU.out (by rw [HL'.out]; omega) (by omega) (by omega) HMIN.out (of_decide_eq_true HQ2.out)
          · intro m hm
            rw [gd_sw (by rw [HL'.out]; omega) (by rw [HL'.out]; omega), if_neg (by omega), if_neg (by omega)]
            exact HG.out m hm
    · have hd2 : ¬ (2 * (k : Int) + 1 + 1 < (n : Int)) := by omega
      have HMIN : Hid (∀ m, m < n → (m = 2 * k + 1 ∨ m = 2 * k + 2) → gd l' (2 * k + 1) ≤ gd l' m) := Lib.hid (fun m hm hc => by
        rcases hc with rfl | rfl <;> omega)
      obtain ⟨q2, hq2⟩ : ∃ q, decide (gd l' (2 * k + 1) < gd l' k) = q := ⟨_, rfl⟩
      have HQ2 := Lib.hid hq2
      have HLS2 := Lib.hid (fun W (hW : RdAt W base B c0 c1 (.slice (some ⟨g, 0, none⟩) N c) l') => less_z (2 * k + 1) k (I := 2 * (k : Int) + 1) (J := (k : Int)) hW HL'.out (by omega) (by omega) (by omega) rfl)
      have HSW := Lib.hid (fun W (hW : RdAt W base B c0 c1 (.slice (some ⟨g, 0, none⟩) N c) l') => swap_z k (2 * k + 1) (I := (k : Int)) (J := 2 * (k : Int) + 1) hW HL'.out (by omega) (by omega) rfl (by omega))
      clear hq2
      cases q2 with
      | false =>
        go_wp2_with fail
        refine (HLS2.out _ HR.out).mono ?_
        rintro e w2 ⟨rfl, r, rfl⟩
        rw [HQ2.out]
        go_wp2
        go_ret
        refine ⟨_, l', rfl, HP.out, dn_done HUU.out (fun m hm hc => ?_), HG.out, (HR.out.drewN _), (HK.out.drewN _)⟩
        have h1 := of_decide_eq_false HQ2.out
        have h2 := HMIN.out m hm hc
        omega
      | true =>
        go_wp2_with fail
        refine (HLS2.out _ HR.out).mono ?_
        rintro e w2 ⟨rfl, r, rfl⟩
        rw [HQ2.out]
        go_wp2_with fail
        refine (HSW.out _ (HR.out.drewN _)).mono ?_
        rintro e w3 ⟨rfl, hr3, hk3⟩
        have HR3 := Lib.hid hr3
        have HK3 := Lib.hid hk3
        clear hr3 hk3
        go_wp2
        refine ⟨⟨2 * k + 1, sw l' k (2 * k + 1), by first | rfl | (congr 1; omega), .inr (by omega), ?_, ?_, ?_, HR3.out, ((HK.out.drewN _)).trans HK3.out⟩, by simp [intOf]; omega⟩
        · exact (sw_perm (by rw [HL'.out]; omega) (by rw [HL'.out]; omega)).trans HP.out
        · exact dn_step HUU.out (by rw [HL'.out]; omega) (by omega) (by omega) HMIN.out (of_decide_eq_true HQ2.out)
        · intro m hm
          rw [gd_sw (by rw [HL'.out]; omega) (by rw [HL'.out]; omega), if_neg (by omega), if_neg (by omega)]
          exact HG.out m hm
end Go.Proofs.Ytcphjehjdhgheaa.Nt

namespace Go.Proofs.Ytcphjehjdhgheaa.Nt
open Go.ChangeShapes Go.WideShapes Go.ChangeAt Go.RowKit Go.Proofs.Ytcphjehjdhgheaa.Tr
set_option linter.unusedVariables false
set_option linter.unusedSimpArgs false

/-- A heap in the queue. -/
structure HpAt (w : World) (base B : Nat) (c0 c1 v : Value) (l : List Int) : Prop where
  row : RdAt w base B c0 c1 v l
  heap : Hp l l.length
def HPushPost (w : World) (base B : Nat) (c0 c1 v : Value) (l : List Int) (x : Int) (e : Ending) (w' : World) : Prop :=
  e = .returned (.tuple #[]) ∧ ∃ v' l', l'.Perm (x :: l) ∧ HpAt w' base B c0 c1 v' l' ∧ (v'.ownBlock = v.ownBlock ∨ ∀ g, v'.ownBlock = some g → w.heap.size ≤ g) ∧ Kp (fun i => i = B ∨ v.ownBlock = some i) w w'
set_option maxRecDepth 100000 in
set_option maxHeartbeats 4000000 in
theorem hpush_any (w : World) (base B : Nat) (c0 c1 v : Value) (l : List Int) (x : Int) (h : HpAt w base B c0 c1 v l) (hb : base ≤ w.heap.size) (hn : l.length ≤ 100000) :
    Calls Try.prog 91 #[ifc B, .iface 3 (.int .i64 x)] w (HPushPost w base B c0 c1 v l x) := by
  have H := Lib.hid h
  have m0 := mPush B
  have e0 := ePush
  have e1 := eLen
  clear h
  go_enter Try.func91, Try.ntmps91
  go_wp2_with fail
  refine (rpush_any w base B c0 c1 v l x H.out.row hb hn).mono ?_
  rintro e w1 ⟨rfl, g, c, hr, hat, hk⟩
  have hm := mLen hr.at3.1
  have HR := Lib.hid hr
  have HAT := Lib.hid hat
  have HK := Lib.hid hk
  clear hr hat hk
  go_wp2_with fail
  refine (len_any _ _ _ _).mono ?_
  rintro e w1' ⟨rfl, rfl⟩
  have hz : ((l.length : Int) + 1) - 1 = (l.length : Int) := by omega
  go_wp2_with fail
  refine (up_any w1' base B g (l.length + 1) c l.length c0 c1 (l ++ [x]) HR.out (by simp) (by omega) (by omega) (up_begin H.out.heap x rfl)).mono ?_
  rintro e w2 ⟨rfl, l', hp, hh, hr2, hk2⟩
  have hlen : l'.length = l.length + 1 := by rw [hp.length_eq]; simp
  have HE : Hid (HPushPost w base B c0 c1 v l x (.returned (.tuple #[])) w2) := Lib.hid ⟨rfl, .slice (some ⟨g, 0, none⟩) (l.length + 1) c, l', hp.trans List.perm_append_comm, ⟨hr2, by rw [hlen]; exact hh⟩,
    HAT.out.imp (fun e => e.symm) (fun e k hk => by
      have e2 : some g = some k := hk
      injection e2 with e2; omega),
    HK.out.trans2 hk2 (fun i hi e => by
      subst e
      rcases HAT.out with e | e
      · exact .inr e
      · omega)⟩
  clear hp hh hr2 hk2 hlen
  go_wp2
  go_end0
  exact HE.out
def HPopPost (w : World) (base B : Nat) (c0 c1 v : Value) (l : List Int) (R : Value) (e : Ending) (w' : World) : Prop :=
  e = .returned R ∧ ∃ v' l', (gd l 0 :: l').Perm l ∧ HpAt w' base B c0 c1 v' l' ∧ v'.ownBlock = v.ownBlock ∧ Kp (fun i => i = B ∨ v.ownBlock = some i) w w'
theorem pop_end {l l1 : List Int} {n : Nat} (hl : l.length = n + 1) (hp : l1.Perm (sw l 0 n)) (hg : gd l1 n = gd (sw l 0 n) n) : gd l1 n = gd l 0 ∧ (gd l 0 :: l1.take n).Perm l ∧ (l1.take n).length = n := by
  have h1 : gd (sw l 0 n) n = gd l 0 := by rw [gd_sw (by omega) (by omega), if_pos rfl]
  have hl1 : l1.length = n + 1 := by rw [hp.length_eq, sw_len, hl]
  rw [h1] at hg
  have e : l1.take n ++ [gd l 0] = l1 := by
    have := List.take_append_drop n l1
    rw [List.drop_eq_getElem_cons (by omega), List.drop_eq_nil_of_le (by omega)] at this
    rw [← hg, gd_eq (by omega)]; exact this
  refine ⟨hg, ?_, by rw [List.length_take]; omega⟩
  have h2 : (gd l 0 :: l1.take n).Perm (l1.take n ++ [gd l 0]) := List.perm_append_comm (l₁ := [gd l 0])
  rw [e] at h2
  exact h2.trans (hp.trans (sw_perm (by omega) (by omega)))
set_option maxRecDepth 100000 in
set_option maxHeartbeats 4000000 in
theorem hpop_any (w : World) (base B : Nat) (c0 c1 v : Value) (l : List Int) (h : HpAt w base B c0 c1 v l) (h0 : 0 < l.length) (hn : l.length ≤ 100000) :
    Calls Try.prog 92 #[ifc B] w (HPopPost w base B c0 c1 v l (.iface 3 (.int .i64 (gd l 0)))) := by
  obtain ⟨n, hln⟩ : ∃ n, l.length = n + 1 := ⟨l.length - 1, by omega⟩
  obtain ⟨g, c, rfl⟩ : ∃ g c, v = .slice (some ⟨g, 0, none⟩) (n + 1) c := by
    obtain ⟨-, h1 | ⟨g, cap, cur, e, -⟩⟩ := h.row.own
    · omega
    · exact ⟨g, cap, by rw [e, hln]⟩
  have H := Lib.hid h
  have HLN := Lib.hid hln
  have m0 := mPop B
  have e0 := ePop
  have e1 := eLen
  have e2 := eSwap
  have hm := mLen h.row.at3.1
  have hm2 := mSwap h.row.at3.1
  have hz : ((n : Int) + 1) - 1 = (n : Int) := by omega
  have hnn : n ≤ 100000 := by omega
  clear h hln h0 hn
  go_enter Try.func92, Try.ntmps92
  go_wp2_with fail
  refine (len_any _ _ _ _).mono ?_
  rintro e w1' ⟨rfl, rfl⟩
  go_wp2_with fail
  refine (swap_z 0 n H.out.row HLN.out (by omega) (by omega) rfl rfl).mono ?_
  rintro e w2 ⟨rfl, hr2, hk2⟩
  have HR2 := Lib.hid hr2
  have HK2 := Lib.hid hk2
  clear hr2 hk2 hm hm2
  go_wp2_with fail
  refine (down_any w2 base B g (n + 1) n c c0 c1 (sw l 0 n) HR2.out (by rw [sw_len]; exact HLN.out) (by omega) (by omega) (dn_begin (by have := H.out.heap; rw [HLN.out] at this; exact this) HLN.out)).mono ?_
  rintro e w3 ⟨b, l1, rfl, hp, hh, hg, hr3, hk3⟩
  have HX := Lib.hid (pop_end HLN.out hp (hg n (Nat.le_refl _)))
  have HHP := Lib.hid (hp_take hh (by rw [hp.length_eq, sw_len, HLN.out]; omega))
  have HPP := Lib.hid (rpop_any w3 base B g n c c0 c1 l1 (by rw [hp.length_eq, sw_len, HLN.out]) hr3)
  have HK3 := Lib.hid hk3
  clear hp hh hg hr3 hk3
  go_wp2_with fail
  refine HPP.out.mono ?_
  rintro e w4 ⟨rfl, hr4, hk4⟩
  have HE : Hid (HPopPost w1' base B c0 c1 (.slice (some ⟨g, 0, none⟩) (n + 1) c) l (.iface 3 (.int .i64 (gd l 0))) (.returned (.iface 3 (.int .i64 (gd l1 n)))) w4) := Lib.hid (by
    obtain ⟨q1, q2, q3⟩ := HX.out
    refine ⟨by rw [q1], _, l1.take n, q2, ⟨hr4, by rw [q3]; exact HHP.out⟩, rfl, ?_⟩
    have k1 : Kp (fun i => i = B ∨ some g = some i) w1' w3 := (HK2.out.trans HK3.out).wide (fun i _ e => .inr (by rw [e]))
    exact k1.trans2 hk4 (fun i _ e => .inl e))
  clear hr4 hk4
  go_wp2
  go_ret
  exact HE.out
set_option maxRecDepth 100000 in
set_option maxHeartbeats 4000000 in
theorem least_any (w : World) (base B : Nat) (c0 c1 v : Value) (l : List Int) (h : HpAt w base B c0 c1 v l) (h0 : 0 < l.length) (hn : l.length ≤ 100000) :
    Calls Try.prog 48 #[.pointer (some ⟨B, 2, none⟩)] w (HPopPost w base B c0 c1 v l (.int .i64 (gd l 0))) := by
  have hta := ta_int (gd l 0)
  have H := Lib.hid h
  have h1 := Lib.hid h0
  have h2 := Lib.hid hn
  clear h h0 hn
  go_enter Try.func48, Try.ntmps48
  go_wp2_with fail
  refine (hpop_any w base B c0 c1 v l H.out h1.out h2.out).mono ?_
  rintro e w1 ⟨rfl, hx⟩
  have HX := Lib.hid hx
  clear hx
  go_wp2
  go_ret
  exact ⟨rfl, HX.out⟩
end Go.Proofs.Ytcphjehjdhgheaa.Nt
