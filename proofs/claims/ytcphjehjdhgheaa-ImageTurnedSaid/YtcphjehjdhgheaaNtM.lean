/- The order of operators, as plain functions of numbers: again and again the least one of which all that it needs is taken. Conditions: none. Nets, as plain functions: whether one may be, its order, it in order, where each operator is needed last. Conditions: none. -/
import GoSem.Op.String
namespace Go.Proofs.Ytcphjehjdhgheaa.Nt
set_option linter.unusedVariables false
set_option linter.unusedSimpArgs false

/-- Operators: how many, and what each needs. -/
structure Gr where
  n : Nat
  nd : Nat → List Nat
def Gr.wf (G : Gr) : Prop := ∀ i, i < G.n → ∀ j ∈ G.nd i, j < G.n
def freeB (G : Gr) (t : List Nat) (i : Nat) : Bool := !t.contains i && (G.nd i).all fun j => t.contains j
def nextG (G : Gr) (t : List Nat) : Option Nat := (List.range G.n).find? (freeB G t)
def goG (G : Gr) : Nat → List Nat → List Nat
  | 0, t => t
  | f + 1, t => match nextG G t with
    | none => t
    | some i => goG G f (t ++ [i])
def takenG (G : Gr) : List Nat := goG G G.n []
theorem free_iff {G : Gr} {t : List Nat} {i : Nat} : freeB G t i = true ↔ i ∉ t ∧ ∀ j ∈ G.nd i, j ∈ t := by
  unfold freeB; simp
theorem next_some {G : Gr} {t : List Nat} {i : Nat} (h : nextG G t = some i) : i < G.n ∧ freeB G t i = true ∧ ∀ j, j < i → freeB G t j = false := by
  unfold nextG at h
  have h1 := List.find?_some h
  have h2 := List.mem_of_find?_eq_some h
  refine ⟨by simpa using h2, h1, fun j hj => ?_⟩
  rw [List.find?_range_eq_some] at h
  simpa using h.2.2 j hj
theorem next_none {G : Gr} {t : List Nat} (h : nextG G t = none) : ∀ i, i < G.n → freeB G t i = false := by
  unfold nextG at h
  intro i hi
  have := List.find?_eq_none.1 h i (by simpa using hi)
  simpa using this
/-- The least one that is free is next. -/
theorem next_of {G : Gr} {t : List Nat} {i : Nat} (hi : i < G.n) (hf : freeB G t i = true) (hm : ∀ j, j < G.n → freeB G t j = true → i ≤ j) : nextG G t = some i := by
  unfold nextG
  rw [List.find?_range_eq_some]
  refine ⟨hf, by simpa using hi, fun j hj => ?_⟩
  cases h : freeB G t j with
  | false => rfl
  | true => have := hm j (by omega) h; omega
theorem next_no {G : Gr} {t : List Nat} (h : ∀ i, i < G.n → freeB G t i = false) : nextG G t = none := by
  unfold nextG
  rw [List.find?_eq_none]
  intro i hi
  rw [h i (by simpa using hi)]; simp
/-- What is taken so far: each once, each behind those that it needs. -/
structure Valid (G : Gr) (t : List Nat) : Prop where
  nodup : t.Nodup
  lt : ∀ i ∈ t, i < G.n
  behind : ∀ (k i : Nat), t[k]? = some i → ∀ j ∈ G.nd i, j ∈ t.take k
theorem Valid.nil (G : Gr) : Valid G [] := ⟨List.nodup_nil, fun i h => by simp at h, fun k i h => by simp at h⟩
theorem Valid.snoc {G : Gr} {t : List Nat} {i : Nat} (h : Valid G t) (hi : i < G.n) (hf : freeB G t i = true) : Valid G (t ++ [i]) := by
  obtain ⟨h1, h2⟩ := free_iff.1 hf
  refine ⟨List.nodup_append.2 ⟨h.nodup, by simp, fun a ha b hb => by simp at hb; subst hb; exact fun e => h1 (e ▸ ha)⟩, fun j hj => ?_, fun k j hk m hm => ?_⟩
  · rcases List.mem_append.1 hj with hj | hj
    · exact h.lt j hj
    · simp at hj; omega
  · by_cases hkt : k < t.length
    · rw [List.getElem?_append_left hkt] at hk
      rw [List.take_append_of_le_length (by omega)]
      exact h.behind k j hk m hm
    · rw [List.getElem?_append_right (by omega)] at hk
      have hk0 : k - t.length = 0 := by have := (List.getElem?_eq_some_iff.1 hk).1; simpa using this
      rw [hk0] at hk
      simp at hk
      subst hk
      rw [show k = t.length by omega, List.take_append_of_le_length (by omega), List.take_length]
      exact h2 m hm
theorem nodup_le : ∀ (n : Nat) (l : List Nat), l.Nodup → (∀ x ∈ l, x < n) → l.length ≤ n := by
  intro n
  induction n with
  | zero => intro l _ h; cases l with
    | nil => simp
    | cons a r => have := h a (by simp); omega
  | succ n ih =>
    intro l hn h
    have e := List.length_eq_countP_add_countP (fun x => x != n) (l := l)
    have e1 : l.countP (fun x => x != n) = (l.filter (fun x => x != n)).length := List.countP_eq_length_filter
    have e2 : l.countP (fun x => decide ¬(x != n) = true) = l.count n := by
      unfold List.count; congr 1; funext x; by_cases hx : x = n <;> simp [hx]
    have := ih (l.filter (fun x => x != n)) (hn.filter _) (fun x hx => by
      rw [List.mem_filter] at hx; have := h x hx.1; have := hx.2; simp at this; omega)
    have := List.nodup_iff_count.1 hn n
    omega
theorem range_le : ∀ (n : Nat) (l : List Nat), (∀ x, x < n → x ∈ l) → n ≤ l.length := by
  intro n
  induction n with
  | zero => intro l _; omega
  | succ n ih =>
    intro l h
    have e := List.length_eq_countP_add_countP (fun x => x != n) (l := l)
    have e1 : l.countP (fun x => x != n) = (l.filter (fun x => x != n)).length := List.countP_eq_length_filter
    have e2 : l.countP (fun x => decide ¬(x != n) = true) = l.count n := by
      unfold List.count; congr 1; funext x; by_cases hx : x = n <;> simp [hx]
    have := ih (l.filter (fun x => x != n)) (fun x hx => by
      rw [List.mem_filter]; exact ⟨h x (by omega), by simp; omega⟩)
    have := List.one_le_count_iff.2 (h n (by omega))
    omega
theorem Valid.len {G : Gr} {t : List Nat} (h : Valid G t) : t.length ≤ G.n := nodup_le _ _ h.nodup h.lt
theorem go_valid {G : Gr} : ∀ (f : Nat) (t : List Nat), Valid G t → Valid G (goG G f t) := by
  intro f
  induction f with
  | zero => intro t h; exact h
  | succ f ih =>
    intro t h
    unfold goG
    cases hn : nextG G t with
    | none => exact h
    | some i =>
      obtain ⟨h1, h2, -⟩ := next_some hn
      exact ih _ (h.snoc h1 h2)
theorem taken_valid (G : Gr) : Valid G (takenG G) := go_valid _ _ (Valid.nil G)
/-- Nothing is left out: a list of distinct numbers below n, as long as n, has each. -/
theorem full_mem {n : Nat} {l : List Nat} (h : l.Nodup) (hl : ∀ x ∈ l, x < n) (hn : n ≤ l.length) : ∀ i, i < n → i ∈ l := by
  intro i hi
  by_cases h0 : i ∈ l
  · exact h0
  · have := nodup_le n (i :: l) (List.nodup_cons.2 ⟨h0, h⟩) (fun x hx => by
      rcases List.mem_cons.1 hx with rfl | hx
      · exact hi
      · exact hl x hx)
    simp at this; omega
theorem Valid.all {G : Gr} {t : List Nat} (h : Valid G t) (hn : G.n ≤ t.length) : ∀ i, i < G.n → i ∈ t := full_mem h.nodup h.lt hn
/-- Where there is an order of all that keeps the needs, whatever is taken can go on. -/
theorem go_full {G : Gr} {o : List Nat} (ho : Valid G o) (hl : G.n ≤ o.length) : ∀ (f : Nat) (t : List Nat), Valid G t → f + t.length = G.n → (goG G f t).length = G.n := by
  intro f
  induction f with
  | zero => intro t h e; unfold goG; omega
  | succ f ih =>
    intro t h e
    unfold goG
    cases hn : nextG G t with
    | some i =>
      obtain ⟨h1, h2, -⟩ := next_some hn
      exact ih _ (h.snoc h1 h2) (by simp; omega)
    | none =>
      exfalso
      have hno := next_none hn
      have key : ∀ k, k ≤ o.length → ∀ j ∈ o.take k, j ∈ t := by
        intro k
        induction k with
        | zero => intro _ j hj; simp at hj
        | succ k ihk =>
          intro hk j hj
          rw [List.take_add_one, List.mem_append] at hj
          rcases hj with hj | hj
          · exact ihk (by omega) j hj
          · obtain ⟨m, hm⟩ : ∃ m, o[k]? = some m := ⟨_, List.getElem?_eq_getElem (by omega)⟩
            rw [hm] at hj
            simp at hj
            subst hj
            have hlt := ho.lt j (List.mem_of_getElem? hm)
            by_cases hjt : j ∈ t
            · exact hjt
            · have := hno j hlt
              rw [free_iff.2 ⟨hjt, fun m' hm' => ihk (by omega) m' (ho.behind k j hm m' hm')⟩] at this
              cases this
      have hall : ∀ i, i < G.n → i ∈ t := fun i hi => key o.length (Nat.le_refl _) i (by rw [List.take_length]; exact ho.all hl i hi)
      have := range_le G.n t hall
      omega
/-- Is there an order of all? -/
def okG (G : Gr) : Bool := decide (G.n ≤ (takenG G).length)
theorem ok_of {G : Gr} {o : List Nat} (ho : Valid G o) (hl : G.n ≤ o.length) : okG G = true := by
  unfold okG takenG
  rw [go_full ho hl G.n [] (Valid.nil G) (by simp)]; simp
theorem ok_len {G : Gr} (h : okG G = true) : (takenG G).length = G.n := by
  have h1 := of_decide_eq_true h
  have := (taken_valid G).len
  omega
theorem nodup_get {l : List Nat} (h : l.Nodup) {a b x : Nat} (ha : l[a]? = some x) (hb : l[b]? = some x) : a = b := by
  obtain ⟨h1, e1⟩ := List.getElem?_eq_some_iff.1 ha
  obtain ⟨h2, e2⟩ := List.getElem?_eq_some_iff.1 hb
  have hp := List.pairwise_iff_getElem.1 h
  rcases Nat.lt_trichotomy a b with c | c | c
  · exact absurd (e1.trans e2.symm) (hp a b h1 h2 c)
  · exact c
  · exact absurd (e2.trans e1.symm) (hp b a h2 h1 c)
/-- Where each one stands: a rank that grows along the needs. -/
theorem valid_rank {G : Gr} {o : List Nat} (ho : Valid G o) (hl : G.n ≤ o.length) : ∃ r : Nat → Nat, ∀ i, i < G.n → ∀ j ∈ G.nd i, r j < r i := by
  refine ⟨fun i => o.findIdx (· == i), fun i hi j hj => ?_⟩
  obtain ⟨k, hk, e⟩ := List.mem_iff_getElem.1 (ho.all hl i hi)
  have hik : o.findIdx (· == i) = k := by
    have hm : o.findIdx (· == i) < o.length := List.findIdx_lt_length_of_exists ⟨i, ho.all hl i hi, by simp⟩
    have h1 := List.findIdx_getElem (w := hm)
    have h2 : o[o.findIdx (· == i)] = i := by simpa using h1
    exact nodup_get ho.nodup (x := i) (by rw [List.getElem?_eq_getElem hm, h2]) (by rw [List.getElem?_eq_getElem hk, e])
  have hjt := ho.behind k i (by rw [List.getElem?_eq_getElem hk, e]) j hj
  obtain ⟨m, hm, em⟩ := List.mem_iff_getElem.1 hjt
  rw [List.length_take] at hm
  rw [List.getElem_take] at em
  have : o.findIdx (· == j) ≤ m := by
    rcases Nat.lt_or_ge m (o.findIdx (· == j)) with c | c
    · have h3 := List.not_of_lt_findIdx c
      simp [em] at h3
    · exact c
  show o.findIdx (· == j) < o.findIdx (· == i)
  omega
/-- A net in which each needs smaller ones alone is taken as it stands. -/
theorem taken_range {G : Gr} (h : ∀ i, i < G.n → ∀ j ∈ G.nd i, j < i) : takenG G = List.range G.n := by
  have hf : ∀ k, k < G.n → nextG G (List.range k) = some k := fun k hk => next_of hk (free_iff.2 ⟨by simp, fun j hj => by have := h k hk j hj; simpa using this⟩) (fun j hj hx => by
    have := (free_iff.1 hx).1
    simp at this; exact this)
  have go : ∀ f k, f + k = G.n → goG G f (List.range k) = List.range G.n := by
    intro f
    induction f with
    | zero => intro k e; unfold goG; rw [show k = G.n by omega]
    | succ f ih =>
      intro k e
      unfold goG
      rw [hf k (by omega)]
      show goG G f (List.range k ++ [k]) = _
      rw [← List.range_succ]; exact ih (k + 1) (by omega)
  exact go G.n 0 (by simp)
theorem go_stop {G : Gr} {t : List Nat} (h : nextG G t = none) : ∀ f, goG G f t = t := by
  intro f; cases f with
  | zero => rfl
  | succ f => unfold goG; rw [h]
theorem go_next {G : Gr} {t : List Nat} {i : Nat} (h : nextG G t = some i) (ht : t.length < G.n) : goG G (G.n - t.length) t = goG G (G.n - (t ++ [i]).length) (t ++ [i]) := by
  obtain ⟨f, hf⟩ : ∃ f, G.n - t.length = f + 1 := ⟨G.n - t.length - 1, by omega⟩
  rw [hf, List.length_append, List.length_singleton, show G.n - (t.length + 1) = f by omega]
  show (match nextG G t with | none => t | some i => goG G f (t ++ [i])) = _
  rw [h]

/-! ### The search for a way round -/
/-- Each is needed by the one behind it. -/
def Ch (G : Gr) : List Nat → Prop
  | [] => True
  | [_] => True
  | y :: x :: r => y ∈ G.nd x ∧ Ch G (x :: r)
/-- Of the states: which are being asked (the way here, the last one first), which are done (in this order). -/
structure Dfs (G : Gr) (S : List Int) (P t : List Nat) : Prop where
  len : S.length = G.n
  kind : ∀ (i : Nat) (x : Int), S[i]? = some x → (x = 0 ∧ i ∉ P ∧ i ∉ t) ∨ (x = 1 ∧ i ∈ P) ∨ (x = 2 ∧ i ∈ t)
  open' : ∀ i ∈ P, S[i]? = some 1
  done' : ∀ i ∈ t, S[i]? = some 2
  valid : Valid G t
  chain : Ch G P
  pnd : P.Nodup
theorem Dfs.begin (G : Gr) : Dfs G (List.replicate G.n 0) [] [] :=
  ⟨by simp, fun i x h => .inl ⟨by rw [List.getElem?_replicate] at h; split at h <;> simp_all, by simp, by simp⟩, fun i h => by simp at h, fun i h => by simp at h, Valid.nil G, trivial, List.nodup_nil⟩
theorem chain_rank {G : Gr} {r : Nat → Nat} (hr : ∀ i, i < G.n → ∀ j ∈ G.nd i, r j < r i) : ∀ (P : List Nat) (p : Nat), Ch G (p :: P) → (∀ i ∈ p :: P, i < G.n) → ∀ i ∈ p :: P, r p ≤ r i := by
  intro P
  induction P with
  | nil => intro p _ _ i hi; simp at hi; subst hi; exact Nat.le_refl _
  | cons q P ih =>
    intro p hc hl i hi
    rcases List.mem_cons.1 hi with rfl | hi
    · exact Nat.le_refl _
    · have h1 := ih q hc.2 (fun i hi => hl i (List.mem_cons_of_mem _ hi)) i hi
      have h2 := hr q (hl q (by simp)) p hc.1
      omega
/-- What is being asked comes back: there is no order. -/
theorem Dfs.round {G : Gr} {S : List Int} {p : Nat} {P t : List Nat} (h : Dfs G S (p :: P) t) {i : Nat} (hi : i ∈ G.nd p) (ho : S[i]? = some 1) : okG G = false := by
  cases hk : okG G with
  | false => rfl
  | true =>
    exfalso
    obtain ⟨r, hr⟩ := valid_rank (taken_valid G) (Nat.le_of_eq (ok_len hk).symm)
    have hl : ∀ i ∈ p :: P, i < G.n := fun i hi => by
      have := (List.getElem?_eq_some_iff.1 (h.open' i hi)).1
      rw [h.len] at this; exact this
    have hiP : i ∈ p :: P := by
      rcases h.kind i 1 ho with h1 | h1 | h1
      · omega
      · exact h1.2
      · omega
    have h1 := chain_rank hr P p h.chain hl i hiP
    have h2 := hr p (hl p (by simp)) i hi
    omega
/-- One more is being asked. -/
theorem Dfs.opened {G : Gr} {S : List Int} {P t : List Nat} (h : Dfs G S P t) {i : Nat} (h0 : S[i]? = some 0) (hp : ∀ p Q, P = p :: Q → i ∈ G.nd p) : Dfs G (S.set i 1) (i :: P) t := by
  have hil := (List.getElem?_eq_some_iff.1 h0).1
  have hne : i ∉ P ∧ i ∉ t := by
    rcases h.kind i 0 h0 with h1 | h1 | h1
    · exact h1.2
    · omega
    · omega
  refine ⟨by rw [List.length_set]; exact h.len, fun j x hx => ?_, fun j hj => ?_, fun j hj => ?_, h.valid, ?_, List.nodup_cons.2 ⟨hne.1, h.pnd⟩⟩
  · rw [List.getElem?_set] at hx
    by_cases e : i = j
    · subst e
      simp [hil] at hx
      exact .inr (.inl ⟨hx.symm, by simp⟩)
    · rw [if_neg e] at hx
      rcases h.kind j x hx with h1 | h1 | h1
      · exact .inl ⟨h1.1, by simp only [List.mem_cons, not_or]; exact ⟨fun e2 => e e2.symm, h1.2.1⟩, h1.2.2⟩
      · exact .inr (.inl ⟨h1.1, List.mem_cons_of_mem _ h1.2⟩)
      · exact .inr (.inr h1)
  · rw [List.getElem?_set]
    by_cases e : i = j
    · subst e; simp [hil]
    · rw [if_neg e]
      rcases List.mem_cons.1 hj with e2 | hj
      · exact absurd e2.symm e
      · exact h.open' j hj
  · rw [List.getElem?_set, if_neg (show ¬ i = j from fun e => hne.2 (e ▸ hj))]
    exact h.done' j hj
  · cases P with
    | nil => trivial
    | cons p Q => exact ⟨hp p Q rfl, h.chain⟩
/-- It is done. -/
theorem Dfs.closed {G : Gr} {S : List Int} {i : Nat} {P t : List Nat} (h : Dfs G S (i :: P) t) (ha : ∀ j ∈ G.nd i, j ∈ t) : Dfs G (S.set i 2) P (t ++ [i]) := by
  have hS := h.open' i (by simp)
  have hil := (List.getElem?_eq_some_iff.1 hS).1
  have hit : i ∉ t := fun e => by have := h.done' i e; rw [hS] at this; simp at this
  have hiP := (List.nodup_cons.1 h.pnd).1
  refine ⟨by rw [List.length_set]; exact h.len, fun j x hx => ?_, fun j hj => ?_, fun j hj => ?_, h.valid.snoc (by rw [← h.len]; exact hil) (free_iff.2 ⟨hit, ha⟩), ?_, (List.nodup_cons.1 h.pnd).2⟩
  · rw [List.getElem?_set] at hx
    by_cases e : i = j
    · subst e
      simp [hil] at hx
      exact .inr (.inr ⟨hx.symm, by simp⟩)
    · rw [if_neg e] at hx
      rcases h.kind j x hx with h1 | h1 | h1
      · exact .inl ⟨h1.1, fun e2 => h1.2.1 (List.mem_cons_of_mem _ e2), by simp only [List.mem_append, List.mem_singleton, not_or]; exact ⟨h1.2.2, fun e2 => e e2.symm⟩⟩
      · rcases List.mem_cons.1 h1.2 with e2 | h2
        · exact absurd e2.symm e
        · exact .inr (.inl ⟨h1.1, h2⟩)
      · exact .inr (.inr ⟨h1.1, List.mem_append_left _ h1.2⟩)
  · rw [List.getElem?_set, if_neg (show ¬ i = j from fun e => hiP (e ▸ hj))]
    exact h.open' j (List.mem_cons_of_mem _ hj)
  · rw [List.getElem?_set]
    by_cases e : i = j
    · subst e; simp [hil]
    · rw [if_neg e]
      rcases List.mem_append.1 hj with hj | hj
      · exact h.done' j hj
      · simp at hj; exact absurd hj.symm e
  · cases P with
    | nil => trivial
    | cons p Q => exact h.chain.2
/-- How many are not seen yet. -/
def unseen (S : List Int) : Nat := S.countP (· == 0)
theorem unseen_open {S : List Int} {i : Nat} (h : S[i]? = some 0) : unseen (S.set i 1) + 1 = unseen S := by
  obtain ⟨h1, h2⟩ := List.getElem?_eq_some_iff.1 h
  unfold unseen
  rw [List.countP_set h1]
  have : 0 < S.countP (· == 0) := List.countP_pos_iff.2 ⟨0, h2 ▸ List.getElem_mem h1, by simp⟩
  simp [h2]; omega
theorem unseen_done {S : List Int} {i : Nat} (h : S[i]? = some 1) : unseen (S.set i 2) = unseen S := by
  obtain ⟨h1, h2⟩ := List.getElem?_eq_some_iff.1 h
  unfold unseen
  rw [List.countP_set h1]
  simp [h2]
/-- All are done, none comes back. -/
theorem Dfs.full {G : Gr} {S : List Int} {t : List Nat} (h : Dfs G S [] t) (ha : ∀ i, i < G.n → i ∈ t) : okG G = true := ok_of h.valid (range_le _ _ ha)
end Go.Proofs.Ytcphjehjdhgheaa.Nt

namespace Go.Proofs.Ytcphjehjdhgheaa.Nt
set_option linter.unusedVariables false
set_option linter.unusedSimpArgs false

/-- An operator. -/
structure Op5 where
  op : Int
  a : Int
  b : Int
  c : Int
  n : Int
deriving DecidableEq, Inhabited
structure Net where
  ops : List Op5
  roots : List Int
  ins : List Int
deriving DecidableEq, Inhabited
def fitsI (n : Int) : Bool := decide (-2147483648 ≤ n) && decide (n ≤ 2147483647)
/-- How many operands an operator of numbers takes. -/
def opnd (op : Int) : Int := if op = 4 ∨ op = 5 then 1 else if op = 26 then 3 else if 6 ≤ op ∧ op ≤ 18 then 2 else -1
/-- .. an operator of a net. -/
def kids (op : Int) : Int := if op = 1 ∨ op = 2 ∨ op = 3 then 0 else if op = 21 then 1 else if op = 19 then 2 else opnd op
def plainB (nin : Nat) (x : Op5) : Bool :=
  if x.op = 3 then decide (0 ≤ x.n) && decide (x.n < (nin : Int)) else if x.op = 1 then fitsI x.n else if x.op = 2 then x.n == 0 || x.n == 1 else x.n == 0
def isOp (n : Nat) (k : Int) : Bool := decide (0 ≤ k) && decide (k < (n : Int))
def fldB (n : Nat) (k many : Int) (at_ : Int) : Bool := if many ≤ at_ then k == -1 else isOp n k
def mayOp (n nin : Nat) (x : Op5) : Bool := decide (0 ≤ kids x.op) && plainB nin x && fldB n x.a (kids x.op) 0 && fldB n x.b (kids x.op) 1 && fldB n x.c (kids x.op) 2
def mayN (N : Net) : Bool := decide (N.ops.length ≤ 100000) && N.ops.all (mayOp N.ops.length N.ins.length) && N.roots.all (isOp N.ops.length)
/-- What an operator needs. -/
def needI (x : Op5) : List Int := if x.op = 21 then [] else [x.a, x.b, x.c].take (kids x.op).toNat
def opAt (N : Net) (i : Nat) : Op5 := N.ops.getD i ⟨0, 0, 0, 0, 0⟩
def ndN (N : Net) (i : Nat) : List Nat := (needI (opAt N i)).map Int.toNat
def grN (N : Net) : Gr := ⟨N.ops.length, ndN N⟩
def orderN (N : Net) : List Nat := takenG (grN N)
def checkN (N : Net) : Int := if mayN N = false then 1 else if okG (grN N) = false then 12 else 0
/-- New numbers for old ones. -/
def newOf (o : List Nat) (k : Nat) : Nat := o.idxOf k
def toI (o : List Nat) (k : Int) : Int := if k < 0 then k else (newOf o k.toNat : Int)
def turnOp (o : List Nat) (x : Op5) : Op5 := ⟨x.op, toI o x.a, toI o x.b, toI o x.c, x.n⟩
def sortedN (N : Net) : Net := ⟨(orderN N).map fun i => turnOp (orderN N) (opAt N i), N.roots.map (toI (orderN N)), N.ins⟩
def emptyN : Net := ⟨[], [], []⟩
def sortN (N : Net) : Net := if checkN N = 0 then sortedN N else emptyN
def inOrdB (N : Net) : Bool := (List.range N.ops.length).all fun i => (ndN N i).all fun k => decide (k < i)
def isN (N : Net) : Bool := checkN N == 0 && inOrdB N
/-- The last one so far that needs an operator. -/
def lastTo (N : Net) (m : Nat) (k : Nat) : Int := (List.range m).foldl (fun a i => if k ∈ ndN N i then (i : Int) else a) (-1)
def endsOf (N : Net) : List Int := (List.range N.ops.length).map (lastTo N N.ops.length)
def endsN (N : Net) : List Int := if isN N then endsOf N else []

theorem kids_cases (op : Int) : kids op = -1 ∨ kids op = 0 ∨ kids op = 1 ∨ kids op = 2 ∨ kids op = 3 := by
  unfold kids opnd
  repeat' split
  all_goals omega
theorem isOp_iff {n : Nat} {k : Int} : isOp n k = true ↔ 0 ≤ k ∧ k < (n : Int) := by unfold isOp; simp
/-- The fields of an operator that may be. -/
theorem may_flds {n nin : Nat} {x : Op5} (h : mayOp n nin x = true) : 0 ≤ kids x.op ∧ (∀ k ∈ [x.a, x.b, x.c].take (kids x.op).toNat, 0 ≤ k ∧ k < (n : Int)) ∧ (∀ k ∈ [x.a, x.b, x.c].drop (kids x.op).toNat, k = -1) := by
  unfold mayOp fldB at h
  simp only [Bool.and_eq_true] at h
  obtain ⟨⟨⟨⟨h0, -⟩, ha⟩, hb⟩, hc⟩ := h
  rcases kids_cases x.op with e | e | e | e | e <;> rw [e] at h0 ha hb hc ⊢ <;> simp [isOp] at h0 ha hb hc ⊢ <;> omega
theorem need_flds {n nin : Nat} {x : Op5} (h : mayOp n nin x = true) : ∀ k ∈ needI x, 0 ≤ k ∧ k < (n : Int) := by
  intro k hk
  unfold needI at hk
  split at hk
  · simp at hk
  · exact (may_flds h).2.1 k hk
/-- Of an operator that may be, what it needs are its fields that are not below 0. -/
theorem need_filter {n nin : Nat} {x : Op5} (h : mayOp n nin x = true) (hp : x.op ≠ 21) : needI x = [x.a, x.b, x.c].filter fun k => decide (0 ≤ k) := by
  obtain ⟨h0, h1, h2⟩ := may_flds h
  unfold needI
  rw [if_neg hp]
  have e := List.take_append_drop (kids x.op).toNat [x.a, x.b, x.c]
  have : [x.a, x.b, x.c].filter (fun k => decide (0 ≤ k)) = ([x.a, x.b, x.c].take (kids x.op).toNat ++ [x.a, x.b, x.c].drop (kids x.op).toNat).filter fun k => decide (0 ≤ k) := by rw [e]
  rw [this, List.filter_append, List.filter_eq_self.2 (fun k hk => by simpa using (h1 k hk).1), List.filter_eq_nil_iff.2 (fun k hk => by rw [h2 k hk]; simp), List.append_nil]
theorem may_at {N : Net} (h : mayN N = true) {i : Nat} (hi : i < N.ops.length) : mayOp N.ops.length N.ins.length (opAt N i) = true := by
  unfold mayN at h
  simp only [Bool.and_eq_true, List.all_eq_true] at h
  have e : opAt N i = N.ops[i] := by unfold opAt; simp [List.getD, hi]
  rw [e]; exact h.1.2 _ (List.getElem_mem hi)
theorem op_get {N : Net} {i : Nat} (hi : i < N.ops.length) : N.ops[i]? = some (opAt N i) := by unfold opAt; simp [List.getD, hi]
theorem nd_lt {N : Net} (h : mayN N = true) : (grN N).wf := by
  intro i hi j hj
  obtain ⟨k, hk, rfl⟩ := List.mem_map.1 hj
  have := need_flds (may_at h hi) k hk
  show k.toNat < N.ops.length
  omega
theorem nd_cast {N : Net} (h : mayN N = true) {i : Nat} (hi : i < N.ops.length) : (ndN N i).map (fun (k : Nat) => (k : Int)) = needI (opAt N i) := by
  unfold ndN
  rw [List.map_map]
  conv => rhs; rw [← List.map_id (needI (opAt N i))]
  refine List.map_congr_left (fun k hk => ?_)
  have := need_flds (may_at h hi) k hk
  simp; omega
theorem check_cases (N : Net) : checkN N = 1 ∨ checkN N = 12 ∨ checkN N = 0 := by unfold checkN; repeat' split <;> simp
theorem check_ok {N : Net} : checkN N = 0 ↔ mayN N = true ∧ okG (grN N) = true := by
  unfold checkN
  cases mayN N <;> cases okG (grN N) <;> simp
theorem order_len {N : Net} (h : checkN N = 0) : (orderN N).length = N.ops.length := ok_len (check_ok.1 h).2
theorem order_lt {N : Net} {i : Nat} (h : i ∈ orderN N) : i < N.ops.length := (taken_valid (grN N)).lt i h
theorem order_mem {N : Net} (h : checkN N = 0) {i : Nat} (hi : i < N.ops.length) : i ∈ orderN N := (taken_valid (grN N)).all (Nat.le_of_eq (order_len h).symm) i hi
theorem new_lt {N : Net} (h : checkN N = 0) {i : Nat} (hi : i < N.ops.length) : newOf (orderN N) i < N.ops.length := by
  have := List.idxOf_lt_length_of_mem (order_mem h hi)
  rw [order_len h] at this; exact this
theorem new_get {N : Net} (h : checkN N = 0) {i : Nat} (hi : i < N.ops.length) : (orderN N)[newOf (orderN N) i]? = some i := by
  have := List.idxOf_lt_length_of_mem (order_mem h hi)
  unfold newOf
  rw [List.getElem?_eq_getElem this, List.getElem_idxOf]
theorem get_new {N : Net} {i k : Nat} (hk : (orderN N)[k]? = some i) : newOf (orderN N) i = k := by
  have hm : i ∈ orderN N := List.mem_of_getElem? hk
  have h1 := List.idxOf_lt_length_of_mem hm
  have e : (orderN N)[(orderN N).idxOf i]? = some i := by rw [List.getElem?_eq_getElem h1, List.getElem_idxOf]
  exact nodup_get (taken_valid (grN N)).nodup (x := i) e hk

/-! ### A net in order -/
theorem sorted_at {N : Net} {k i : Nat} (hk : (orderN N)[k]? = some i) : opAt (sortedN N) k = turnOp (orderN N) (opAt N i) := by
  unfold opAt sortedN
  simp [List.getD, hk, opAt]
theorem toI_neg (o : List Nat) : toI o (-1) = -1 := by unfold toI; simp
theorem toI_nat (o : List Nat) (k : Nat) : toI o (k : Int) = (newOf o k : Int) := by unfold toI; rw [if_neg (by omega)]; simp
theorem turn_may {N : Net} (h : checkN N = 0) {x : Op5} (hx : mayOp N.ops.length N.ins.length x = true) : mayOp N.ops.length N.ins.length (turnOp (orderN N) x) = true := by
  have key : ∀ (k many at_ : Int), fldB N.ops.length k many at_ = true → fldB N.ops.length (toI (orderN N) k) many at_ = true := by
    intro k many at_ hk
    unfold fldB at hk ⊢
    split at hk
    · have : k = -1 := by simpa using hk
      subst this
      rename_i hm
      rw [if_pos hm, toI_neg]; rfl
    · rename_i hm
      rw [if_neg hm]
      obtain ⟨h1, h2⟩ := isOp_iff.1 hk
      have hlt := new_lt h (i := k.toNat) (by omega)
      unfold toI
      rw [if_neg (by omega), isOp_iff]; omega
  unfold mayOp at hx ⊢
  simp only [Bool.and_eq_true] at hx ⊢
  exact ⟨⟨⟨⟨hx.1.1.1.1, hx.1.1.1.2⟩, key _ _ _ hx.1.1.2⟩, key _ _ _ hx.1.2⟩, key _ _ _ hx.2⟩
theorem sorted_len {N : Net} (h : checkN N = 0) : (sortedN N).ops.length = N.ops.length := by show ((orderN N).map _).length = _; rw [List.length_map, order_len h]
theorem sorted_may {N : Net} (h : checkN N = 0) : mayN (sortedN N) = true := by
  have hm := (check_ok.1 h).1
  have hl := sorted_len h
  unfold mayN
  rw [hl]
  unfold mayN at hm
  simp only [Bool.and_eq_true, List.all_eq_true] at hm ⊢
  refine ⟨⟨hm.1.1, fun x hx => ?_⟩, fun k hk => ?_⟩
  · obtain ⟨i, hi, rfl⟩ := List.mem_map.1 hx
    exact turn_may h (may_at (check_ok.1 h).1 (order_lt hi))
  · obtain ⟨r, hr, rfl⟩ := List.mem_map.1 hk
    have := isOp_iff.1 (hm.2 r hr)
    have hlt := new_lt h (i := r.toNat) (by omega)
    unfold toI
    rw [if_neg (by omega), isOp_iff]; omega
theorem need_turn {N : Net} {i : Nat} : needI (turnOp (orderN N) (opAt N i)) = (needI (opAt N i)).map (toI (orderN N)) := by
  unfold needI turnOp
  by_cases hp : (opAt N i).op = 21
  · rw [if_pos hp, if_pos hp]; rfl
  · rw [if_neg hp, if_neg hp, List.map_take]; rfl
theorem sorted_nd {N : Net} (h : checkN N = 0) {k i : Nat} (hk : (orderN N)[k]? = some i) : ndN (sortedN N) k = (ndN N i).map (newOf (orderN N)) := by
  have hi := order_lt (List.mem_of_getElem? hk)
  unfold ndN
  rw [sorted_at hk, need_turn, List.map_map, List.map_map]
  refine List.map_congr_left (fun x hx => ?_)
  have := need_flds (may_at (check_ok.1 h).1 hi) x hx
  show (toI (orderN N) x).toNat = newOf (orderN N) x.toNat
  unfold toI
  rw [if_neg (by omega)]; simp
theorem sorted_behind {N : Net} (h : checkN N = 0) {k : Nat} (hk : k < N.ops.length) : ∀ j ∈ ndN (sortedN N) k, j < k := by
  obtain ⟨i, hi⟩ : ∃ i, (orderN N)[k]? = some i := ⟨_, List.getElem?_eq_getElem (by rw [order_len h]; exact hk)⟩
  intro j hj
  rw [sorted_nd h hi] at hj
  obtain ⟨m, hm, rfl⟩ := List.mem_map.1 hj
  have hb := (taken_valid (grN N)).behind k i hi m hm
  obtain ⟨p, hp, e⟩ := List.mem_iff_getElem.1 hb
  rw [List.length_take] at hp
  rw [List.getElem_take] at e
  have hp2 : p < (orderN N).length := by show p < (takenG (grN N)).length; omega
  have : (orderN N)[p]? = some m := by rw [List.getElem?_eq_getElem hp2]; congr 1
  rw [get_new this]; omega
theorem in_ord {N : Net} : inOrdB N = true ↔ ∀ i, i < N.ops.length → ∀ k ∈ ndN N i, k < i := by unfold inOrdB; simp
theorem order_range {N : Net} (h : inOrdB N = true) : orderN N = List.range N.ops.length := taken_range (G := grN N) (in_ord.1 h)
theorem sorted_ord {N : Net} (h : checkN N = 0) : inOrdB (sortedN N) = true := in_ord.2 (fun i hi => sorted_behind h (by rw [sorted_len h] at hi; exact hi))
theorem sorted_check {N : Net} (h : checkN N = 0) : checkN (sortedN N) = 0 := check_ok.2 ⟨sorted_may h, by
  have e := order_range (sorted_ord h)
  unfold okG
  exact decide_eq_true (by show (sortedN N).ops.length ≤ (orderN (sortedN N)).length; rw [e]; simp)⟩
theorem sorted_is {N : Net} (h : checkN N = 0) : isN (sortedN N) = true := by unfold isN; rw [sorted_check h, sorted_ord h]; rfl
theorem idx_range {n k : Nat} (h : k < n) : newOf (List.range n) k = k := by
  unfold newOf
  have h1 := List.idxOf_lt_length_of_mem (List.mem_range.2 h)
  have h2 : (List.range n)[(List.range n).idxOf k]? = some k := by rw [List.getElem?_eq_getElem h1, List.getElem_idxOf]
  exact nodup_get List.nodup_range h2 (by rw [List.getElem?_range h])
/-- What is in order stays as it is. -/
theorem sorted_same {N : Net} (hc : checkN N = 0) (h : inOrdB N = true) : sortedN N = N := by
  have hm := (check_ok.1 hc).1
  have e := order_range h
  have hid : ∀ k : Int, (k = -1 ∨ (0 ≤ k ∧ k < (N.ops.length : Int))) → toI (List.range N.ops.length) k = k := fun k hk => by
    unfold toI
    split
    · rfl
    · rw [idx_range (by omega)]; omega
  have hop : ∀ i, i < N.ops.length → turnOp (List.range N.ops.length) (opAt N i) = opAt N i := fun i hi => by
    obtain ⟨-, h1, h2⟩ := may_flds (may_at hm hi)
    have hf : ∀ k ∈ [(opAt N i).a, (opAt N i).b, (opAt N i).c], toI (List.range N.ops.length) k = k := fun k hk => by
      rw [← List.take_append_drop (kids (opAt N i).op).toNat [(opAt N i).a, (opAt N i).b, (opAt N i).c], List.mem_append] at hk
      rcases hk with hk | hk
      · exact hid k (.inr (h1 k hk))
      · exact hid k (.inl (h2 k hk))
    unfold turnOp
    rw [hf _ (by simp), hf _ (by simp), hf _ (by simp)]
  unfold sortedN
  rw [e]
  have e1 : (List.range N.ops.length).map (fun i => turnOp (List.range N.ops.length) (opAt N i)) = N.ops := by
    refine List.ext_getElem? (fun i => ?_)
    rw [List.getElem?_map]
    by_cases hi : i < N.ops.length
    · rw [List.getElem?_range hi, op_get hi]; simp [hop i hi]
    · rw [List.getElem?_eq_none (by simpa using hi), List.getElem?_eq_none (by omega)]; rfl
  have e2 : N.roots.map (toI (List.range N.ops.length)) = N.roots := by
    unfold mayN at hm
    simp only [Bool.and_eq_true, List.all_eq_true] at hm
    conv => rhs; rw [← List.map_id N.roots]
    exact List.map_congr_left (fun k hk => hid k (.inr (isOp_iff.1 (hm.2 k hk))))
  rw [e1, e2]

/-! ### Where each is needed last -/
theorem last_succ (N : Net) (m k : Nat) : lastTo N (m + 1) k = if k ∈ ndN N m then (m : Int) else lastTo N m k := by
  unfold lastTo
  rw [List.range_succ, List.foldl_append]; rfl
theorem last_zero (N : Net) (k : Nat) : lastTo N 0 k = -1 := rfl
theorem last_spec (N : Net) (k : Nat) : ∀ m, (∀ i, i < m → k ∈ ndN N i → (i : Int) ≤ lastTo N m k) ∧ (∀ i : Nat, (i : Int) = lastTo N m k → i < m ∧ k ∈ ndN N i) := by
  intro m
  induction m with
  | zero => exact ⟨fun i h => by omega, fun i h => by rw [last_zero] at h; omega⟩
  | succ m ih =>
    rw [last_succ]
    by_cases hk : k ∈ ndN N m
    · rw [if_pos hk]
      exact ⟨fun i hi _ => by omega, fun i hi => by have : i = m := by omega
                                                    subst this; exact ⟨by omega, hk⟩⟩
    · rw [if_neg hk]
      refine ⟨fun i hi hn => ?_, fun i hi => ?_⟩
      · by_cases e : i = m
        · subst e; exact absurd hn hk
        · exact ih.1 i (by omega) hn
      · obtain ⟨h1, h2⟩ := ih.2 i hi
        exact ⟨by omega, h2⟩
/-- The first one that needs nothing is first. -/
theorem order_zero {N : Net} (h0 : 0 < N.ops.length) (hn : ndN N 0 = []) : ∃ r, orderN N = 0 :: r := by
  have h1 : nextG (grN N) [] = some 0 := next_of h0 (free_iff.2 ⟨by simp, fun j hj => by
    have hj : j ∈ ndN N 0 := hj
    rw [hn] at hj; simp at hj⟩) (fun j _ _ => by omega)
  obtain ⟨f, hf⟩ : ∃ f, N.ops.length = f + 1 := ⟨N.ops.length - 1, by omega⟩
  have pre : ∀ f t, ∃ r, goG (grN N) f t = t ++ r := by
    intro f
    induction f with
    | zero => intro t; exact ⟨[], by unfold goG; simp⟩
    | succ f ih =>
      intro t
      unfold goG
      cases nextG (grN N) t with
      | none => exact ⟨[], by simp⟩
      | some i =>
        obtain ⟨r, hr⟩ := ih (t ++ [i])
        exact ⟨i :: r, by show goG (grN N) f (t ++ [i]) = _; rw [hr]; simp⟩
  obtain ⟨r, hr⟩ := pre f [0]
  refine ⟨r, ?_⟩
  unfold orderN takenG
  show goG (grN N) N.ops.length [] = _
  rw [hf]
  unfold goG
  rw [h1]
  show goG (grN N) f ([] ++ [0]) = _
  rw [List.nil_append, hr]; rfl
end Go.Proofs.Ytcphjehjdhgheaa.Nt
