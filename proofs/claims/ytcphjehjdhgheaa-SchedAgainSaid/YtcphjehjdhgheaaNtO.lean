/- The order of operators, as plain functions of numbers: again and again the least one of which all that it needs is taken. Conditions: none. -/
import GoSem.Op.String
namespace Go.Proofs.Ytcphjehjdhgheaa.Nt
set_option linter.unusedVariables false
set_option linter.unusedSimpArgs false

/-- Operators: how many, and what each needs. -/
structure Gr where
  n : Nat
  nd : Nat → List Nat
def Gr.wf (G : Gr) : Prop := ∀ i, i < G.n → ∀ j ∈ G.nd i, j < G.n
def freeB (G : Gr) (t : List Nat) (i : Nat) : Bool := !t.contains i && (G.nd i).all fun j => t.contains j
def nextG (G : Gr) (t : List Nat) : Option Nat := (List.range G.n).find? (freeB G t)
def goG (G : Gr) : Nat → List Nat → List Nat
  | 0, t => t
  | f + 1, t => match nextG G t with
    | none => t
    | some i => goG G f (t ++ [i])
def takenG (G : Gr) : List Nat := goG G G.n []
theorem free_iff {G : Gr} {t : List Nat} {i : Nat} : freeB G t i = true ↔ i ∉ t ∧ ∀ j ∈ G.nd i, j ∈ t := by
  unfold freeB; simp
theorem next_some {G : Gr} {t : List Nat} {i : Nat} (h : nextG G t = some i) : i < G.n ∧ freeB G t i = true ∧ ∀ j, j < i → freeB G t j = false := by
  unfold nextG at h
  have h1 := List.find?_some h
  have h2 := List.mem_of_find?_eq_some h
  refine ⟨by simpa using h2, h1, fun j hj => ?_⟩
  rw [List.find?_range_eq_some] at h
  simpa using h.2.2 j hj
theorem next_none {G : Gr} {t : List Nat} (h : nextG G t = none) : ∀ i, i < G.n → freeB G t i = false := by
  unfold nextG at h
  intro i hi
  have := List.find?_eq_none.1 h i (by simpa using hi)
  simpa using this
/-- The least one that is free is next. -/
theorem next_of {G : Gr} {t : List Nat} {i : Nat} (hi : i < G.n) (hf : freeB G t i = true) (hm : ∀ j, j < G.n → freeB G t j = true → i ≤ j) : nextG G t = some i := by
  unfold nextG
  rw [List.find?_range_eq_some]
  refine ⟨hf, by simpa using hi, fun j hj => ?_⟩
  cases h : freeB G t j with
  | false => rfl
  | true => have := hm j (by omega) h; omega
theorem next_no {G : Gr} {t : List Nat} (h : ∀ i, i < G.n → freeB G t i = false) : nextG G t = none := by
  unfold nextG
  rw [List.find?_eq_none]
  intro i hi
  rw [h i (by simpa using hi)]; simp
/-- What is taken so far: each once, each behind those that it needs. -/
structure Valid (G : Gr) (t : List Nat) : Prop where
  nodup : t.Nodup
  lt : ∀ i ∈ t, i < G.n
  behind : ∀ (k i : Nat), t[k]? = some i → ∀ j ∈ G.nd i, j ∈ t.take k
theorem Valid.nil (G : Gr) : Valid G [] := ⟨List.nodup_nil, fun i h => by simp at h, fun k i h => by simp at h⟩
theorem Valid.snoc {G : Gr} {t : List Nat} {i : Nat} (h : Valid G t) (hi : i < G.n) (hf : freeB G t i = true) : Valid G (t ++ [i]) := by
  obtain ⟨h1, h2⟩ := free_iff.1 hf
  refine ⟨List.nodup_append.2 ⟨h.nodup, by simp, fun a ha b hb => by simp at hb; subst hb; exact fun e => h1 (e ▸ ha)⟩, fun j hj => ?_, fun k j hk m hm => ?_⟩
  · rcases List.mem_append.1 hj with hj | hj
    · exact h.lt j hj
    · simp at hj; omega
  · by_cases hkt : k < t.length
    · rw [List.getElem?_append_left hkt] at hk
      rw [List.take_append_of_le_length (by omega)]
      exact h.behind k j hk m hm
    · rw [List.getElem?_append_right (by omega)] at hk
      have hk0 : k - t.length = 0 := by have := (List.getElem?_eq_some_iff.1 hk).1; simpa using this
      rw [hk0] at hk
      simp at hk
      subst hk
      rw [show k = t.length by omega, List.take_append_of_le_length (by omega), List.take_length]
      exact h2 m hm
theorem nodup_le : ∀ (n : Nat) (l : List Nat), l.Nodup → (∀ x ∈ l, x < n) → l.length ≤ n := by
  intro n
  induction n with
  | zero => intro l _ h; cases l with
    | nil => simp
    | cons a r => have := h a (by simp); omega
  | succ n ih =>
    intro l hn h
    have e := List.length_eq_countP_add_countP (fun x => x != n) (l := l)
    have e1 : l.countP (fun x => x != n) = (l.filter (fun x => x != n)).length := List.countP_eq_length_filter
    have e2 : l.countP (fun x => decide ¬(x != n) = true) = l.count n := by
      unfold List.count; congr 1; funext x; by_cases hx : x = n <;> simp [hx]
    have := ih (l.filter (fun x => x != n)) (hn.filter _) (fun x hx => by
      rw [List.mem_filter] at hx; have := h x hx.1; have := hx.2; simp at this; omega)
    have := List.nodup_iff_count.1 hn n
    omega
theorem range_le : ∀ (n : Nat) (l : List Nat), (∀ x, x < n → x ∈ l) → n ≤ l.length := by
  intro n
  induction n with
  | zero => intro l _; omega
  | succ n ih =>
    intro l h
    have e := List.length_eq_countP_add_countP (fun x => x != n) (l := l)
    have e1 : l.countP (fun x => x != n) = (l.filter (fun x => x != n)).length := List.countP_eq_length_filter
    have e2 : l.countP (fun x => decide ¬(x != n) = true) = l.count n := by
      unfold List.count; congr 1; funext x; by_cases hx : x = n <;> simp [hx]
    have := ih (l.filter (fun x => x != n)) (fun x hx => by
      rw [List.mem_filter]; exact ⟨h x (by omega), by simp; omega⟩)
    have := List.one_le_count_iff.2 (h n (by omega))
    omega
theorem Valid.len {G : Gr} {t : List Nat} (h : Valid G t) : t.length ≤ G.n := nodup_le _ _ h.nodup h.lt
theorem go_valid {G : Gr} : ∀ (f : Nat) (t : List Nat), Valid G t → Valid G (goG G f t) := by
  intro f
  induction f with
  | zero => intro t h; exact h
  | succ f ih =>
    intro t h
    unfold goG
    cases hn : nextG G t with
    | none => exact h
    | some i =>
      obtain ⟨h1, h2, -⟩ := next_some hn
      exact ih _ (h.snoc h1 h2)
theorem taken_valid (G : Gr) : Valid G (takenG G) := go_valid _ _ (Valid.nil G)
/-- Nothing is left out: a list of distinct numbers below n, as long as n, has each. -/
theorem full_mem {n : Nat} {l : List Nat} (h : l.Nodup) (hl : ∀ x ∈ l, x < n) (hn : n ≤ l.length) : ∀ i, i < n → i ∈ l := by
  intro i hi
  by_cases h0 : i ∈ l
  · exact h0
  · have := nodup_le n (i :: l) (List.nodup_cons.2 ⟨h0, h⟩) (fun x hx => by
      rcases List.mem_cons.1 hx with rfl | hx
      · exact hi
      · exact hl x hx)
    simp at this; omega
theorem Valid.all {G : Gr} {t : List Nat} (h : Valid G t) (hn : G.n ≤ t.length) : ∀ i, i < G.n → i ∈ t := full_mem h.nodup h.lt hn
/-- Where there is an order of all that keeps the needs, whatever is taken can go on. -/
theorem go_full {G : Gr} {o : List Nat} (ho : Valid G o) (hl : G.n ≤ o.length) : ∀ (f : Nat) (t : List Nat), Valid G t → f + t.length = G.n → (goG G f t).length = G.n := by
  intro f
  induction f with
  | zero => intro t h e; unfold goG; omega
  | succ f ih =>
    intro t h e
    unfold goG
    cases hn : nextG G t with
    | some i =>
      obtain ⟨h1, h2, -⟩ := next_some hn
      exact ih _ (h.snoc h1 h2) (by simp; omega)
    | none =>
      exfalso
      have hno := next_none hn
      have key : ∀ k, k ≤ o.length → ∀ j ∈ o.take k, j ∈ t := by
        intro k
        induction k with
        | zero => intro _ j hj; simp at hj
        | succ k ihk =>
          intro hk j hj
          rw [List.take_add_one, List.mem_append] at hj
          rcases hj with hj | hj
          · exact ihk (by omega) j hj
          · obtain ⟨m, hm⟩ : ∃ m, o[k]? = some m := ⟨_, List.getElem?_eq_getElem (by omega)⟩
            rw [hm] at hj
            simp at hj
            subst hj
            have hlt := ho.lt j (List.mem_of_getElem? hm)
            by_cases hjt : j ∈ t
            · exact hjt
            · have := hno j hlt
              rw [free_iff.2 ⟨hjt, fun m' hm' => ihk (by omega) m' (ho.behind k j hm m' hm')⟩] at this
              cases this
      have hall : ∀ i, i < G.n → i ∈ t := fun i hi => key o.length (Nat.le_refl _) i (by rw [List.take_length]; exact ho.all hl i hi)
      have := range_le G.n t hall
      omega
/-- Is there an order of all? -/
def okG (G : Gr) : Bool := decide (G.n ≤ (takenG G).length)
theorem ok_of {G : Gr} {o : List Nat} (ho : Valid G o) (hl : G.n ≤ o.length) : okG G = true := by
  unfold okG takenG
  rw [go_full ho hl G.n [] (Valid.nil G) (by simp)]; simp
theorem ok_len {G : Gr} (h : okG G = true) : (takenG G).length = G.n := by
  have h1 := of_decide_eq_true h
  have := (taken_valid G).len
  omega
theorem nodup_get {l : List Nat} (h : l.Nodup) {a b x : Nat} (ha : l[a]? = some x) (hb : l[b]? = some x) : a = b := by
  obtain ⟨h1, e1⟩ := List.getElem?_eq_some_iff.1 ha
  obtain ⟨h2, e2⟩ := List.getElem?_eq_some_iff.1 hb
  have hp := List.pairwise_iff_getElem.1 h
  rcases Nat.lt_trichotomy a b with c | c | c
  · exact absurd (e1.trans e2.symm) (hp a b h1 h2 c)
  · exact c
  · exact absurd (e2.trans e1.symm) (hp b a h2 h1 c)
/-- Where each one stands: a rank that grows along the needs. -/
theorem valid_rank {G : Gr} {o : List Nat} (ho : Valid G o) (hl : G.n ≤ o.length) : ∃ r : Nat → Nat, ∀ i, i < G.n → ∀ j ∈ G.nd i, r j < r i := by
  refine ⟨fun i => o.findIdx (· == i), fun i hi j hj => ?_⟩
  obtain ⟨k, hk, e⟩ := List.mem_iff_getElem.1 (ho.all hl i hi)
  have hik : o.findIdx (· == i) = k := by
    have hm : o.findIdx (· == i) < o.length := List.findIdx_lt_length_of_exists ⟨i, ho.all hl i hi, by simp⟩
    have h1 := List.findIdx_getElem (w := hm)
    have h2 : o[o.findIdx (· == i)] = i := by simpa using h1
    exact nodup_get ho.nodup (x := i) (by rw [List.getElem?_eq_getElem hm, h2]) (by rw [List.getElem?_eq_getElem hk, e])
  have hjt := ho.behind k i (by rw [List.getElem?_eq_getElem hk, e]) j hj
  obtain ⟨m, hm, em⟩ := List.mem_iff_getElem.1 hjt
  rw [List.length_take] at hm
  rw [List.getElem_take] at em
  have : o.findIdx (· == j) ≤ m := by
    rcases Nat.lt_or_ge m (o.findIdx (· == j)) with c | c
    · have h3 := List.not_of_lt_findIdx c
      simp [em] at h3
    · exact c
  show o.findIdx (· == j) < o.findIdx (· == i)
  omega
/-- A net in which each needs smaller ones alone is taken as it stands. -/
theorem taken_range {G : Gr} (h : ∀ i, i < G.n → ∀ j ∈ G.nd i, j < i) : takenG G = List.range G.n := by
  have hf : ∀ k, k < G.n → nextG G (List.range k) = some k := fun k hk => next_of hk (free_iff.2 ⟨by simp, fun j hj => by have := h k hk j hj; simpa using this⟩) (fun j hj hx => by
    have := (free_iff.1 hx).1
    simp at this; exact this)
  have go : ∀ f k, f + k = G.n → goG G f (List.range k) = List.range G.n := by
    intro f
    induction f with
    | zero => intro k e; unfold goG; rw [show k = G.n by omega]
    | succ f ih =>
      intro k e
      unfold goG
      rw [hf k (by omega)]
      show goG G f (List.range k ++ [k]) = _
      rw [← List.range_succ]; exact ih (k + 1) (by omega)
  exact go G.n 0 (by simp)
theorem go_stop {G : Gr} {t : List Nat} (h : nextG G t = none) : ∀ f, goG G f t = t := by
  intro f; cases f with
  | zero => rfl
  | succ f => unfold goG; rw [h]
theorem go_next {G : Gr} {t : List Nat} {i : Nat} (h : nextG G t = some i) (ht : t.length < G.n) : goG G (G.n - t.length) t = goG G (G.n - (t ++ [i]).length) (t ++ [i]) := by
  obtain ⟨f, hf⟩ : ∃ f, G.n - t.length = f + 1 := ⟨G.n - t.length - 1, by omega⟩
  rw [hf, List.length_append, List.length_singleton, show G.n - (t.length + 1) = f by omega]
  show (match nextG G t with | none => t | some i => goG G f (t ++ [i])) = _
  rw [h]

/-! ### The search for a way round -/
/-- Each is needed by the one behind it. -/
def Ch (G : Gr) : List Nat → Prop
  | [] => True
  | [_] => True
  | y :: x :: r => y ∈ G.nd x ∧ Ch G (x :: r)
/-- Of the states: which are being asked (the way here, the last one first), which are done (in this order). -/
structure Dfs (G : Gr) (S : List Int) (P t : List Nat) : Prop where
  len : S.length = G.n
  kind : ∀ (i : Nat) (x : Int), S[i]? = some x → (x = 0 ∧ i ∉ P ∧ i ∉ t) ∨ (x = 1 ∧ i ∈ P) ∨ (x = 2 ∧ i ∈ t)
  open' : ∀ i ∈ P, S[i]? = some 1
  done' : ∀ i ∈ t, S[i]? = some 2
  valid : Valid G t
  chain : Ch G P
  pnd : P.Nodup
theorem Dfs.begin (G : Gr) : Dfs G (List.replicate G.n 0) [] [] :=
  ⟨by simp, fun i x h => .inl ⟨by rw [List.getElem?_replicate] at h; split at h <;> simp_all, by simp, by simp⟩, fun i h => by simp at h, fun i h => by simp at h, Valid.nil G, trivial, List.nodup_nil⟩
theorem chain_rank {G : Gr} {r : Nat → Nat} (hr : ∀ i, i < G.n → ∀ j ∈ G.nd i, r j < r i) : ∀ (P : List Nat) (p : Nat), Ch G (p :: P) → (∀ i ∈ p :: P, i < G.n) → ∀ i ∈ p :: P, r p ≤ r i := by
  intro P
  induction P with
  | nil => intro p _ _ i hi; simp at hi; subst hi; exact Nat.le_refl _
  | cons q P ih =>
    intro p hc hl i hi
    rcases List.mem_cons.1 hi with rfl | hi
    · exact Nat.le_refl _
    · have h1 := ih q hc.2 (fun i hi => hl i (List.mem_cons_of_mem _ hi)) i hi
      have h2 := hr q (hl q (by simp)) p hc.1
      omega
/-- What is being asked comes back: there is no order. -/
theorem Dfs.round {G : Gr} {S : List Int} {p : Nat} {P t : List Nat} (h : Dfs G S (p :: P) t) {i : Nat} (hi : i ∈ G.nd p) (ho : S[i]? = some 1) : okG G = false := by
  cases hk : okG G with
  | false => rfl
  | true =>
    exfalso
    obtain ⟨r, hr⟩ := valid_rank (taken_valid G) (Nat.le_of_eq (ok_len hk).symm)
    have hl : ∀ i ∈ p :: P, i < G.n := fun i hi => by
      have := (List.getElem?_eq_some_iff.1 (h.open' i hi)).1
      rw [h.len] at this; exact this
    have hiP : i ∈ p :: P := by
      rcases h.kind i 1 ho with h1 | h1 | h1
      · omega
      · exact h1.2
      · omega
    have h1 := chain_rank hr P p h.chain hl i hiP
    have h2 := hr p (hl p (by simp)) i hi
    omega
/-- One more is being asked. -/
theorem Dfs.opened {G : Gr} {S : List Int} {P t : List Nat} (h : Dfs G S P t) {i : Nat} (h0 : S[i]? = some 0) (hp : ∀ p Q, P = p :: Q → i ∈ G.nd p) : Dfs G (S.set i 1) (i :: P) t := by
  have hil := (List.getElem?_eq_some_iff.1 h0).1
  have hne : i ∉ P ∧ i ∉ t := by
    rcases h.kind i 0 h0 with h1 | h1 | h1
    · exact h1.2
    · omega
    · omega
  refine ⟨by rw [List.length_set]; exact h.len, fun j x hx => ?_, fun j hj => ?_, fun j hj => ?_, h.valid, ?_, List.nodup_cons.2 ⟨hne.1, h.pnd⟩⟩
  · rw [List.getElem?_set] at hx
    by_cases e : i = j
    · subst e
      simp [hil] at hx
      exact .inr (.inl ⟨hx.symm, by simp⟩)
    · rw [if_neg e] at hx
      rcases h.kind j x hx with h1 | h1 | h1
      · exact .inl ⟨h1.1, by simp only [List.mem_cons, not_or]; exact ⟨fun e2 => e e2.symm, h1.2.1⟩, h1.2.2⟩
      · exact .inr (.inl ⟨h1.1, List.mem_cons_of_mem _ h1.2⟩)
      · exact .inr (.inr h1)
  · rw [List.getElem?_set]
    by_cases e : i = j
    · subst e; simp [hil]
    · rw [if_neg e]
      rcases List.mem_cons.1 hj with e2 | hj
      · exact absurd e2.symm e
      · exact h.open' j hj
  · rw [List.getElem?_set, if_neg (show ¬ i = j from fun e => hne.2 (e ▸ hj))]
    exact h.done' j hj
  · cases P with
    | nil => trivial
    | cons p Q => exact ⟨hp p Q rfl, h.chain⟩
/-- It is done. -/
theorem Dfs.closed {G : Gr} {S : List Int} {i : Nat} {P t : List Nat} (h : Dfs G S (i :: P) t) (ha : ∀ j ∈ G.nd i, j ∈ t) : Dfs G (S.set i 2) P (t ++ [i]) := by
  have hS := h.open' i (by simp)
  have hil := (List.getElem?_eq_some_iff.1 hS).1
  have hit : i ∉ t := fun e => by have := h.done' i e; rw [hS] at this; simp at this
  have hiP := (List.nodup_cons.1 h.pnd).1
  refine ⟨by rw [List.length_set]; exact h.len, fun j x hx => ?_, fun j hj => ?_, fun j hj => ?_, h.valid.snoc (by rw [← h.len]; exact hil) (free_iff.2 ⟨hit, ha⟩), ?_, (List.nodup_cons.1 h.pnd).2⟩
  · rw [List.getElem?_set] at hx
    by_cases e : i = j
    · subst e
      simp [hil] at hx
      exact .inr (.inr ⟨hx.symm, by simp⟩)
    · rw [if_neg e] at hx
      rcases h.kind j x hx with h1 | h1 | h1
      · exact .inl ⟨h1.1, fun e2 => h1.2.1 (List.mem_cons_of_mem _ e2), by simp only [List.mem_append, List.mem_singleton, not_or]; exact ⟨h1.2.2, fun e2 => e e2.symm⟩⟩
      · rcases List.mem_cons.1 h1.2 with e2 | h2
        · exact absurd e2.symm e
        · exact .inr (.inl ⟨h1.1, h2⟩)
      · exact .inr (.inr ⟨h1.1, List.mem_append_left _ h1.2⟩)
  · rw [List.getElem?_set, if_neg (show ¬ i = j from fun e => hiP (e ▸ hj))]
    exact h.open' j (List.mem_cons_of_mem _ hj)
  · rw [List.getElem?_set]
    by_cases e : i = j
    · subst e; simp [hil]
    · rw [if_neg e]
      rcases List.mem_append.1 hj with hj | hj
      · exact h.done' j hj
      · simp at hj; exact absurd hj.symm e
  · cases P with
    | nil => trivial
    | cons p Q => exact h.chain.2
/-- How many are not seen yet. -/
def unseen (S : List Int) : Nat := S.countP (· == 0)
theorem unseen_open {S : List Int} {i : Nat} (h : S[i]? = some 0) : unseen (S.set i 1) + 1 = unseen S := by
  obtain ⟨h1, h2⟩ := List.getElem?_eq_some_iff.1 h
  unfold unseen
  rw [List.countP_set h1]
  have : 0 < S.countP (· == 0) := List.countP_pos_iff.2 ⟨0, h2 ▸ List.getElem_mem h1, by simp⟩
  simp [h2]; omega
theorem unseen_done {S : List Int} {i : Nat} (h : S[i]? = some 1) : unseen (S.set i 2) = unseen S := by
  obtain ⟨h1, h2⟩ := List.getElem?_eq_some_iff.1 h
  unfold unseen
  rw [List.countP_set h1]
  simp [h2]
/-- All are done, none comes back. -/
theorem Dfs.full {G : Gr} {S : List Int} {t : List Nat} (h : Dfs G S [] t) (ha : ∀ i, i < G.n → i ∈ t) : okG G = true := ok_of h.valid (range_le _ _ ha)
end Go.Proofs.Ytcphjehjdhgheaa.Nt
