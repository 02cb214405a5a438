import Derived.Test.YtgngdkbcndldfaaDoorFrN
set_option linter.unusedVariables false
set_option linter.unusedSimpArgs false
set_option linter.unnecessarySimpa false
namespace Go.Proofs.YtgngdkbcndldfaaDoor.Fr
open Go.Lib

/- What is read, and what is written, as plain functions. -/
def trueB : Bs := [116, 114, 117, 101]
def falseB : Bs := [102, 97, 108, 115, 101]
def numberM (t : Int) (w : Bs) : Option Int :=
  if t = 1 then (if w = trueB then some 1 else if w = falseB then some 0 else none) else if t = 2 then intM w else none
def rowM : List Int → List Bs → Option (List Int)
  | [], [] => some []
  | t :: ts, w :: ws => match numberM t w, rowM ts ws with | some n, some r => some (n :: r) | _, _ => none
  | _, _ => none
def goM (ts : List Int) : List Bs → List (List Int) × Bool
  | [] => ([], true)
  | l :: ls => match rowM ts (wordsM l) with
    | none => ([], false)
    | some r => (r :: (goM ts ls).1, (goM ts ls).2)
def readM (ts : List Int) (s : Bs) : List (List Int) × Int × Int :=
  if 100000 < s.length ∨ 200 < ts.length then ([], 7, -1)
  else if (goM ts (linesM s)).2 = true then ((goM ts (linesM s)).1, 0, 0) else ((goM ts (linesM s)).1, 17, ((goM ts (linesM s)).1.length : Int))

def mayM (t n : Int) : Bool := (decide (t = 2) && fitsM n) || (decide (t = 1) && (decide (n = 0) || decide (n = 1)))
def textM (t n : Int) : Bs := if t = 1 then (if n = 1 then trueB else falseB) else itoa n
def okRowM (ts r : List Int) : Bool := decide (r.length = ts.length) && (List.zipWith mayM ts r).all id
def lineM (ts r : List Int) : Bs := join (List.zipWith textM ts r) [32] ++ [10]
def kindM (t : Int) : Bool := decide (t = 1) || decide (t = 2)
def writeM (ts : List Int) (rows : List (List Int)) : Option Bs :=
  if 200 < ts.length ∨ ts.all kindM = false then none
  else if rows.all (okRowM ts) = true then some (rows.flatMap (lineM ts)) else none

theorem rowM_none_len : ∀ (ts : List Int) (ws : List Bs), ws.length ≠ ts.length → rowM ts ws = none
  | [], [], h => absurd rfl h
  | t :: ts, [], _ => rfl
  | [], w :: ws, _ => rfl
  | t :: ts, w :: ws, h => by
    have := rowM_none_len ts ws (fun e => h (by simp [e]))
    simp only [rowM, this]
    cases numberM t w <;> rfl

theorem rowM_iff : ∀ (ts : List Int) (ws : List Bs) (r : List Int), rowM ts ws = some r ↔ ws.length = ts.length ∧ r.length = ts.length ∧ ∀ (i : Nat) (t : Int) (w : Bs) (n : Int), ts[i]? = some t → ws[i]? = some w → r[i]? = some n → numberM t w = some n
  | [], [], r => by
    simp only [rowM, Option.some.injEq, List.length_nil, true_and]
    constructor
    · rintro rfl; simp
    · rintro ⟨h, _⟩; exact (List.length_eq_zero_iff.1 h).symm
  | t :: ts, [], r => by simp [rowM]
  | [], w :: ws, r => by simp [rowM]
  | t :: ts, w :: ws, r => by
    have ih := rowM_iff ts ws
    constructor
    · intro h
      simp only [rowM] at h
      revert h
      cases hn : numberM t w with
      | none => intro h; cases h
      | some n =>
        cases hr : rowM ts ws with
        | none => intro h; cases h
        | some r' =>
          intro h
          cases h
          obtain ⟨h1, h2, h3⟩ := (ih r').1 hr
          refine ⟨by simp [h1], by simp [h2], fun i t' w' n' ha hb hc => ?_⟩
          cases i with
          | zero => simp at ha hb hc; rw [← ha, ← hb, ← hc]; exact hn
          | succ i => exact h3 i t' w' n' (by simpa using ha) (by simpa using hb) (by simpa using hc)
    · rintro ⟨h1, h2, h3⟩
      cases r with
      | nil => simp at h2
      | cons n r' =>
        have hn := h3 0 t w n rfl rfl rfl
        have hr := (ih r').2 ⟨by simpa using h1, by simpa using h2, fun i t' w' n' ha hb hc => h3 (i + 1) t' w' n' (by simpa using ha) (by simpa using hb) (by simpa using hc)⟩
        simp only [rowM, hn, hr]

theorem rowM_bad (ts : List Int) (ws : List Bs) (i : Nat) (t : Int) (w : Bs) (ht : ts[i]? = some t) (hw : ws[i]? = some w) (hb : numberM t w = none) : rowM ts ws = none := by
  cases h : rowM ts ws with
  | none => rfl
  | some r =>
    obtain ⟨h1, h2, h3⟩ := (rowM_iff ts ws r).1 h
    have hi := (List.getElem?_eq_some_iff.1 ht).1
    have := h3 i t w _ ht hw (List.getElem?_eq_getElem (by rw [h2]; exact hi))
    rw [hb] at this; cases this

theorem goM_none {ts : List Int} {l : Bs} (ls : List Bs) (h : rowM ts (wordsM l) = none) : goM ts (l :: ls) = ([], false) := by simp only [goM, h]
theorem goM_some {ts : List Int} {l : Bs} {r : List Int} (ls : List Bs) (h : rowM ts (wordsM l) = some r) : goM ts (l :: ls) = (r :: (goM ts ls).1, (goM ts ls).2) := by simp only [goM, h]

theorem goM_append (ts : List Int) : ∀ (a b : List Bs), goM ts (a ++ b) = if (goM ts a).2 = true then ((goM ts a).1 ++ (goM ts b).1, (goM ts b).2) else goM ts a
  | [], b => by simp [goM]
  | l :: a, b => by
    rw [List.cons_append]
    rcases hr : rowM ts (wordsM l) with _ | r
    · rw [goM_none _ hr, goM_none _ hr]; rfl
    · rw [goM_some _ hr, goM_some _ hr, goM_append ts a b]
      show _ = if (goM ts a).2 = true then _ else _
      by_cases h : (goM ts a).2 = true
      · rw [if_pos h, if_pos h]; simp
      · rw [if_neg h, if_neg h]

theorem goM_len (ts : List Int) : ∀ (a : List Bs), (goM ts a).1.length ≤ a.length ∧ ((goM ts a).2 = true → (goM ts a).1.length = a.length)
  | [] => by simp [goM]
  | l :: a => by
    have ih := goM_len ts a
    simp only [goM]
    cases rowM ts (wordsM l) with
    | none => simp
    | some r => simp; exact ih

theorem goM_snoc_ok (ts : List Int) (a : List Bs) (l : Bs) (r : List Int) (h : (goM ts a).2 = true) (hr : rowM ts (wordsM l) = some r) : goM ts (a ++ [l]) = ((goM ts a).1 ++ [r], true) := by
  rw [goM_append, if_pos h]
  simp only [goM, hr]

theorem goM_stop (ts : List Int) (a : List Bs) (l : Bs) (b : List Bs) (h : (goM ts a).2 = true) (hr : rowM ts (wordsM l) = none) : goM ts (a ++ l :: b) = ((goM ts a).1, false) := by
  rw [goM_append, if_pos h]
  simp only [goM, hr, List.append_nil]

theorem goM_rows (ts : List Int) : ∀ (a : List Bs) (r : List Int), r ∈ (goM ts a).1 → ∃ l ∈ a, rowM ts (wordsM l) = some r
  | [], r, h => by simp [goM] at h
  | l :: a, r, h => by
    simp only [goM] at h
    revert h
    cases hr : rowM ts (wordsM l) with
    | none => intro h; simp at h
    | some r' =>
      intro h
      simp only [List.mem_cons] at h
      rcases h with rfl | h
      · exact ⟨l, by simp, hr⟩
      · obtain ⟨l', h1, h2⟩ := goM_rows ts a r h
        exact ⟨l', by simp [h1], h2⟩

/- What is written is read. -/
theorem word_of_true : ∀ c ∈ trueB, c ≠ 32 ∧ c ≠ 10 := by decide
theorem word_of_false : ∀ c ∈ falseB, c ≠ 32 ∧ c ≠ 10 := by decide
theorem word_of_dec (u : Nat) : ∀ c ∈ decDigits u, c ≠ 32 ∧ c ≠ 10 := by
  induction u using Nat.strongRecOn with
  | _ u ih =>
    intro c hc
    have one : ∀ d, d < 10 → (UInt8.ofNat (48 + d)) ≠ 32 ∧ (UInt8.ofNat (48 + d)) ≠ 10 := fun d hd => by
      have := dig_byte d hd
      constructor <;> (intro e; rw [e] at this; revert this; show ¬ _; intro h; revert h; decide +revert)
    by_cases hu : u < 10
    · rw [decDigits_one hu] at hc
      rw [List.mem_singleton] at hc
      rw [hc]; exact one u hu
    · rw [decDigits, dif_neg hu, List.mem_append] at hc
      rcases hc with hc | hc
      · exact ih (u / 10) (by omega) c hc
      · rw [List.mem_singleton] at hc
        rw [hc]; exact one _ (by omega)

theorem word_of_text (t n : Int) : ∀ c ∈ textM t n, c ≠ 32 ∧ c ≠ 10 := by
  unfold textM
  split
  · split
    · exact word_of_true
    · exact word_of_false
  · unfold itoa
    split
    · intro c hc
      simp only [List.mem_cons] at hc
      rcases hc with rfl | hc
      · decide
      · exact word_of_dec _ c hc
    · exact word_of_dec _

theorem text_ne (t n : Int) : textM t n ≠ [] := by
  unfold textM
  split
  · split <;> decide
  · unfold itoa
    split
    · simp
    · exact dec_ne _

theorem number_text (t n : Int) (h : mayM t n = true) : numberM t (textM t n) = some n := by
  unfold mayM at h
  simp only [Bool.or_eq_true, Bool.and_eq_true, decide_eq_true_eq] at h
  rcases h with ⟨rfl, h⟩ | ⟨rfl, h⟩
  · unfold numberM textM
    rw [if_neg (by decide), if_pos rfl, if_neg (by decide)]
    exact (intM_iff _ n).2 ⟨h, rfl⟩
  · rcases h with rfl | rfl <;> decide

theorem text_number (t n : Int) (w : Bs) (h : numberM t w = some n) : mayM t n = true ∧ textM t n = w := by
  unfold numberM at h
  split at h
  · rename_i ht
    subst ht
    split at h
    · rename_i e; cases h; exact ⟨by decide, e.symm⟩
    · split at h
      · rename_i e; cases h; exact ⟨by decide, e.symm⟩
      · cases h
  · split at h
    · rename_i ht1 ht
      subst ht
      obtain ⟨h1, h2⟩ := (intM_iff w n).1 h
      refine ⟨by simp [mayM, h1], ?_⟩
      unfold textM
      rw [if_neg ht1]
      exact h2
    · cases h

theorem words_join : ∀ (ws : List Bs), (∀ w ∈ ws, w ≠ [] ∧ (32 : UInt8) ∉ w) → wordsM (join ws [32]) = ws
  | [], _ => rfl
  | [w], h => by
    rw [join_one]
    unfold wordsM
    have := wordsG_run [] w [] (h w (by simp)).2
    rw [List.append_nil] at this
    rw [this, List.nil_append, wordsG_end, if_neg (h w (by simp)).1]
  | w :: v :: ws, h => by
    have e : join (w :: v :: ws) [32] = w ++ 32 :: join (v :: ws) [32] := by
      unfold join; simp [List.intercalate]
    have ih := words_join (v :: ws) (fun x hx => h x (by simp at hx ⊢; exact .inr hx))
    rw [e]
    unfold wordsM at ih ⊢
    rw [wordsG_run [] w _ (h w (by simp)).2, List.nil_append, wordsG_blank _ _ (h w (by simp)).1, ih]

theorem zip_mem {α β γ : Type} (f : α → β → γ) : ∀ (a : List α) (b : List β) (x : γ), x ∈ List.zipWith f a b → ∃ p q, x = f p q
  | [], _, x, h => by simp at h
  | _ :: _, [], x, h => by simp at h
  | p :: a, q :: b, x, h => by
    simp only [List.zipWith_cons_cons, List.mem_cons] at h
    rcases h with rfl | h
    · exact ⟨p, q, rfl⟩
    · exact zip_mem f a b x h

theorem words_line (ts r : List Int) : wordsM (join (List.zipWith textM ts r) [32]) = List.zipWith textM ts r :=
  words_join _ (fun w hw => by
    obtain ⟨p, q, rfl⟩ := zip_mem textM ts r w hw
    exact ⟨text_ne p q, fun h => (word_of_text p q 32 h).1 rfl⟩)

theorem row_line : ∀ (ts r : List Int), okRowM ts r = true → rowM ts (List.zipWith textM ts r) = some r
  | [], r, h => by
    simp [okRowM] at h
    subst h; rfl
  | t :: ts, [], h => by simp [okRowM] at h
  | t :: ts, n :: r, h => by
    simp only [okRowM, List.length_cons, List.zipWith_cons_cons, List.all_cons, id, Bool.and_eq_true, decide_eq_true_eq] at h
    have ih := row_line ts r (by simp only [okRowM, Bool.and_eq_true, decide_eq_true_eq]; exact ⟨by omega, h.2.2⟩)
    simp only [List.zipWith_cons_cons, rowM, number_text t n h.2.1, ih]

theorem ten_join : ∀ (ws : List Bs), (∀ w ∈ ws, (10 : UInt8) ∉ w) → (10 : UInt8) ∉ join ws [32]
  | [], _ => by simp [join]
  | [w], h => by rw [join_one]; exact h w (by simp)
  | w :: v :: ws, h => by
    have e : join (w :: v :: ws) [32] = w ++ 32 :: join (v :: ws) [32] := by
      unfold join; simp [List.intercalate]
    have ih := ten_join (v :: ws) (fun x hx => h x (by simp at hx ⊢; exact .inr hx))
    rw [e]
    simp only [List.mem_append, List.mem_cons, not_or]
    exact ⟨h w (by simp), by decide, ih⟩

theorem ten_line (ts r : List Int) : (10 : UInt8) ∉ join (List.zipWith textM ts r) [32] :=
  ten_join _ (fun w hw h => by
    obtain ⟨p, q, rfl⟩ := zip_mem textM ts r w hw
    exact (word_of_text p q 10 h).2 rfl)

theorem lines_written (ts : List Int) : ∀ rows : List (List Int), linesM (rows.flatMap (lineM ts)) = rows.map fun r => join (List.zipWith textM ts r) [32]
  | [] => rfl
  | r :: rows => by
    simp only [List.flatMap_cons, List.map_cons, lineM, List.append_assoc, List.cons_append, List.nil_append]
    rw [lines_cut _ _ (ten_line ts r)]
    congr 1
    exact lines_written ts rows

theorem go_written (ts : List Int) : ∀ rows : List (List Int), rows.all (okRowM ts) = true → goM ts (rows.map fun r => join (List.zipWith textM ts r) [32]) = (rows, true)
  | [], _ => rfl
  | r :: rows, h => by
    simp only [List.all_cons, Bool.and_eq_true] at h
    have ih := go_written ts rows h.2
    simp only [List.map_cons, goM, words_line, row_line ts r h.1, ih]

theorem write_read (ts : List Int) (rows : List (List Int)) (t : Bs) (h : writeM ts rows = some t) (hl : t.length ≤ 100000) : readM ts t = (rows, 0, 0) := by
  unfold writeM at h
  split at h
  · cases h
  · rename_i h1
    split at h
    · rename_i h2
      cases h
      unfold readM
      rw [if_neg (fun e => by rcases e with e | e; omega; exact h1 (.inl e)), lines_written, go_written ts rows h2]
      rfl
    · cases h

theorem dec_len (u : Nat) (h : u ≤ 2147483648) : (decDigits u).length ≤ 10 := by
  have e : sizeM (decDigits u) = u := sizeM_dec u (by omega)
  unfold sizeM at e
  split at e
  · omega
  · rename_i h1
    exact Nat.le_of_not_lt (fun l => h1 (.inr (.inl l)))

theorem text_len (t n : Int) (h : mayM t n = true) : (textM t n).length ≤ 11 := by
  unfold mayM at h
  simp only [Bool.or_eq_true, Bool.and_eq_true, decide_eq_true_eq] at h
  rcases h with ⟨rfl, h⟩ | ⟨rfl, h⟩
  · have hf := (fitsM_iff n).1 h
    unfold textM
    rw [if_neg (by decide)]
    unfold itoa
    split
    · have := dec_len n.natAbs (by omega)
      simp; omega
    · have := dec_len n.toNat (by omega)
      omega
  · rcases h with rfl | rfl <;> decide

theorem join_len : ∀ (ws : List Bs) (k : Nat), (∀ w ∈ ws, w.length ≤ k) → (join ws [32]).length + 1 ≤ ws.length * (k + 1) + 1
  | [], k, _ => by simp [join]
  | [w], k, h => by rw [join_one]; have := h w (by simp); simp; omega
  | w :: v :: ws, k, h => by
    have e : join (w :: v :: ws) [32] = w ++ 32 :: join (v :: ws) [32] := by
      unfold join; simp [List.intercalate]
    have ih := join_len (v :: ws) k (fun x hx => h x (by simp at hx ⊢; exact .inr hx))
    have := h w (by simp)
    rw [e]
    simp only [List.length_append, List.length_cons, Nat.succ_mul] at ih ⊢
    omega

theorem okRow_may (ts r : List Int) (h : okRowM ts r = true) : r.length = ts.length ∧ ∀ w ∈ List.zipWith textM ts r, w.length ≤ 11 := by
  simp only [okRowM, Bool.and_eq_true, decide_eq_true_eq] at h
  refine ⟨h.1, ?_⟩
  replace h := h.2
  intro w hw
  induction ts generalizing r with
  | nil => simp at hw
  | cons t ts ih =>
    cases r with
    | nil => simp at hw
    | cons n r =>
      simp only [List.zipWith_cons_cons, List.all_cons, id, Bool.and_eq_true, List.mem_cons] at h hw
      rcases hw with rfl | hw
      · exact text_len t n h.1
      · exact ih r h.2 hw

theorem line_len (ts r : List Int) (h : okRowM ts r = true) : (lineM ts r).length ≤ ts.length * 12 + 1 := by
  obtain ⟨h1, h2⟩ := okRow_may ts r h
  have := join_len _ 11 h2
  have hl : (List.zipWith textM ts r).length = ts.length := by rw [List.length_zipWith, h1]; omega
  unfold lineM
  rw [hl] at this
  simp
  omega

theorem written_len (ts : List Int) : ∀ rows : List (List Int), rows.all (okRowM ts) = true → (rows.flatMap (lineM ts)).length ≤ rows.length * (ts.length * 12 + 1)
  | [], _ => by simp
  | r :: rows, h => by
    simp only [List.all_cons, Bool.and_eq_true] at h
    have ih := written_len ts rows h.2
    have := line_len ts r h.1
    simp only [List.flatMap_cons, List.length_append, List.length_cons, Nat.succ_mul] at ih ⊢
    omega

/- What is read can be written, and is no longer then. -/
theorem words_less : ∀ (s p : Bs), (join (wordsG p s) [32]).length ≤ p.length + s.length
  | [], p => by
    rw [wordsG_end]
    split
    · simp [join]
    · rw [join_one]; simp
  | c :: r, p => by
    simp only [wordsG]
    split
    · split
      · have := words_less r []
        simp at this ⊢; omega
      · have ih := words_less r []
        cases hw : wordsG [] r with
        | nil => rw [join_one]; simp only [List.length_cons]; omega
        | cons v ws =>
          have e : join (p :: v :: ws) [32] = p ++ 32 :: join (v :: ws) [32] := by
            unfold join; simp [List.intercalate]
          rw [hw] at ih
          rw [e]
          simp at ih ⊢; omega
    · have := words_less r (p ++ [c])
      simp at this ⊢; omega

theorem row_back : ∀ (ts : List Int) (ws : List Bs) (r : List Int), rowM ts ws = some r → okRowM ts r = true ∧ List.zipWith textM ts r = ws
  | [], [], r, h => by cases h; exact ⟨rfl, rfl⟩
  | t :: ts, [], r, h => by cases h
  | [], w :: ws, r, h => by cases h
  | t :: ts, w :: ws, r, h => by
    simp only [rowM] at h
    revert h
    cases hn : numberM t w with
    | none => intro h; cases h
    | some n =>
      cases hr : rowM ts ws with
      | none => intro h; cases h
      | some r' =>
        intro h
        cases h
        obtain ⟨h1, h2⟩ := row_back ts ws r' hr
        obtain ⟨h3, h4⟩ := text_number t n w hn
        simp only [okRowM, Bool.and_eq_true, decide_eq_true_eq] at h1
        refine ⟨?_, by simp [h2, h4]⟩
        simp only [okRowM, List.length_cons, List.zipWith_cons_cons, List.all_cons, id, Bool.and_eq_true, decide_eq_true_eq]
        exact ⟨by omega, h3, h1.2⟩

theorem go_ok (ts : List Int) (a : List Bs) : (goM ts a).1.all (okRowM ts) = true := by
  rw [List.all_eq_true]
  intro r hr
  obtain ⟨l, _, h⟩ := goM_rows ts a r hr
  exact (row_back ts _ r h).1

theorem go_less (ts : List Int) : ∀ a : List Bs, ((goM ts a).1.flatMap (lineM ts)).length ≤ (a.map fun l => l.length + 1).sum
  | [] => by simp [goM]
  | l :: a => by
    have ih := go_less ts a
    simp only [goM]
    cases hr : rowM ts (wordsM l) with
    | none => simp
    | some r =>
      have h2 := (row_back ts _ r hr).2
      have h3 := words_less l []
      simp only [List.flatMap_cons, List.length_append, List.map_cons, List.sum_cons, lineM, h2, List.length_cons, List.length_nil]
      unfold wordsM
      simp at h3
      omega

theorem lines_sum : ∀ s : Bs, ((linesM s).map fun l => l.length + 1).sum ≤ s.length + 1
  | [] => by simp [linesM]
  | c :: r => by
    have ih := lines_sum r
    simp only [linesM]
    split
    · simp; omega
    · cases hl : linesM r with
      | nil => simp
      | cons l ls => rw [hl] at ih; simp at ih ⊢; omega

theorem kinds_of_row (ts : List Int) (ws : List Bs) (r : List Int) (h : rowM ts ws = some r) : ts.all kindM = true := by
  induction ts generalizing ws r with
  | nil => rfl
  | cons t ts ih =>
    cases ws with
    | nil => cases h
    | cons w ws =>
      simp only [rowM] at h
      revert h
      cases hn : numberM t w with
      | none => intro h; cases h
      | some n =>
        cases hr : rowM ts ws with
        | none => intro h; cases h
        | some r' =>
          intro _
          simp only [List.all_cons, Bool.and_eq_true]
          refine ⟨?_, ih ws r' hr⟩
          have := (text_number t n w hn).1
          unfold mayM at this
          unfold kindM
          simp only [Bool.or_eq_true, Bool.and_eq_true, decide_eq_true_eq] at this ⊢
          rcases this with h | h
          · exact .inr h.1
          · exact .inl h.1

/-- What is read, and is some, can be written: it is no longer than what was read, and a line's end. -/
theorem read_write (ts : List Int) (s : Bs) (hl : s.length ≤ 2000) (ht : ts.length ≤ 60) (h : (readM ts s).1 ≠ []) :
    ∃ t, writeM ts (readM ts s).1 = some t ∧ t.length ≤ 2001 := by
  have e : (readM ts s).1 = (goM ts (linesM s)).1 := by
    unfold readM
    rw [if_neg (by omega)]
    split <;> rfl
  rw [e] at h ⊢
  have hk : ts.all kindM = true := by
    cases hr : (goM ts (linesM s)).1 with
    | nil => exact absurd hr h
    | cons r rs =>
      obtain ⟨l, _, h'⟩ := goM_rows ts (linesM s) r (by rw [hr]; simp)
      exact kinds_of_row ts _ r h'
  refine ⟨(goM ts (linesM s)).1.flatMap (lineM ts), ?_, ?_⟩
  · unfold writeM
    rw [if_neg (fun x => by rcases x with x | x; omega; rw [hk] at x; cases x), if_pos (go_ok ts _)]
  · have := go_less ts (linesM s)
    have := lines_sum s
    omega
end Go.Proofs.YtgngdkbcndldfaaDoor.Fr
