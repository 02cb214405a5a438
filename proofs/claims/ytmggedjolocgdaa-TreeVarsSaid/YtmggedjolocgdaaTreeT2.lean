/- The names in an expression; what is put and what is joined, of expressions that may be. Conditions: none. -/
import Derived.Test.YtmggedjolocgdaaTreeT
namespace Go.Proofs.Ytmggedjolocgdaa.Tr
open Go.RowKit
set_option linter.unusedVariables false
set_option linter.unusedSimpArgs false

/-- The labels of a tree's nodes, in order. -/
def T.labs : T → List Lab
  | .l0 x => [x] | .l1 x p => p.labs ++ [x] | .l2 x p q => p.labs ++ q.labs ++ [x] | .l3 x p q r => p.labs ++ q.labs ++ r.labs ++ [x]
theorem flat_labs (t : T) : ∀ b, (t.flat b).map Nd.lab = t.labs := by
  induction t with
  | l0 x => intro b; simp [T.flat, T.labs, mkL_lab]
  | l1 x p ih => intro b; simp [T.flat, T.labs, mkL_lab, ih]
  | l2 x p q ih1 ih2 => intro b; simp [T.flat, T.labs, mkL_lab, ih1, ih2]
  | l3 x p q r ih1 ih2 ih3 => intro b; simp [T.flat, T.labs, mkL_lab, ih1, ih2, ih3]
theorem mkT_labs (x : Lab) (l : List T) (h : l.length ≤ 3) : (mkT x l).labs = l.flatMap T.labs ++ [x] := by
  match l, h with
  | [], _ => rfl
  | [p], _ => simp [mkT, T.labs]
  | [p, q], _ => simp [mkT, T.labs]
  | [p, q, r], _ => simp [mkT, T.labs]
theorem tree_labs {e : List Nd} (h : Ahead e) : ∀ i, i < e.length → (tree e i).labs = (desc e i).map fun j => (e.getD j default).lab := by
  intro i
  induction i using Nat.strongRecOn with
  | ind i ih =>
    intro hi
    have hn := of_getD hi
    rw [tree_eq h hn, desc_eq h hn, mkT_labs _ _ (by rw [List.length_map]; exact kids_small _), List.map_append, List.map_flatMap, List.flatMap_map]
    congr 1
    rw [List.flatMap_def, List.flatMap_def]
    congr 1
    apply List.map_congr_left
    intro k hk
    have := h i _ hn k hk
    exact ih k.toNat (by omega) (by omega)
theorem May.lab_mem {e : List Nd} (h : May e) {i : Nat} {x : Nd} (hx : e[i]? = some x) : x.lab ∈ (root e).labs := by
  have hi := (List.getElem?_eq_some_iff.1 hx).1
  unfold root
  rw [tree_labs h.ahead _ (by omega), List.mem_map]
  exact ⟨i, h.all _ i (Nat.le_refl _) hi, by rw [getD_of hx]⟩
theorem ok_labs (t : T) : t.okB = true → ∀ x ∈ t.labs, plainB x = true := by
  induction t with
  | l0 x => intro h y hy; simp only [T.okB, Bool.and_eq_true] at h; simp [T.labs] at hy; subst hy; exact h.1
  | l1 x p ih =>
    intro h y hy; simp only [T.okB, Bool.and_eq_true] at h; simp [T.labs] at hy
    rcases hy with hy | rfl
    · exact ih h.2 y hy
    · exact h.1.1.1
  | l2 x p q ih1 ih2 =>
    intro h y hy; simp only [T.okB, Bool.and_eq_true] at h; simp [T.labs] at hy
    rcases hy with hy | hy | rfl
    · exact ih1 h.1.2 y hy
    · exact ih2 h.2 y hy
    · exact h.1.1.1.1
  | l3 x p q r ih1 ih2 ih3 =>
    intro h y hy; simp only [T.okB, Bool.and_eq_true] at h; simp [T.labs] at hy
    rcases hy with hy | hy | hy | rfl
    · exact ih1 h.1.1.2 y hy
    · exact ih2 h.1.2 y hy
    · exact ih3 h.2 y hy
    · exact h.1.1.1.1.1

/-- The names of Vars, each once. -/
def addName (acc : List Bytes) (x : Nd) : List Bytes := if x.op = 3 then (if acc.contains x.name then acc else acc ++ [x.name]) else acc
def varsOf (e : List Nd) : List Bytes := e.foldl addName []
theorem varsOf_next (e : List Nd) (k : Nat) (x : Nd) (h : e[k]? = some x) : varsOf (e.take (k + 1)) = addName (varsOf (e.take k)) x := by
  unfold varsOf; rw [List.take_add_one, h, show (some x).toList = [x] from rfl, List.foldl_append]; rfl
theorem addName_lab (acc : List Bytes) (x y : Nd) (h : x.lab = y.lab) : addName acc x = addName acc y := by
  have h1 : x.op = y.op := congrArg Lab.op h
  have h2 : x.name = y.name := congrArg Lab.name h
  unfold addName; rw [h1, h2]
theorem vars_lab (e m : List Nd) : e.map Nd.lab = m.map Nd.lab → ∀ acc, e.foldl addName acc = m.foldl addName acc := by
  intro h
  induction e generalizing m with
  | nil => cases m with
    | nil => intro _; rfl
    | cons b s => simp at h
  | cons a r ih =>
    cases m with
    | nil => simp at h
    | cons b s =>
      simp only [List.map_cons, List.cons.injEq] at h
      intro acc
      rw [List.foldl_cons, List.foldl_cons, addName_lab acc a b h.1, ih s h.2]
/-- What more nodes add: names that stand in them, none that was there, each once. -/
theorem vars_ext (e : List Nd) : ∀ acc : List Bytes, ∃ R, e.foldl addName acc = acc ++ R ∧ R.Nodup ∧ (∀ s ∈ R, s ∉ acc ∧ ∃ x ∈ e, x.op = 3 ∧ x.name = s) ∧ ∀ x ∈ e, x.op = 3 → x.name ∈ acc ++ R := by
  induction e with
  | nil => intro acc; exact ⟨[], by simp, by simp, by simp, by simp⟩
  | cons a r ih =>
    intro acc
    rw [List.foldl_cons]
    by_cases ho : a.op = 3
    · by_cases hc : acc.contains a.name = true
      · have ha : addName acc a = acc := by unfold addName; rw [if_pos ho, if_pos hc]
        rw [ha]
        obtain ⟨R, h1, h2, h3, h4⟩ := ih acc
        refine ⟨R, h1, h2, fun s hs => ⟨(h3 s hs).1, ?_⟩, fun x hx hxo => ?_⟩
        · obtain ⟨x, hx, h5⟩ := (h3 s hs).2; exact ⟨x, by simp [hx], h5⟩
        · rw [List.mem_cons] at hx
          rcases hx with rfl | hx
          · rw [List.contains_iff_mem] at hc; simp [hc]
          · exact h4 x hx hxo
      · have ha : addName acc a = acc ++ [a.name] := by unfold addName; rw [if_pos ho, if_neg hc]
        rw [ha]
        obtain ⟨R, h1, h2, h3, h4⟩ := ih (acc ++ [a.name])
        have hc' : a.name ∉ acc := fun h => hc (List.contains_iff_mem.2 h)
        refine ⟨a.name :: R, by rw [h1]; simp, ?_, fun s hs => ?_, fun x hx hxo => ?_⟩
        · rw [List.nodup_cons]; exact ⟨fun h => (h3 _ h).1 (by simp), h2⟩
        · rw [List.mem_cons] at hs
          rcases hs with rfl | hs
          · exact ⟨hc', a, by simp, ho, rfl⟩
          · have h5 := h3 s hs
            refine ⟨fun h => h5.1 (by simp [h]), ?_⟩
            obtain ⟨x, hx, h6⟩ := h5.2; exact ⟨x, by simp [hx], h6⟩
        · rw [List.mem_cons] at hx
          rcases hx with rfl | hx
          · simp
          · have := h4 x hx hxo; simpa using this
    · have ha : addName acc a = acc := by unfold addName; rw [if_neg ho]
      rw [ha]
      obtain ⟨R, h1, h2, h3, h4⟩ := ih acc
      refine ⟨R, h1, h2, fun s hs => ⟨(h3 s hs).1, ?_⟩, fun x hx hxo => ?_⟩
      · obtain ⟨x, hx, h5⟩ := (h3 s hs).2; exact ⟨x, by simp [hx], h5⟩
      · rw [List.mem_cons] at hx
        rcases hx with rfl | hx
        · exact absurd hxo ho
        · exact h4 x hx hxo
theorem vars_nodup (e : List Nd) : (varsOf e).Nodup := by
  obtain ⟨R, h1, h2, _⟩ := vars_ext e []
  unfold varsOf; rw [h1]; simpa using h2
theorem vars_mem (e : List Nd) (s : Bytes) : s ∈ varsOf e ↔ ∃ x ∈ e, x.op = 3 ∧ x.name = s := by
  obtain ⟨R, h1, _, h3, h4⟩ := vars_ext e []
  unfold varsOf; rw [h1]
  constructor
  · intro h; exact (h3 s (by simpa using h)).2
  · rintro ⟨x, hx, ho, rfl⟩; exact h4 x hx ho
theorem vars_count (e : List Nd) (s : Bytes) : (varsOf e).count s = if s ∈ varsOf e then 1 else 0 := by
  have := List.nodup_iff_count.1 (vars_nodup e) s
  split
  · rename_i h; have := List.one_le_count_iff.2 h; omega
  · rename_i h; exact List.count_eq_zero_of_not_mem h
theorem vars_flat (t : T) (s : Bytes) (b : Nat) : s ∈ varsOf (t.flat b) ↔ ∃ x ∈ t.labs, x.op = 3 ∧ x.name = s := by
  rw [vars_mem, ← flat_labs t b]
  constructor
  · rintro ⟨x, hx, h1, h2⟩; exact ⟨x.lab, List.mem_map_of_mem hx, h1, h2⟩
  · rintro ⟨y, hy, h1, h2⟩
    rw [List.mem_map] at hy
    obtain ⟨x, hx, rfl⟩ := hy
    exact ⟨x, hx, h1, h2⟩

/-- Trees that are put in their own places change nothing. -/
theorem put_same (f : Lab → Option T) (t : T) : (∀ x ∈ t.labs, f x = none ∨ f x = some (.l0 x)) → t.put f = t := by
  induction t with
  | l0 x => intro h; rcases h x (by simp [T.labs]) with h1 | h1 <;> simp [T.put, h1]
  | l1 x p ih => intro h; simp only [T.put]; rw [ih (fun y hy => h y (by simp [T.labs, hy]))]
  | l2 x p q ih1 ih2 => intro h; simp only [T.put]; rw [ih1 (fun y hy => h y (by simp [T.labs, hy])), ih2 (fun y hy => h y (by simp [T.labs, hy]))]
  | l3 x p q r ih1 ih2 ih3 => intro h; simp only [T.put]; rw [ih1 (fun y hy => h y (by simp [T.labs, hy])), ih2 (fun y hy => h y (by simp [T.labs, hy])), ih3 (fun y hy => h y (by simp [T.labs, hy]))]
theorem fits_not3 {x : Lab} {m : Nat} (h : fitsB x.op m = true) (hm : 0 < m) : x.op ≠ 3 := by
  intro h3; rw [h3] at h; simp [fitsB, unaryB, binaryB] at h; omega
/-- What stands in a tree that was put together. -/
theorem labs_put (f : Lab → Option T) (hf : ∀ x u, f x = some u → x.op = 3) (t : T) : t.okB = true → ∀ y ∈ (t.put f).labs, (y ∈ t.labs ∧ f y = none) ∨ ∃ x u, x ∈ t.labs ∧ f x = some u ∧ y ∈ u.labs := by
  have none_of : ∀ x : Lab, x.op ≠ 3 → f x = none := fun x h => by
    cases hfx : f x with
    | none => rfl
    | some u => exact absurd (hf x u hfx) h
  induction t with
  | l0 x =>
    intro _ y hy
    simp only [T.put] at hy
    cases hfx : f x with
    | none => rw [hfx] at hy; simp [T.labs] at hy; subst hy; exact .inl ⟨by simp [T.labs], hfx⟩
    | some u => rw [hfx] at hy; exact .inr ⟨x, u, by simp [T.labs], hfx, hy⟩
  | l1 x p ih =>
    intro ho y hy
    have h3 := fits_not3 (okB_fits _ ho) (by simp [T.kids])
    simp only [T.okB, Bool.and_eq_true] at ho
    simp only [T.put, T.labs, List.mem_append, List.mem_singleton] at hy
    rcases hy with hy | rfl
    · rcases ih ho.2 y hy with h | ⟨x', u, h1, h2⟩
      · exact .inl ⟨by simp [T.labs, h.1], h.2⟩
      · exact .inr ⟨x', u, by simp [T.labs, h1], h2⟩
    · exact .inl ⟨by simp [T.labs], none_of _ h3⟩
  | l2 x p q ih1 ih2 =>
    intro ho y hy
    have h3 := fits_not3 (okB_fits _ ho) (by simp [T.kids])
    simp only [T.okB, Bool.and_eq_true] at ho
    simp only [T.put, T.labs, List.mem_append, List.mem_singleton] at hy
    rcases hy with (hy | hy) | rfl
    · rcases ih1 ho.1.2 y hy with h | ⟨x', u, h1, h2⟩
      · exact .inl ⟨by simp [T.labs, h.1], h.2⟩
      · exact .inr ⟨x', u, by simp [T.labs, h1], h2⟩
    · rcases ih2 ho.2 y hy with h | ⟨x', u, h1, h2⟩
      · exact .inl ⟨by simp [T.labs, h.1], h.2⟩
      · exact .inr ⟨x', u, by simp [T.labs, h1], h2⟩
    · exact .inl ⟨by simp [T.labs], none_of _ h3⟩
  | l3 x p q r ih1 ih2 ih3 =>
    intro ho y hy
    have h3 := fits_not3 (okB_fits _ ho) (by simp [T.kids])
    simp only [T.okB, Bool.and_eq_true] at ho
    simp only [T.put, T.labs, List.mem_append, List.mem_singleton] at hy
    rcases hy with ((hy | hy) | hy) | rfl
    · rcases ih1 ho.1.1.2 y hy with h | ⟨x', u, h1, h2⟩
      · exact .inl ⟨by simp [T.labs, h.1], h.2⟩
      · exact .inr ⟨x', u, by simp [T.labs, h1], h2⟩
    · rcases ih2 ho.1.2 y hy with h | ⟨x', u, h1, h2⟩
      · exact .inl ⟨by simp [T.labs, h.1], h.2⟩
      · exact .inr ⟨x', u, by simp [T.labs, h1], h2⟩
    · rcases ih3 ho.2 y hy with h | ⟨x', u, h1, h2⟩
      · exact .inl ⟨by simp [T.labs, h.1], h.2⟩
      · exact .inr ⟨x', u, by simp [T.labs, h1], h2⟩
    · exact .inl ⟨by simp [T.labs], none_of _ h3⟩
theorem put_lab (f : Lab → Option T) (hf : ∀ x u, f x = some u → x.op = 3 ∧ u.okB = true ∧ u.lab.op ≠ 28) (t : T) : ((t.put f).lab.op == 28) = (t.lab.op == 28) := by
  cases t with
  | l0 x =>
    simp only [T.put]
    cases hfx : f x with
    | none => rfl
    | some u =>
      obtain ⟨h1, _, h3⟩ := hf x u hfx
      show (u.lab.op == 28) = (x.op == 28)
      rw [h1, show (u.lab.op == 28) = false by rw [beq_eq_false_iff_ne]; exact h3]; rfl
  | l1 x p => rfl
  | l2 x p q => rfl
  | l3 x p q r => rfl
theorem put_ok (f : Lab → Option T) (hf : ∀ x u, f x = some u → x.op = 3 ∧ u.okB = true ∧ u.lab.op ≠ 28) (t : T) : t.okB = true → (t.put f).okB = true := by
  induction t with
  | l0 x =>
    intro h
    simp only [T.put]
    cases hfx : f x with
    | none => exact h
    | some u => exact (hf x u hfx).2.1
  | l1 x p ih =>
    intro h
    simp only [T.put, T.okB, Bool.and_eq_true] at h ⊢
    refine ⟨⟨h.1.1, ?_⟩, ih h.2⟩
    have := h.1.2
    simp only [argsT, List.map_cons, List.map_nil, argsL, put_lab f hf] at this ⊢; exact this
  | l2 x p q ih1 ih2 =>
    intro h
    simp only [T.put, T.okB, Bool.and_eq_true] at h ⊢
    refine ⟨⟨⟨h.1.1.1, ?_⟩, ih1 h.1.2⟩, ih2 h.2⟩
    have := h.1.1.2
    simp only [argsT, List.map_cons, List.map_nil, argsL, put_lab f hf] at this ⊢; exact this
  | l3 x p q r ih1 ih2 ih3 =>
    intro h
    simp only [T.put, T.okB, Bool.and_eq_true] at h ⊢
    refine ⟨⟨⟨⟨h.1.1.1.1, ?_⟩, ih1 h.1.1.2⟩, ih2 h.1.2⟩, ih3 h.2⟩
    have := h.1.1.1.2
    simp only [argsT, List.map_cons, List.map_nil, argsL, put_lab f hf] at this ⊢; exact this
end Go.Proofs.Ytmggedjolocgdaa.Tr
