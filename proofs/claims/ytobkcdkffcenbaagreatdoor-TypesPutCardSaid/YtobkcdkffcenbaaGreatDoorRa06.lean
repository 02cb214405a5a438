/- Trees in which expressions are put; the document's Put. Conditions: as each says. -/
import Derived.Test.YtobkcdkffcenbaaGreatDoorRa05
import Derived.Test.YtobkcdkffcenbaaGreatDoorKb16
import Derived.Test.YtobkcdkffcenbaaGreatDoorKb17
import Derived.Test.YtobkcdkffcenbaaGreatDoorKb24
import Derived.Below
import Derived.ChangeSame
import Derived.Deep.RegionHeld3
import Derived.Deep.RegionWith
import Derived.IntWalk
import Derived.Maps.AppendAt
import Derived.Maps.OwnSet
set_option linter.unusedVariables false
set_option linter.unusedSimpArgs false
namespace Go.Proofs.YtobkcdkffcenbaaGreatDoor.Tr
open Go.ChangeShapes Go.WideShapes Go.ChangeAt Go.RowKit Go.Maps Go.WideMaps
theorem str_beq (a b : Bytes) : ((str a).toList == (str b).toList) = (a == b) := by rw [str_toList, str_toList]
theorem contains_next (l : List Bytes) (k : Nat) (x s : Bytes) (h : l[k]? = some x) (hn : (l.take k).contains s = false) (hx : (x == s) = false) : (l.take (k + 1)).contains s = false := by
  rw [List.take_add_one, h]
  simp only [Option.toList, List.contains_eq_any_beq, List.any_append, List.any_cons, List.any_nil, Bool.or_false] at hn ⊢
  rw [hn, Bool.false_or]
  rw [Bool.eq_false_iff] at hx ⊢
  intro he; apply hx; simp at he ⊢; exact he.symm
def fillStep (P : Nd → List Nd) (s : List Nd × List Int) (x : Nd) : List Nd × List Int :=
  let out := if P x = [] then s.1 ++ [mkL x.lab ((kidsM x).map fun k => s.2.getD k.toNat 0)] else behindM s.1 (P x)
  (out, s.2 ++ [(out.length : Int) - 1])
def fillF (P : Nd → List Nd) (e : List Nd) : List Nd × List Int := e.foldl (fillStep P) ([], [])
theorem fillF_next (P : Nd → List Nd) (e : List Nd) (k : Nat) (x : Nd) (h : e[k]? = some x) : fillF P (e.take (k + 1)) = fillStep P (fillF P (e.take k)) x := by
  unfold fillF; rw [List.take_add_one, h, show (some x).toList = [x] from rfl, List.foldl_append]; rfl
theorem fillF_at (P : Nd → List Nd) (e : List Nd) : (fillF P e).2.length = e.length := by
  have key : ∀ (e : List Nd) (s : List Nd × List Int), (e.foldl (fillStep P) s).2.length = s.2.length + e.length := by
    intro e
    induction e with
    | nil => intro s; rfl
    | cons a r ih => intro s; rw [List.foldl_cons, ih]; simp [fillStep]; omega
  unfold fillF; rw [key]; simp
def roomOf (P : Nd → List Nd) (e : List Nd) : Nat := (e.map fun x => if P x = [] then 1 else (P x).length).sum
theorem fillF_len (P : Nd → List Nd) (e : List Nd) : (fillF P e).1.length = roomOf P e := by
  have key : ∀ (e : List Nd) (s : List Nd × List Int), (e.foldl (fillStep P) s).1.length = s.1.length + roomOf P e := by
    intro e
    induction e with
    | nil => intro s; simp [roomOf]
    | cons a r ih =>
      intro s
      rw [List.foldl_cons, ih]
      have : (fillStep P s a).1.length = s.1.length + if P a = [] then 1 else (P a).length := by
        unfold fillStep
        by_cases h : P a = []
        · simp [h]
        · simp [h, behind_len]
      rw [this]
      unfold roomOf
      rw [List.map_cons, List.sum_cons]; omega
  unfold fillF; rw [key]; simp
theorem room_take (P : Nd → List Nd) (e : List Nd) (k : Nat) : roomOf P (e.take k) ≤ roomOf P e := by
  conv => rhs; rw [← List.take_append_drop k e]
  unfold roomOf; rw [List.map_append, List.sum_append]; omega
theorem room_le (P : Nd → List Nd) (e : List Nd) (m : Nat) (h : ∀ x ∈ e, (P x).length ≤ m) : roomOf P e ≤ e.length * (m + 1) := by
  induction e with
  | nil => simp [roomOf]
  | cons a r ih =>
    have h1 := ih (fun x hx => h x (by simp [hx]))
    have h2 := h a (by simp)
    unfold roomOf at *
    rw [List.map_cons, List.sum_cons, List.length_cons, Nat.add_mul, Nat.one_mul]
    split <;> omega
theorem getD_snoc (l A : List Int) (k : Nat) (v : Int) (h : A[k]? = some v) : (l ++ A).getD (l.length + k) 0 = v := by
  rw [List.getD, List.getElem?_append_right (by omega), Nat.add_sub_cancel_left, h]; rfl
theorem fill_flat (P : Nd → List Nd) (f : Lab → Option T) (hP : ∀ x : Nd, P x = match f x.lab with | some u => u.flat 0 | none => []) (hf : ∀ x u, f x = some u → x.op = 3) (t : T) :
    ∀ (b : Nat) (s : List Nd × List Int), t.okB = true → s.2.length = b → s.1.length + (t.put f).size ≤ 1000000000 →
      ∃ A : List Int, A.length = t.size ∧ A[t.size - 1]? = some ((s.1.length + (t.put f).size - 1 : Nat) : Int) ∧ (t.flat b).foldl (fillStep P) s = (s.1 ++ (t.put f).flat s.1.length, s.2 ++ A) := by
  have noP : ∀ (x : Lab) (l : List Int), x.op ≠ 3 → P (mkL x l) = [] := fun x l h => by
    rw [hP, mkL_lab]
    cases hfx : f x with
    | none => rfl
    | some u => exact absurd (hf x u hfx) h
  have step : ∀ (s : List Nd × List Int) (x : Lab) (l : List Int), x.op ≠ 3 → fitsB x.op l.length = true → (∀ k ∈ l, k ≠ -1) → fillStep P s (mkL x l) = (s.1 ++ [mkL x (l.map fun k => s.2.getD k.toNat 0)], s.2 ++ [((s.1.length + 1 - 1 : Nat) : Int)]) := fun s x l h3 hfit hl => by
    unfold fillStep
    rw [noP x l h3, mkL_lab, kids_mkL x l hfit hl]
    simp
  induction t with
  | l0 x =>
    intro b s ho hb hsz
    have hfit : fitsB x.op 0 = true := okB_fits _ ho
    show ∃ A : List Int, A.length = 1 ∧ _ ∧ (fillStep P s (mkL x [])) = _
    simp only [T.put] at hsz ⊢
    unfold fillStep
    rw [hP, mkL_lab]
    cases hfx : f x with
    | none =>
      refine ⟨[(s.1.length : Int)], rfl, by simp [T.size], ?_⟩
      rw [kids_mkL x [] hfit (by simp)]
      simp [T.flat]
    | some u =>
      rw [hfx] at hsz
      simp only [Option.getD_some] at hsz ⊢
      have hu := u.size_pos
      have hne : u.flat 0 ≠ [] := by intro h; have := u.flat_len 0; rw [h] at this; simp at this; omega
      refine ⟨[((s.1.length + u.size - 1 : Nat) : Int)], rfl, by simp [T.size], ?_⟩
      simp only [hne, if_false]
      rw [behind_flat _ _ hsz, List.length_append, T.flat_len]
      congr 3; omega
  | l1 x p ih =>
    intro b s ho hb hsz
    have hfit : fitsB x.op 1 = true := okB_fits _ ho
    have h3 : x.op ≠ 3 := by intro h; rw [h] at hfit; simp [fitsB, unaryB, binaryB] at hfit
    simp only [T.okB, Bool.and_eq_true] at ho
    have hp := p.size_pos
    have hpp := (p.put f).size_pos
    simp only [T.put, T.size] at hsz ⊢
    obtain ⟨A, hA1, hA2, hA3⟩ := ih b s ho.2 hb (by omega)
    simp only [T.flat]
    rw [List.foldl_append, hA3, List.foldl_cons, List.foldl_nil, step _ x [_] h3 hfit (by intro k hk; simp at hk; omega)]
    refine ⟨A ++ [((s.1.length + ((p.put f).size + 1) - 1 : Nat) : Int)], by simp [hA1], ?_, ?_⟩
    · rw [List.getElem?_append_right (by omega), hA1]; simp
    · simp only [List.map_cons, List.map_nil, Int.toNat_natCast, List.append_assoc, List.length_append, T.flat_len]
      rw [show b + p.size - 1 = s.2.length + (p.size - 1) by omega, getD_snoc _ _ _ _ hA2]
      simp [Nat.add_assoc]
  | l2 x p q ih1 ih2 =>
    intro b s ho hb hsz
    have hfit : fitsB x.op 2 = true := okB_fits _ ho
    have h3 : x.op ≠ 3 := by intro h; rw [h] at hfit; simp [fitsB, unaryB, binaryB] at hfit
    simp only [T.okB, Bool.and_eq_true] at ho
    have hp := p.size_pos
    have hpp := (p.put f).size_pos
    have hq := q.size_pos
    have hqp := (q.put f).size_pos
    simp only [T.put, T.size] at hsz ⊢
    obtain ⟨A, hA1, hA2, hA3⟩ := ih1 b s ho.1.2 hb (by omega)
    obtain ⟨B, hB1, hB2, hB3⟩ := ih2 (b + p.size) (s.1 ++ (p.put f).flat s.1.length, s.2 ++ A) ho.2 (by simp [hA1, hb]) (by simp [T.flat_len]; omega)
    simp only [List.length_append, T.flat_len] at hB2 hB3
    simp only [T.flat]
    rw [List.foldl_append, List.foldl_append, hA3, hB3, List.foldl_cons, List.foldl_nil, step _ x [_, _] h3 hfit (by intro k hk; simp at hk; omega)]
    refine ⟨A ++ B ++ [((s.1.length + ((p.put f).size + (q.put f).size + 1) - 1 : Nat) : Int)], by simp [hA1, hB1]; omega, ?_, ?_⟩
    · rw [List.getElem?_append_right (by simp; omega)]; simp [hA1, hB1]
    · simp only [List.map_cons, List.map_nil, Int.toNat_natCast]
      have g1 : (s.2 ++ A ++ B).getD (b + p.size - 1) 0 = ((s.1.length + (p.put f).size - 1 : Nat) : Int) := by
        rw [List.append_assoc, show b + p.size - 1 = s.2.length + (p.size - 1) by omega]
        exact getD_snoc _ _ _ _ (by rw [List.getElem?_append_left (by omega)]; exact hA2)
      have g2 : (s.2 ++ A ++ B).getD (b + p.size + q.size - 1) 0 = ((s.1.length + (p.put f).size + (q.put f).size - 1 : Nat) : Int) := by
        rw [show b + p.size + q.size - 1 = (s.2 ++ A).length + (q.size - 1) by simp [hA1]; omega]
        exact getD_snoc _ _ _ _ hB2
      rw [g1, g2]
      simp [Nat.add_assoc, T.flat_len]
  | l3 x p q r ih1 ih2 ih3 =>
    intro b s ho hb hsz
    have hfit : fitsB x.op 3 = true := okB_fits _ ho
    have h3 : x.op ≠ 3 := by intro h; rw [h] at hfit; simp [fitsB, unaryB, binaryB] at hfit
    simp only [T.okB, Bool.and_eq_true] at ho
    have hp := p.size_pos
    have hpp := (p.put f).size_pos
    have hq := q.size_pos
    have hqp := (q.put f).size_pos
    have hr := r.size_pos
    have hrp := (r.put f).size_pos
    simp only [T.put, T.size] at hsz ⊢
    obtain ⟨A, hA1, hA2, hA3⟩ := ih1 b s ho.1.1.2 hb (by omega)
    obtain ⟨B, hB1, hB2, hB3⟩ := ih2 (b + p.size) (s.1 ++ (p.put f).flat s.1.length, s.2 ++ A) ho.1.2 (by simp [hA1, hb]) (by simp [T.flat_len]; omega)
    simp only [List.length_append, T.flat_len] at hB2 hB3
    obtain ⟨C, hC1, hC2, hC3⟩ := ih3 (b + p.size + q.size) (s.1 ++ (p.put f).flat s.1.length ++ (q.put f).flat (s.1.length + (p.put f).size), s.2 ++ A ++ B) ho.2 (by simp [hA1, hB1, hb]; omega) (by simp [T.flat_len]; omega)
    simp only [List.length_append, T.flat_len] at hC2 hC3
    simp only [T.flat]
    rw [List.foldl_append, List.foldl_append, List.foldl_append, hA3, hB3, hC3, List.foldl_cons, List.foldl_nil, step _ x [_, _, _] h3 hfit (by intro k hk; simp at hk; omega)]
    refine ⟨A ++ B ++ C ++ [((s.1.length + ((p.put f).size + (q.put f).size + (r.put f).size + 1) - 1 : Nat) : Int)], by simp [hA1, hB1, hC1]; omega, ?_, ?_⟩
    · rw [List.getElem?_append_right (by simp; omega), show p.size + q.size + r.size + 1 - 1 - (A ++ B ++ C).length = 0 by simp [hA1, hB1, hC1]; omega]; rfl
    · simp only [List.map_cons, List.map_nil, Int.toNat_natCast]
      have g1 : (s.2 ++ A ++ B ++ C).getD (b + p.size - 1) 0 = ((s.1.length + (p.put f).size - 1 : Nat) : Int) := by
        rw [List.append_assoc, List.append_assoc, show b + p.size - 1 = s.2.length + (p.size - 1) by omega]
        exact getD_snoc _ _ _ _ (by rw [List.getElem?_append_left (by omega)]; exact hA2)
      have g2 : (s.2 ++ A ++ B ++ C).getD (b + p.size + q.size - 1) 0 = ((s.1.length + (p.put f).size + (q.put f).size - 1 : Nat) : Int) := by
        rw [List.append_assoc (s.2 ++ A), show b + p.size + q.size - 1 = (s.2 ++ A).length + (q.size - 1) by simp [hA1]; omega]
        exact getD_snoc _ _ _ _ (by rw [List.getElem?_append_left (by omega)]; exact hB2)
      have g3 : (s.2 ++ A ++ B ++ C).getD (b + p.size + q.size + r.size - 1) 0 = ((s.1.length + (p.put f).size + (q.put f).size + (r.put f).size - 1 : Nat) : Int) := by
        rw [show b + p.size + q.size + r.size - 1 = (s.2 ++ A ++ B).length + (r.size - 1) by simp [hA1, hB1]; omega]
        exact getD_snoc _ _ _ _ hC2
      rw [g1, g2, g3]
      simp [Nat.add_assoc, T.flat_len]
theorem fits_not3 {x : Lab} {m : Nat} (h : fitsB x.op m = true) (hm : 0 < m) : x.op ≠ 3 := by
  intro h3; rw [h3] at h; simp [fitsB, unaryB, binaryB] at h; omega
theorem labs_put (f : Lab → Option T) (hf : ∀ x u, f x = some u → x.op = 3) (t : T) : t.okB = true → ∀ y ∈ (t.put f).labs, (y ∈ t.labs ∧ f y = none) ∨ ∃ x u, x ∈ t.labs ∧ f x = some u ∧ y ∈ u.labs := by
  have none_of : ∀ x : Lab, x.op ≠ 3 → f x = none := fun x h => by
    cases hfx : f x with
    | none => rfl
    | some u => exact absurd (hf x u hfx) h
  induction t with
  | l0 x =>
    intro _ y hy
    simp only [T.put] at hy
    cases hfx : f x with
    | none => rw [hfx] at hy; simp [T.labs] at hy; subst hy; exact .inl ⟨by simp [T.labs], hfx⟩
    | some u => rw [hfx] at hy; exact .inr ⟨x, u, by simp [T.labs], hfx, hy⟩
  | l1 x p ih =>
    intro ho y hy
    have h3 := fits_not3 (okB_fits _ ho) (by simp [T.kids])
    simp only [T.okB, Bool.and_eq_true] at ho
    simp only [T.put, T.labs, List.mem_append, List.mem_singleton] at hy
    rcases hy with hy | rfl
    · rcases ih ho.2 y hy with h | ⟨x', u, h1, h2⟩
      · exact .inl ⟨by simp [T.labs, h.1], h.2⟩
      · exact .inr ⟨x', u, by simp [T.labs, h1], h2⟩
    · exact .inl ⟨by simp [T.labs], none_of _ h3⟩
  | l2 x p q ih1 ih2 =>
    intro ho y hy
    have h3 := fits_not3 (okB_fits _ ho) (by simp [T.kids])
    simp only [T.okB, Bool.and_eq_true] at ho
    simp only [T.put, T.labs, List.mem_append, List.mem_singleton] at hy
    rcases hy with (hy | hy) | rfl
    · rcases ih1 ho.1.2 y hy with h | ⟨x', u, h1, h2⟩
      · exact .inl ⟨by simp [T.labs, h.1], h.2⟩
      · exact .inr ⟨x', u, by simp [T.labs, h1], h2⟩
    · rcases ih2 ho.2 y hy with h | ⟨x', u, h1, h2⟩
      · exact .inl ⟨by simp [T.labs, h.1], h.2⟩
      · exact .inr ⟨x', u, by simp [T.labs, h1], h2⟩
    · exact .inl ⟨by simp [T.labs], none_of _ h3⟩
  | l3 x p q r ih1 ih2 ih3 =>
    intro ho y hy
    have h3 := fits_not3 (okB_fits _ ho) (by simp [T.kids])
    simp only [T.okB, Bool.and_eq_true] at ho
    simp only [T.put, T.labs, List.mem_append, List.mem_singleton] at hy
    rcases hy with ((hy | hy) | hy) | rfl
    · rcases ih1 ho.1.1.2 y hy with h | ⟨x', u, h1, h2⟩
      · exact .inl ⟨by simp [T.labs, h.1], h.2⟩
      · exact .inr ⟨x', u, by simp [T.labs, h1], h2⟩
    · rcases ih2 ho.1.2 y hy with h | ⟨x', u, h1, h2⟩
      · exact .inl ⟨by simp [T.labs, h.1], h.2⟩
      · exact .inr ⟨x', u, by simp [T.labs, h1], h2⟩
    · rcases ih3 ho.2 y hy with h | ⟨x', u, h1, h2⟩
      · exact .inl ⟨by simp [T.labs, h.1], h.2⟩
      · exact .inr ⟨x', u, by simp [T.labs, h1], h2⟩
    · exact .inl ⟨by simp [T.labs], none_of _ h3⟩
theorem put_lab (f : Lab → Option T) (hf : ∀ x u, f x = some u → x.op = 3 ∧ u.okB = true ∧ u.lab.op ≠ 28) (t : T) : ((t.put f).lab.op == 28) = (t.lab.op == 28) := by
  cases t with
  | l0 x =>
    simp only [T.put]
    cases hfx : f x with
    | none => rfl
    | some u =>
      obtain ⟨h1, _, h3⟩ := hf x u hfx
      show (u.lab.op == 28) = (x.op == 28)
      rw [h1, show (u.lab.op == 28) = false by rw [beq_eq_false_iff_ne]; exact h3]; rfl
  | l1 x p => rfl
  | l2 x p q => rfl
  | l3 x p q r => rfl
theorem put_ok (f : Lab → Option T) (hf : ∀ x u, f x = some u → x.op = 3 ∧ u.okB = true ∧ u.lab.op ≠ 28) (t : T) : t.okB = true → (t.put f).okB = true := by
  induction t with
  | l0 x =>
    intro h
    simp only [T.put]
    cases hfx : f x with
    | none => exact h
    | some u => exact (hf x u hfx).2.1
  | l1 x p ih =>
    intro h
    simp only [T.put, T.okB, Bool.and_eq_true] at h ⊢
    refine ⟨⟨h.1.1, ?_⟩, ih h.2⟩
    have := h.1.2
    simp only [argsT, List.map_cons, List.map_nil, argsL, put_lab f hf] at this ⊢; exact this
  | l2 x p q ih1 ih2 =>
    intro h
    simp only [T.put, T.okB, Bool.and_eq_true] at h ⊢
    refine ⟨⟨⟨h.1.1.1, ?_⟩, ih1 h.1.2⟩, ih2 h.2⟩
    have := h.1.1.2
    simp only [argsT, List.map_cons, List.map_nil, argsL, put_lab f hf] at this ⊢; exact this
  | l3 x p q r ih1 ih2 ih3 =>
    intro h
    simp only [T.put, T.okB, Bool.and_eq_true] at h ⊢
    refine ⟨⟨⟨⟨h.1.1.1.1, ?_⟩, ih1 h.1.1.2⟩, ih2 h.1.2⟩, ih3 h.2⟩
    have := h.1.1.1.2
    simp only [argsT, List.map_cons, List.map_nil, argsL, put_lab f hf] at this ⊢; exact this
def placeM : List Bytes → Bytes → Option Nat
  | [], _ => none
  | a :: r, s => if a == s then some 0 else (placeM r s).map (· + 1)
def placeI (l : List Bytes) (s : Bytes) : Int := match placeM l s with
  | some k => (k : Int)
  | none => -1
theorem place_at (s : Bytes) : ∀ (l : List Bytes) (k : Nat), l[k]? = some s → (l.take k).contains s = false → placeM l s = some k := by
  intro l
  induction l with
  | nil => intro k h; simp at h
  | cons a r ih =>
    intro k h hn
    cases k with
    | zero => simp at h; subst h; simp [placeM]
    | succ k =>
      rw [List.take_succ_cons, List.contains_cons, Bool.or_eq_false_iff] at hn
      have ha : (a == s) = false := by
        have := hn.1
        rw [beq_eq_false_iff_ne] at this ⊢
        exact fun h => this h.symm
      simp only [placeM, ha]
      rw [ih k (by simpa using h) hn.2]; rfl
theorem place_none (s : Bytes) : ∀ l : List Bytes, l.contains s = false → placeM l s = none := by
  intro l
  induction l with
  | nil => intro _; rfl
  | cons a r ih =>
    intro h
    rw [List.contains_cons, Bool.or_eq_false_iff] at h
    have ha : (a == s) = false := by
      have := h.1
      rw [beq_eq_false_iff_ne] at this ⊢
      exact fun h => this h.symm
    simp only [placeM, ha]
    rw [ih h.2]; rfl
theorem place_some (s : Bytes) : ∀ (l : List Bytes) (k : Nat), placeM l s = some k → l[k]? = some s := by
  intro l
  induction l with
  | nil => intro k h; simp [placeM] at h
  | cons a r ih =>
    intro k h
    simp only [placeM] at h
    split at h
    · rename_i ha
      simp at h ha
      subst h ha; rfl
    · rw [Option.map_eq_some_iff] at h
      obtain ⟨j, hj, rfl⟩ := h
      simpa using ih j hj
set_option maxHeartbeats 800000 in
theorem place_any (v : Value) (l : List Bytes) (s : Bytes) (w : World) (hv : Strs w v l) : Calls Tryz.prog 28 #[v, .string (str s)] w fun e w' => e = .returned (.int .i64 (placeI l s)) ∧ w = w' := by
  obtain ⟨A, c, rfl, h1, h2, hA⟩ := hv
  unfold maxLen at h2
  have HA := Lib.hid hA
  clear hA
  go_enter Tryz.func28, Tryz.ntmps28
  go_wp2
  go_loop [5] (fun i => ∃ k : Nat, k ≤ l.length ∧ i = .int .i64 k ∧ Hid ((l.take k).contains s = false)) (fun i => l.length - (intOf i).toNat)
  case atStart => exact ⟨0, Nat.zero_le _, rfl, by rw [List.take_zero]; rfl⟩
  case round =>
    obtain ⟨k, hk, rfl, hn⟩ := hrel
    by_cases hlt : k < l.length
    · obtain ⟨x, hx⟩ : ∃ x, l[k]? = some x := ⟨_, List.getElem?_eq_getElem hlt⟩
      obtain ⟨g, o, rfl, hg, a0⟩ := HA.out k x hx
      have HX := Lib.hid hx
      clear hx
      rcases Bool.eq_false_or_eq_true (x == s) with hq | hq
      · have HR := Lib.hid (show placeI l s = (k : Int) by unfold placeI; rw [place_at s l k (by rw [HX.out, beq_iff_eq.1 hq]) hn.out])
        have hb : ((str x).toList == (str s).toList) = true := by rw [str_beq]; exact hq
        go_wp2
        go_ret
        exact ⟨by rw [HR.out]; rfl, rfl⟩
      · have HN := Lib.hid (contains_next l k x s HX.out hn.out hq)
        have hb : ((str x).toList == (str s).toList) = false := by rw [str_beq]; exact hq
        go_wp2
        refine ⟨⟨k + 1, by omega, by go_num, HN.out⟩, by simp [intOf]; omega⟩
    · have HR := Lib.hid (show placeI l s = -1 by unfold placeI; have := hn.out; rw [List.take_of_length_le (by omega)] at this; rw [place_none s l this])
      go_wp2
      go_ret
      exact ⟨by rw [HR.out]; rfl, rfl⟩
def putP (names : List Bytes) (ps : List (List Nd)) (x : Nd) : List Nd := if x.op = 3 then (match placeM names x.name with | some k => ps.getD k [] | none => []) else []
theorem fill_len_le (P : Nd → List Nd) (l : List Nd) (k : Nat) : (fillF P (l.take k)).1.length ≤ roomOf P l := by rw [fillF_len]; exact room_take P l k
theorem fill_step_len (P : Nd → List Nd) (l : List Nd) (k : Nat) (x : Nd) (h : l[k]? = some x) : (fillF P (l.take k)).1.length + (if P x = [] then 1 else (P x).length) ≤ roomOf P l := by
  have := fill_len_le P l (k + 1)
  rw [fillF_next P l k x h] at this
  unfold fillStep at this
  by_cases hp : P x = []
  · simp only [hp, if_true, List.length_append, List.length_singleton] at this ⊢; exact this
  · simp only [hp, if_false, behind_len] at this ⊢; exact this
noncomputable def putM (e : List Nd) (names : List Bytes) (ps : List (List Nd)) : List Nd :=
  if normB e = [] then [] else if names.length = ps.length then (if (∀ p ∈ ps, normB p ≠ []) then (fillF (putP names (ps.map normB)) (normB e)).1 else []) else []
theorem putM_eq (e : List Nd) (names : List Bytes) (ps : List (List Nd)) : putM e names ps = if normB e = [] then [] else if names.length = ps.length then (if (∀ p ∈ ps, normB p ≠ []) then (fillF (putP names (ps.map normB)) (normB e)).1 else []) else [] := rfl
theorem norm_nil_iff (e : List Nd) : normB e = [] ↔ mayB e = false := by
  constructor
  · intro h
    rcases Bool.eq_false_or_eq_true (mayB e) with hm | hm
    · exfalso
      have hM := may_of hm
      have hp := hM.pos
      have : (normB e).length = 0 := by rw [h]; rfl
      unfold normB subM at this
      rw [if_pos ⟨hm, by omega, by omega⟩, T.flat_len] at this
      have := (tree e ((e.length : Int) - 1).toNat).size_pos
      omega
    · exact hm
  · intro h; unfold normB subM; rw [if_neg (by rw [h]; simp)]
structure RFillRel (w : World) (P : Nd → List Nd) (l : List Nd) (H k : Nat) (wr : World) (ov : Value) : Prop where
  le : k ≤ l.length
  hH : w.heap.size ≤ H
  own : wr.ownsRow w.heap.size 70 6 ov (fillF P (l.take k)).1.length (ndsOf (fillF P (l.take k)).1)
  row : wr.ownsRow w.heap.size 3 1 (.slice (some ⟨H, 0, none⟩) l.length l.length) l.length (intsOf ((fillF P (l.take k)).2 ++ List.replicate (l.length - k) 0))
  below : Below w.heap.size w wr
structure RFillMid (w : World) (P : Nd → List Nd) (l : List Nd) (H k : Nat) (w4 : World) (ov4 : Value) (N : Nat) : Prop where
  len : (fillF P (l.take (k + 1))).1.length = N
  own : w4.ownsRow w.heap.size 70 6 ov4 N (ndsOf (fillF P (l.take (k + 1))).1)
  row : w4.ownsRow w.heap.size 3 1 (.slice (some ⟨H, 0, none⟩) l.length l.length) l.length (intsOf ((fillF P (l.take k)).2 ++ List.replicate (l.length - k) 0))
  below : Below w.heap.size w w4
theorem RFillRel.mid {w wr wA w4 : World} {P : Nd → List Nd} {l : List Nd} {H k N : Nat} {ov ov4 : Value} (h : RFillRel w P l H k wr ov) (hA : Below wr.heap.size wr wA) (hg : wA.grownBy w4 ov.ownBlock)
    (hlen : (fillF P (l.take (k + 1))).1.length = N) (hown : w4.ownsRow w.heap.size 70 6 ov4 N (ndsOf (fillF P (l.take (k + 1))).1)) : RFillMid w P l H k w4 ov4 N := by
  have hs := h.below.size
  have hsA := hA.size
  have oA := own_below h.own hA
  have rA := own_below h.row hA
  have hne := own_ne oA rA (by decide)
  refine ⟨hlen, hown, own_block rA (fun g hgb => hg.block g (rA.lt g hgb).2 (fun h' => hne g h'.symm hgb)), ?_⟩
  exact (h.below.trans (hA.mono hs)).grown hg (by omega) (fun j hj => (oA.lt j hj).1)
theorem RFillMid.step {w w4 : World} {P : Nd → List Nd} {l : List Nd} {H k N : Nat} {ov4 : Value} {x : Nd} (hx : l[k]? = some x) (hH : w.heap.size ≤ H) (h : RFillMid w P l H k w4 ov4 N) : RFillRel w P l H (k + 1) (w4.setCell ⟨H, k, none⟩ (.int .i64 ((N : Int) - 1))) ov4 := by
  have hk := (List.getElem?_eq_some_iff.1 hx).1
  have hne := own_ne h.own h.row (by decide)
  have e := fillF_next P l k x hx
  have h2 : (fillF P (l.take (k + 1))).2 = (fillF P (l.take k)).2 ++ [(N : Int) - 1] := by
    have := h.len
    rw [e] at this ⊢
    unfold fillStep at this ⊢
    simp only at this ⊢
    rw [this]
  have hA : (fillF P (l.take k)).2.length = k := by rw [fillF_at, List.length_take]; omega
  refine ⟨by omega, hH, ?_, ?_, h.below.setCell hH _⟩
  · rw [h.len]
    exact own_block h.own (fun g hgb => Below.heap_setCell _ _ _ _ (fun hh => hne g hgb (by simp [Value.ownBlock, hh])))
  · have := (h.row.stored k (.int .i64 ((N : Int) - 1))).1
    rw [← intsOf_set] at this
    have e2 : ((fillF P (l.take k)).2 ++ List.replicate (l.length - k) 0).set k ((N : Int) - 1) = (fillF P (l.take (k + 1))).2 ++ List.replicate (l.length - (k + 1)) 0 := by
      rw [h2, List.set_append_right _ _ (by omega), hA, Nat.sub_self, show l.length - k = (l.length - (k + 1)) + 1 by omega, List.replicate_succ, List.set_cons_zero, List.append_assoc]; rfl
    rw [e2] at this
    exact this
theorem rfill_start {w w2 : World} {P : Nd → List Nd} {l : List Nd} (hb : Below w.heap.size w w2) (hl : l.length ≤ maxLen) : RFillRel w P l w2.heap.size 0 (w2.alloc (.cells (madeCells #[.int .i64 0] l.length) 3)) (.slice none 0 0) := by
  have hs := hb.size
  refine ⟨Nat.zero_le _, hs, by simpa [fillF, ndsOf] using World.ownsRow_nil _ _ _ _, ?_, hb.alloc hs _⟩
  refine ⟨by simp [intsOf, fillF], .inr ⟨w2.heap.size, l.length, madeCells #[.int .i64 0] l.length, rfl, hs, heap_alloc_new _ _, Nat.le_refl _, hl, ?_, ?_⟩⟩
  · have := congrArg List.length (made_ints l.length); simp [intsOf] at this ⊢; exact this
  · rw [made_ints]; simp [intsOf, fillF]
structure ToRel (w : World) (L : List Int) (tf : Int → Int) (j : Nat) (wr : World) (tv : Value) : Prop where
  le : j ≤ L.length
  row : wr.ownsRow w.heap.size 3 1 tv j (intsOf ((L.take j).map tf))
  below : Below w.heap.size w wr
set_option maxRecDepth 100000 in
set_option maxHeartbeats 4000000 in
theorem rput_any (ev nv bv : Value) (e : List Nd) (names : List Bytes) (ps : List (List Nd)) (w : World) (hv : Nodes w ev e) (hn : Strs w nv names) (hp : Parts w w.heap.size bv ps)
    (hpl : ps.length ≤ 1000) (hel : e.length ≤ 5000) (hr : roomOf (putP names (ps.map normB)) (normB e) ≤ 80000) : Calls Tryz.prog 11 #[ev, nv, bv] w (NodesPost w (putM e names ps)) := by
  have HV := Lib.hid hv
  have HN := Lib.hid hn
  have HP := Lib.hid hp
  have HR := Lib.hid hr
  have HPM := Lib.hid (putM_eq e names ps)
  obtain ⟨A, c, rfl, h1, h2, _⟩ := hv
  obtain ⟨An, cn, rfl, h3, h4, hAn⟩ := hn
  obtain ⟨Ap, cp, rfl, h5, h6, hAp⟩ := hp
  unfold maxLen at h2 h4 h6
  have HAN := Lib.hid hAn
  have HAP := Lib.hid hAp
  clear hAn hAp hr
  rcases Bool.eq_false_or_eq_true (mayB e) with hm | hm
  rotate_left
  · have HMM := Lib.hid hm
    have HJ := Lib.hid (show putM e names ps = [] by rw [HPM.out, if_pos ((norm_nil_iff e).2 hm)])
    clear hm
    rw [HJ.out]
    go_enter Tryz.func11, Tryz.ntmps11
    go_wp2_with fail
    refine (rmay_lit _ e _ _ HV.out HMM.out).mono ?_
    rintro r w2 ⟨rfl, hb2⟩
    go_wp2
    go_ret
    exact nodes_none _ _ hb2
  have hne : ¬ normB e = [] := fun h => by rw [(norm_nil_iff e).1 h] at hm; cases hm
  have HMM := Lib.hid hm
  have HNE := Lib.hid hne
  clear hm hne
  by_cases hnp : names.length = ps.length
  rotate_left
  · have hnp' : ((names.length : Int) != (ps.length : Int)) = true := by rw [bne_iff_ne]; omega
    have HJ := Lib.hid (show putM e names ps = [] by rw [HPM.out, if_neg HNE.out, if_neg hnp])
    clear hnp
    rw [HJ.out]
    go_enter Tryz.func11, Tryz.ntmps11
    go_wp2_with fail
    refine (rmay_lit _ e _ _ HV.out HMM.out).mono ?_
    rintro r w2 ⟨rfl, hb2⟩
    go_wp2
    go_ret
    exact nodes_none _ _ hb2
  have hnp' : ((names.length : Int) != (ps.length : Int)) = false := by simp [hnp]
  have HNP := Lib.hid hnp
  have HJ := Lib.hid (show putM e names ps = if (∀ p ∈ ps, normB p ≠ []) then (fillF (putP names (ps.map normB)) (normB e)).1 else [] by rw [HPM.out, if_neg HNE.out, if_pos hnp])
  clear hnp HPM
  go_enter Tryz.func11, Tryz.ntmps11
  go_wp2_with fail
  refine (rmay_lit _ e _ _ HV.out HMM.out).mono ?_
  rintro r w2 ⟨rfl, hb2⟩
  have HB2 := Lib.hid hb2
  clear hb2
  go_wp2
  go_loopw [7] (fun i wr => ∃ k : Nat, k ≤ ps.length ∧ i = .int .i64 k ∧ Below w.heap.size w wr ∧ Hid (∀ j p, j < k → ps[j]? = some p → normB p ≠ [])) (fun i _ => ps.length - (intOf i).toNat)
  case atStart => exact ⟨0, Nat.zero_le _, rfl, HB2.out, fun j p h => by omega⟩
  case round =>
    obtain ⟨k, hk, rfl, hb, hall⟩ := hrel
    have HB := Lib.hid hb
    have hs := hb.size
    by_cases hlt : k < ps.length
    · obtain ⟨p, hpk⟩ : ∃ p, ps[k]? = some p := ⟨_, List.getElem?_eq_getElem hlt⟩
      obtain ⟨g, o, u, rfl, hgb, hg, d0, hu, hul⟩ := HAP.out k p hpk
      have c0 := (hb.cell (p := ⟨g, o + k, none⟩) hg).trans d0
      have HU := Lib.hid (hu.below hb (Nat.le_refl _))
      have HPK := Lib.hid hpk
      clear hpk d0 hu hul hb
      rcases Bool.eq_false_or_eq_true (mayB p) with hm | hm
      · have HMP := Lib.hid hm
        clear hm
        go_wp2_with fail
        refine (rmay_lit _ p _ _ HU.out HMP.out).mono ?_
        rintro r w3 ⟨rfl, hb3⟩
        have HB3 := Lib.hid (HB.out.trans (hb3.mono hs))
        clear hb3
        go_wp2
        refine ⟨⟨k + 1, by omega, by go_num, HB3.out, fun j q hj hq => ?_⟩, by simp [intOf]; omega⟩
        by_cases hjk : j < k
        · exact hall.out j q hjk hq
        · have : j = k := by omega
          subst this
          have := HPK.out.symm.trans hq
          simp only [Option.some.injEq] at this
          subst this
          intro h; rw [(norm_nil_iff p).1 h] at HMP; exact absurd HMP.out (by simp)
      · have HMP := Lib.hid hm
        have HJ2 := Lib.hid (show putM e names ps = [] by rw [HJ.out, if_neg (fun h => h p (List.mem_of_getElem? HPK.out) ((norm_nil_iff p).2 hm))])
        clear hm
        go_wp2_with fail
        refine (rmay_lit _ p _ _ HU.out HMP.out).mono ?_
        rintro r w3 ⟨rfl, hb3⟩
        have HB3 := Lib.hid (HB.out.trans (hb3.mono hs))
        clear hb3
        go_wp2
        go_ret
        rw [HJ2.out]
        exact nodes_none _ _ HB3.out
    · have hkl : k = ps.length := by omega
      subst hkl
      have HALL := Lib.hid (show ∀ p ∈ ps, normB p ≠ [] from fun p hp => by
        obtain ⟨j, hj⟩ := List.mem_iff_getElem?.1 hp
        exact hall.out j p (List.getElem?_eq_some_iff.1 hj).1 hj)
      have HJ3 := Lib.hid (show putM e names ps = (fillF (putP names (ps.map normB)) (normB e)).1 by rw [HJ.out, if_pos HALL.out])
      have NV := Lib.hid (HV.out.below hb (Nat.le_refl _))
      obtain ⟨w0, rfl⟩ : ∃ w0 : World, w0 = wr := ⟨_, rfl⟩
      clear hb hall
      go_wp2_with fail
      refine (rnorm_any _ e _ NV.out).mono ?_
      rintro r w1 ⟨ov1, rfl, hown1, hb1⟩
      obtain ⟨l, hl2⟩ : ∃ l, normB e = l := ⟨_, rfl⟩
      have hlE : l.length ≤ 5000 := by
        rw [← hl2]
        unfold normB subM
        split
        · rename_i hc
          rw [T.flat_len]
          have hm := may_of hc.1
          exact Nat.le_trans (size_le e hm _ (by omega)) hm.le
        · simp
      have HGOOD := Lib.hid (show ∀ i x, l[i]? = some x → Good l i x by
        rw [← hl2]
        unfold normB subM
        split
        · rename_i hc
          intro i x hx
          have hm := may_of hc.1
          have := good_flat (e := (tree e ((e.length : Int) - 1).toNat).flat 0) (tree e ((e.length : Int) - 1).toNat) 0 (hm.ok _ (by omega)) (Seg.self _) i x hx
          rwa [Nat.zero_add] at this
        · intro i x hx; simp at hx)
      rw [hl2] at hown1 HR HJ3
      have HLN := Lib.hid hl2
      have HB1 := Lib.hid (HB.out.trans (hb1.mono hs))
      have hs1 := HB1.out.size
      have HW := Lib.hid (Nodes.of_own hown1)
      obtain ⟨A1, c1, rfl, y1, y2, _⟩ := Nodes.of_own hown1
      unfold maxLen at y2
      obtain ⟨P, hP⟩ : ∃ P, putP names (ps.map normB) = P := ⟨_, rfl⟩
      have HPD := Lib.hid hP
      rw [hP] at HR HJ3
      have hmk := run_make_row' (P := Tryz.prog) 72 3 (.int .i64 0) 8 Tryz.underlying72 info3 rfl .i64 .i64 l.length (by omega) (by omega)
      have HSTART : Hid (RFillRel w1 P l w1.heap.size 0 (w1.alloc (.cells (madeCells #[.int .i64 0] l.length) 3)) (.slice none 0 0)) := Lib.hid (rfill_start (Below.refl _ _) (by unfold maxLen; omega))
      clear hown1 hb1 hl2 hP
      go_wp2
      go_loopw [8, 10] (fun s0 i wr => ∃ (k : Nat) (ov : Value), ov = s0 ∧ i = .int .i64 k ∧ RFillRel w1 P l w1.heap.size k wr ov) (fun _ i _ => l.length - (intOf i).toNat)
      case atStart => exact ⟨0, _, rfl, rfl, HSTART.out⟩
      case round =>
        obtain ⟨k, ov, rfl, rfl, hrel⟩ := hrel
        have hk := hrel.le
        have HREL := Lib.hid hrel
        have hs := hrel.below.size
        have HB := Lib.hid hrel.below
        have HBW := Lib.hid (HB1.out.trans (hrel.below.mono hs1))
        clear hrel
        by_cases hlt : k < l.length
        · obtain ⟨x, hx⟩ : ∃ x, l[k]? = some x := ⟨_, List.getElem?_eq_getElem hlt⟩
          obtain ⟨A', c', e1, _, _, hA⟩ := HW.out
          simp only [Value.slice.injEq, true_and] at e1
          obtain ⟨rfl, rfl⟩ := e1
          obtain ⟨g, o, rfl, hgl, a0, a1, a2, a3, a4, a5⟩ := hA k x hx
          have b0 := (HB.out.cell (p := ⟨g, o + k * 6, none⟩) hgl).trans a0
          have b1 := (HB.out.cell (p := ⟨g, o + k * 6 + 1, none⟩) hgl).trans a1
          have b2 := (HB.out.cell (p := ⟨g, o + k * 6 + 2, none⟩) hgl).trans a2
          have b3 := (HB.out.cell (p := ⟨g, o + k * 6 + 3, none⟩) hgl).trans a3
          have b4 := (HB.out.cell (p := ⟨g, o + k * 6 + 4, none⟩) hgl).trans a4
          have b5 := (HB.out.cell (p := ⟨g, o + k * 6 + 5, none⟩) hgl).trans a5
          have HC := Lib.hid (And.intro a0 (And.intro a1 (And.intro a2 (And.intro a3 (And.intro a4 a5)))))
          have HX := Lib.hid hx
          have HGX := Lib.hid (HGOOD.out k x hx)
          have hst := fill_step_len P l k x hx
          have hrr := HR.out
          have HNX := Lib.hid (fillF_next P l k x hx)
          have HNS := Lib.hid (HN.out.below HBW.out (Nat.le_refl _))
          clear hx hA a0 a1 a2 a3 a4 a5
          by_cases hp : P x = []
          · rw [if_pos hp] at hst
            have HP0 := Lib.hid hp
            have hcase : ((x.op == 3) = true ∧ placeI names x.name = -1) ∨ (x.op == 3) = false := by
              rcases Bool.eq_false_or_eq_true (x.op == 3) with ho | ho
              · refine .inl ⟨ho, ?_⟩
                rw [← HPD.out] at hp
                unfold putP at hp
                rw [if_pos (beq_iff_eq.1 ho)] at hp
                unfold placeI
                cases hpl : placeM names x.name with
                | none => rfl
                | some j =>
                  exfalso
                  rw [hpl] at hp
                  have hj := (List.getElem?_eq_some_iff.1 (place_some _ _ _ hpl)).1
                  have hjp : j < ps.length := by have := HNP.out; omega
                  simp only [List.getD, List.getElem?_map, List.getElem?_eq_getElem hjp, Option.map_some, Option.getD_some] at hp
                  exact HALL.out _ (List.getElem_mem hjp) hp
              · exact .inr ho
            clear hp
            have hal : (fillF P (l.take k)).2.length = k := by rw [fillF_at, List.length_take]; omega
            obtain ⟨tf, htf⟩ : ∃ tf : Int → Int, tf = fun q => (fillF P (l.take k)).2.getD q.toNat 0 := ⟨_, rfl⟩
            have HTF := Lib.hid htf
            obtain ⟨L, hL⟩ : ∃ L, kidsM x = L := ⟨_, rfl⟩
            have HL := Lib.hid hL
            have hLs : L.length ≤ 3 := by rw [← hL]; exact kids_small x
            have HAT := Lib.hid (show ∀ q ∈ L, 0 ≤ q ∧ q < (l.length : Int) ∧ wr.cell? ⟨w1.heap.size, q.toNat, none⟩ = some (.int .i64 (tf q)) from fun q hq => by
              rw [← hL] at hq
              have hq2 := HGX.out.ahead q hq
              refine ⟨hq2.1, by omega, ?_⟩
              have := HREL.out.row.cellAt q.toNat (by omega)
              rw [this]
              refine intsOf_get _ _ _ ?_
              rw [List.getElem?_append_left (by omega), htf]; show _ = some ((fillF P (l.take k)).2.getD q.toNat 0); rw [List.getD, List.getElem?_eq_getElem (by omega)]; rfl)
            have HMK := Lib.hid (show aimM x (L.map tf) = mkL x.lab (L.map tf) by rw [← hL]; exact aim_mk x (kidsM x) _ HGX.out.bare (by simp) (by simp; exact kids_small x))
            clear htf hL hal
            rcases hcase with ⟨ho, hpi⟩ | ho
            all_goals
              first
                | (have HPI := Lib.hid hpi; clear hpi; go_wp2_with fail; refine (place_any _ names x.name _ HNS.out).mono ?_; rintro r w3 ⟨rfl, rfl⟩; rw [HPI.out]; go_wp2_with fail)
                | (go_wp2_with fail)
              refine (rkids_any x _).mono ?_
              rintro r w3 ⟨kv, rfl, hok, hb3⟩
              rw [HL.out] at hok
              obtain ⟨A2, c2, rfl, z1, z2, hA2⟩ := Ints.of_own hok
              have HA2 := Lib.hid hA2
              have HKO := Lib.hid (show ∀ g2 o2, A2 = some ⟨g2, o2, none⟩ → g2 < w3.heap.size from fun g2 o2 h => by subst h; exact (hok.lt g2 rfl).2)
              have hs3 := hb3.size
              have HB3 := Lib.hid hb3
              have HTO : Hid (ToRel w3 L tf 0 w3 (.slice none 0 0)) := Lib.hid ⟨Nat.zero_le _, World.ownsRow_nil _ _ _ _, Below.refl _ _⟩
              unfold maxLen at z2
              clear hok hA2 hb3 b0 b1 b2 b3 b4 b5
              obtain ⟨wo, rfl⟩ : ∃ wo : World, wo = wr := ⟨_, rfl⟩
              obtain ⟨i0, hi, hz0, hz1, hz2⟩ := info_parts info3
              obtain ⟨i1, hi', hz0', hz1', hz2'⟩ := info_parts info30
              go_wp2
              go_loopw [13, 14] (fun s0 i wr => ∃ (j : Nat) (tv : Value), tv = s0 ∧ i = .int .i64 j ∧ ToRel w3 L tf j wr tv) (fun _ i _ => L.length - (intOf i).toNat)
              case atStart => exact ⟨0, _, rfl, rfl, HTO.out⟩
              case round =>
                obtain ⟨j, tv, rfl, rfl, hrel⟩ := hrel
                have hj := hrel.le
                have HT := Lib.hid hrel
                have hst3 := hrel.below.size
                have HBT := Lib.hid hrel.below
                have HBO := Lib.hid (HB3.out.trans (hrel.below.mono hs3))
                clear hrel
                by_cases hlj : j < L.length
                · obtain ⟨q, hq⟩ : ∃ q, L[j]? = some q := ⟨_, List.getElem?_eq_getElem hlj⟩
                  obtain ⟨g2, o2, rfl, hg2, d0'⟩ := HA2.out j q hq
                  have d0 := (HBT.out.cell (p := ⟨g2, o2 + j, none⟩) hg2).trans d0'
                  obtain ⟨hq0, hql, hqc⟩ := HAT.out q (List.mem_of_getElem? hq)
                  obtain ⟨m, rfl⟩ := Int.eq_ofNat_of_zero_le hq0
                  rw [Int.toNat_natCast] at hqc
                  have hml : m < l.length := by omega
                  have e0 := (HBO.out.cell (p := ⟨w1.heap.size, m, none⟩) (World.block_lt_of_cell? _ _ hqc)).trans hqc
                  have HQ := Lib.hid (show (L.take (j + 1)).map tf = (L.take j).map tf ++ [tf (m : Int)] by rw [List.take_add_one, hq]; simp)
                  clear hq d0' hqc hq0 hql
                  go_wp2_with (at_builtin; refine wpList_append_own _ rfl (.tmp 81) (.tmp 89) 72 rfl w3.heap.size 3 i0 _ 1 8 Tryz.underlying72 hi hz0 hz1 hz2 rfl (by decide) _ _ _ rfl (HT.out.row.alloc _) ⟨wr.heap.size, 0, none⟩ 1 1 [.int .i64 (tf (m : Int))] rfl rfl (cell_one_new _ _ _) (by intro u hu; simp at hu; subst hu; rfl) (by unfold maxLen; omega) (by omega) (by simp; omega) ?_)
                  intro tv' w6 hrow6 hg6 _
                  have HR6 := Lib.hid hrow6
                  have HB6 := Lib.hid ((HBT.out.alloc hst3 (.cells #[.int .i64 (tf (m : Int))] 3)).grown hg6 (by simp; omega) (fun jj hjj => (HT.out.row.lt jj hjj).1))
                  clear hrow6 hg6
                  go_wp2
                  refine ⟨⟨j + 1, _, rfl, by go_num, by omega, by have h6 := HR6.out; rw [← List.map_take] at h6; rw [HQ.out, ints_snoc]; exact h6, HB6.out⟩, by simp [intOf]; omega⟩
                · have hjl : j = L.length := by omega
                  subst hjl
                  have HTI : Hid (Ints wr tv (L.map tf)) := Lib.hid (Ints.of_own (by have := HT.out.row; rw [List.take_length] at this; rw [List.length_map]; exact this))
                  have hlm : (L.map tf).length ≤ 3 := by rw [List.length_map]; exact hLs
                  have b0 := (HBO.out.cell (p := ⟨g, o + k * 6, none⟩) (by simp; omega)).trans ((HB.out.cell (p := ⟨g, o + k * 6, none⟩) hgl).trans HC.out.1)
                  have b1 := (HBO.out.cell (p := ⟨g, o + k * 6 + 1, none⟩) (by simp; omega)).trans ((HB.out.cell (p := ⟨g, o + k * 6 + 1, none⟩) hgl).trans HC.out.2.1)
                  have b2 := (HBO.out.cell (p := ⟨g, o + k * 6 + 2, none⟩) (by simp; omega)).trans ((HB.out.cell (p := ⟨g, o + k * 6 + 2, none⟩) hgl).trans HC.out.2.2.1)
                  have b3 := (HBO.out.cell (p := ⟨g, o + k * 6 + 3, none⟩) (by simp; omega)).trans ((HB.out.cell (p := ⟨g, o + k * 6 + 3, none⟩) hgl).trans HC.out.2.2.2.1)
                  have b4 := (HBO.out.cell (p := ⟨g, o + k * 6 + 4, none⟩) (by simp; omega)).trans ((HB.out.cell (p := ⟨g, o + k * 6 + 4, none⟩) hgl).trans HC.out.2.2.2.2.1)
                  have b5 := (HBO.out.cell (p := ⟨g, o + k * 6 + 5, none⟩) (by simp; omega)).trans ((HB.out.cell (p := ⟨g, o + k * 6 + 5, none⟩) hgl).trans HC.out.2.2.2.2.2)
                  obtain ⟨N, hN⟩ : ∃ N, (fillF P (l.take k)).1.length = N := ⟨_, rfl⟩
                  have HNN := Lib.hid hN
                  have hNm : N + 1 ≤ 80000 := by omega
                  have HOO := Lib.hid (own_below HREL.out.own HBO.out)
                  rw [hN] at HOO
                  clear hN
                  go_wp2_with fail
                  refine (aim_any x tv (L.map tf) _ HTI.out hlm).mono ?_
                  rintro r w5 ⟨rfl, hb5⟩
                  obtain ⟨y, hy⟩ : ∃ y, aimM x (L.map tf) = y := ⟨_, rfl⟩
                  have HY := Lib.hid hy
                  rw [hy]
                  have hs5 := hb5.size
                  have hswo := HBO.out.size
                  have HB5 := Lib.hid (HBO.out.trans (hb5.mono hswo))
                  have HO5 := Lib.hid (own_below HOO.out hb5)
                  clear hy hb5 b0 b1 b2 b3 b4 b5
                  go_wp2_with (at_builtin; refine wpList_append_own _ rfl (.tmp 91) (.tmp 98) 32 rfl w1.heap.size 70 i1 _ 6 56 Tryz.underlying32 hi' hz0' hz1' hz2' rfl (by decide) _ N _ rfl (HO5.out.alloc _) ⟨w5.heap.size, 0, none⟩ 1 1 (ndCells y) rfl rfl (World.news_of_block (t := 70) (fr := (0, 0)) (heap_alloc_new _ _)) (by simp [ndCells, Value.oneCell']) (by unfold maxLen; omega) (by omega) (by simp; omega) ?_)
                  intro v' w6 hown6 hg6 _
                  have HE := Lib.hid (show (fillF P (l.take (k + 1))).1 = (fillF P (l.take k)).1 ++ [y] by rw [HNX.out, ← HY.out, HMK.out]; unfold fillStep; simp only [HP0.out, if_true]; rw [HL.out, HTF.out])
                  have hmid := HREL.out.mid (N := N + 1) (HB5.out.alloc (by omega) _) hg6 (by rw [HE.out, List.length_append, HNN.out]; rfl) (by rw [HE.out, nds_snoc]; exact hown6)
                  have HMID := Lib.hid hmid
                  obtain ⟨old, hold⟩ : ∃ old, ((fillF P (l.take k)).2 ++ List.replicate (l.length - k) (0 : Int))[k]? = some old := ⟨_, List.getElem?_eq_getElem (by rw [List.length_append, fillF_at, List.length_take, List.length_replicate]; omega)⟩
                  have ci := (hmid.row.cellAt k (by omega)).trans (intsOf_get _ _ _ hold)
                  have fi := hmid.row.frozenAt k
                  obtain ⟨A5, c5, hv5, x3, x4, _⟩ := Nodes.of_own (l := (fillF P (l.take (k + 1))).1) (by rw [hmid.len]; exact hmid.own)
                  rw [hmid.len] at hv5 x3
                  unfold maxLen at x4
                  subst hv5
                  clear hown6 hg6 hmid hold
                  go_wp2
                  have R := Lib.hid (HMID.out.step HX.out (Nat.le_refl _))
                  have e1 : ((N + 1 : Nat) : Int) - 1 = (N : Int) := by omega
                  rw [e1] at R
                  refine ⟨⟨k + 1, _, rfl, by go_num, R.out⟩, by simp [intOf]; omega⟩
          · rw [if_neg hp] at hst
            have hp0 : 0 < (P x).length := List.length_pos_iff.2 hp
            have HP0 := Lib.hid hp
            have hcase : (x.op == 3) = true ∧ ∃ j p, placeM names x.name = some j ∧ ps[j]? = some p ∧ normB p = P x := by
              rw [← HPD.out] at hp ⊢
              unfold putP at hp ⊢
              by_cases ho : x.op = 3
              · rw [if_pos ho] at hp ⊢
                refine ⟨by rw [beq_iff_eq]; exact ho, ?_⟩
                cases hpl : placeM names x.name with
                | none => rw [hpl] at hp; exact absurd rfl hp
                | some j =>
                  have hj := (List.getElem?_eq_some_iff.1 (place_some _ _ _ hpl)).1
                  have hjp : j < ps.length := by have := HNP.out; omega
                  exact ⟨j, ps[j], rfl, List.getElem?_eq_getElem hjp, by simp [List.getD, List.getElem?_eq_getElem hjp]⟩
              · rw [if_neg ho] at hp; exact absurd rfl hp
            obtain ⟨ho, j, p, hpl, hpj, hq⟩ := hcase
            have HPI := Lib.hid (show placeI names x.name = (j : Int) by unfold placeI; rw [hpl])
            have hjl := (List.getElem?_eq_some_iff.1 hpj).1
            obtain ⟨g2, o2, u, rfl, hgb2, hg2, d0, hu, hul⟩ := HAP.out j p hpj
            have c0 := (HBW.out.cell (p := ⟨g2, o2 + j, none⟩) hg2).trans d0
            have HU := Lib.hid (hu.below HBW.out (Nat.le_refl _))
            have HQ := Lib.hid hq
            clear hp hpl hpj hq d0 hu hul
            go_wp2_with fail
            refine (place_any _ names x.name _ HNS.out).mono ?_
            rintro r w3 ⟨rfl, rfl⟩
            rw [HPI.out]
            go_wp2_with fail
            refine (rnorm_any _ p _ HU.out).mono ?_
            rintro r w3 ⟨v3, rfl, hown3, hb3⟩
            rw [HQ.out] at hown3
            have hs3 := hb3.size
            have HB3 := Lib.hid hb3
            have HO3 := Lib.hid hown3
            have HOV := Lib.hid (own_below HREL.out.own hb3)
            clear hown3 hb3 b0 b1 b2 b3 b4 b5
            go_wp2_with fail
            refine (behind_own ov v3 (fillF P (l.take k)).1 (P x) w1.heap.size _ HOV.out (by omega) (Nodes.of_own HO3.out) (fun h g o n c hh hk => by
              subst hh
              have h4 := (HREL.out.own.lt g hk).2
              have h5 := (HO3.out.lt g rfl).1
              omega) (by omega)).mono ?_
            rintro r w4 ⟨ov4, rfl, hown4, hg4, -⟩
            obtain ⟨A4, c4, rfl, x1, x2, _⟩ := Nodes.of_own hown4
            obtain ⟨N, hN⟩ : ∃ N, ((fillF P (l.take k)).1 ++ (P x).map (onNd ((fillF P (l.take k)).1.length : Int))).length = N := ⟨_, rfl⟩
            have hNm : N ≤ 80000 := by rw [← hN, List.length_append, List.length_map]; omega
            have HNN := Lib.hid hN
            rw [hN] at hown4 x1 ⊢
            unfold maxLen at x2
            have HE := Lib.hid (show (fillF P (l.take (k + 1))).1 = (fillF P (l.take k)).1 ++ (P x).map (onNd ((fillF P (l.take k)).1.length : Int)) by rw [HNX.out]; unfold fillStep; simp only [HP0.out, if_false]; rfl)
            have hmid := HREL.out.mid (N := N) HB3.out hg4 (by rw [HE.out]; exact HNN.out) (by rw [HE.out]; exact hown4)
            have HMID := Lib.hid hmid
            obtain ⟨old, hold⟩ : ∃ old, ((fillF P (l.take k)).2 ++ List.replicate (l.length - k) (0 : Int))[k]? = some old := ⟨_, List.getElem?_eq_getElem (by rw [List.length_append, fillF_at, List.length_take, List.length_replicate]; omega)⟩
            have ci := (hmid.row.cellAt k (by omega)).trans (intsOf_get _ _ _ hold)
            have fi := hmid.row.frozenAt k
            clear hown4 hg4 hN hmid hold
            go_wp2
            have R := Lib.hid (HMID.out.step HX.out (Nat.le_refl _))
            refine ⟨⟨k + 1, _, rfl, by go_num, R.out⟩, by simp [intOf]; omega⟩
        · have hkl : k = l.length := by omega
          subst hkl
          go_wp2
          go_ret
          have h5 := HREL.out.own
          rw [List.take_length] at h5
          rw [HJ3.out]
          exact ⟨_, rfl, own_base h5 hs1, HBW.out⟩
theorem norm_eq {e : List Nd} (h : May e) : normB e = normM e := by
  have hp := h.pos
  unfold normB subM
  rw [if_pos ⟨may_yes h, by omega, by omega⟩, show ((e.length : Int) - 1).toNat = e.length - 1 by omega]; rfl
def putF (names : List Bytes) (ps : List (List Nd)) (x : Lab) : Option T := if x.op = 3 then (match placeM names x.name with | some k => (ps[k]?).map root | none => none) else none
theorem putF_op (names : List Bytes) (ps : List (List Nd)) (x : Lab) (u : T) (h : putF names ps x = some u) : x.op = 3 := by
  unfold putF at h
  split at h
  · assumption
  · simp at h
theorem putF_some (names : List Bytes) (ps : List (List Nd)) (hps : ∀ p ∈ ps, May p) (x : Lab) (u : T) (h : putF names ps x = some u) : x.op = 3 ∧ u.okB = true ∧ u.lab.op ≠ 28 := by
  refine ⟨putF_op names ps x u h, ?_⟩
  unfold putF at h
  split at h
  · cases hp : placeM names x.name with
    | none => rw [hp] at h; simp at h
    | some k =>
      rw [hp] at h
      simp only [Option.map_eq_some_iff] at h
      obtain ⟨p, hpk, rfl⟩ := h
      have hm := hps p (List.mem_of_getElem? hpk)
      exact ⟨hm.root_ok, hm.root_lab⟩
  · simp at h
theorem putP_eq (names : List Bytes) (ps : List (List Nd)) (hn : names.length = ps.length) (hps : ∀ p ∈ ps, May p) (x : Nd) : putP names (ps.map normB) x = match putF names ps x.lab with | some u => u.flat 0 | none => [] := by
  unfold putP putF
  show (if x.op = 3 then _ else _) = match (if x.op = 3 then (match placeM names x.name with | some k => (ps[k]?).map root | none => none) else none) with | some u => u.flat 0 | none => []
  by_cases ho : x.op = 3
  · rw [if_pos ho, if_pos ho]
    cases hp : placeM names x.name with
    | none => rfl
    | some k =>
      have hk := (List.getElem?_eq_some_iff.1 (place_some _ _ _ hp)).1
      have hkp : k < ps.length := by omega
      simp only [List.getElem?_eq_getElem hkp, Option.map_some, List.getD, List.getElem?_map, Option.getD_some]
      rw [norm_eq (hps _ (List.getElem_mem hkp))]; rfl
  · rw [if_neg ho, if_neg ho]
theorem put_size (f : Lab → Option T) (m : Nat) (hf : ∀ x u, f x = some u → u.size ≤ m) (hm : 1 ≤ m) (t : T) : (t.put f).size ≤ t.size * m := by
  induction t with
  | l0 x =>
    simp only [T.put, T.size, Nat.one_mul]
    cases hx : f x with
    | none => simpa [T.size] using hm
    | some u => exact hf x u hx
  | l1 x p ih => simp only [T.put, T.size, Nat.add_mul]; omega
  | l2 x p q ih1 ih2 => simp only [T.put, T.size, Nat.add_mul]; omega
  | l3 x p q r ih1 ih2 ih3 => simp only [T.put, T.size, Nat.add_mul]; omega
theorem putF_size (names : List Bytes) (ps : List (List Nd)) (hps : ∀ p ∈ ps, May p) (m : Nat) (hl : ∀ p ∈ ps, p.length ≤ m) (x : Lab) (u : T) (h : putF names ps x = some u) : u.size ≤ m := by
  unfold putF at h
  split at h
  · cases hp : placeM names x.name with
    | none => rw [hp] at h; simp at h
    | some k =>
      rw [hp] at h
      simp only [Option.map_eq_some_iff] at h
      obtain ⟨p, hpk, rfl⟩ := h
      have hmem := List.mem_of_getElem? hpk
      unfold root
      rw [(hps p hmem).size]; exact hl p hmem
  · simp at h
theorem putM_flat {e : List Nd} (he : May e) (names : List Bytes) (ps : List (List Nd)) (hn : names.length = ps.length) (hps : ∀ p ∈ ps, May p) (hl : ∀ p ∈ ps, p.length ≤ 100000) : putM e names ps = ((root e).put (putF names ps)).flat 0 := by
  have hne : normB e ≠ [] := fun h => by rw [(norm_nil_iff e)] at h; rw [may_yes he] at h; cases h
  have hle := he.le
  have hsz := put_size (putF names ps) 100000 (fun x u h => putF_size names ps hps 100000 hl x u h) (by omega) (root e)
  have hre : (root e).size = e.length := he.size
  obtain ⟨A, _, _, h3⟩ := fill_flat (putP names (ps.map normB)) (putF names ps) (putP_eq names ps hn hps) (putF_op names ps) (root e) 0 ([], []) he.root_ok rfl (by simp; rw [hre] at hsz; omega)
  rw [putM_eq, if_neg hne, if_pos hn, if_pos (fun p hp h => by rw [(norm_nil_iff p), may_yes (hps p hp)] at h; cases h), norm_eq he]
  unfold fillF normM
  rw [h3]; simp
theorem room_put {e : List Nd} (he : ∀ x, x ∈ normB e → True) (names : List Bytes) (ps : List (List Nd)) (hl : ∀ p ∈ ps, p.length ≤ 100) (hel : (normB e).length ≤ 100) : roomOf (putP names (ps.map normB)) (normB e) ≤ 80000 := by
  refine Nat.le_trans (room_le _ _ 100 (fun x _ => ?_)) (by omega)
  unfold putP
  split
  · cases placeM names x.name with
    | none => simp
    | some k =>
      simp only [List.getD, List.getElem?_map]
      cases hp : ps[k]? with
      | none => simp
      | some p =>
        simp only [Option.map_some, Option.getD_some]
        have := hl p (List.mem_of_getElem? hp)
        refine Nat.le_trans ?_ this
        unfold normB subM
        split
        · rename_i hc
          rw [T.flat_len]
          exact size_le p (may_of hc.1) _ (by omega)
        · simp
  · simp
theorem norm_len_le (e : List Nd) : (normB e).length ≤ e.length := by
  unfold normB subM
  split
  · rename_i hc
    rw [T.flat_len]
    exact size_le e (may_of hc.1) _ (by omega)
  · simp
end Go.Proofs.YtobkcdkffcenbaaGreatDoor.Tr

