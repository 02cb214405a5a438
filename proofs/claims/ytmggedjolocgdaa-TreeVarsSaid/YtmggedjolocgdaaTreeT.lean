/- Trees counted on, put together and with trees in the places of leaves; the names in a tree. Conditions: none. -/
import Derived.Test.YtmggedjolocgdaaTreeCa
namespace Go.Proofs.Ytmggedjolocgdaa.Tr
open Go.RowKit
set_option linter.unusedVariables false
set_option linter.unusedSimpArgs false

theorem onM_none (f : Int) : onM f (-1) = -1 := by unfold onM; rw [if_neg (by omega)]
theorem onM_nat (f k : Nat) (h : k + f ≤ 1000000000) : onM (f : Int) (k : Int) = ((k + f : Nat) : Int) := by
  unfold onM
  rw [if_pos (by omega)]
  unfold wrap64
  omega
theorem onNd_mk (f : Int) (x : Lab) (l : List Int) : onNd f (mkL x l) = mkL x (l.map (onM f)) := by
  match l with
  | [] => simp [onNd, mkL, onM_none]
  | [_] => simp [onNd, mkL, onM_none]
  | [_, _] => by_cases h : x.op = 28 <;> simp [onNd, mkL, onM_none, h]
  | _ :: _ :: _ :: _ => simp [onNd, mkL]
theorem flat_shift (t : T) : ∀ b f : Nat, b + f + t.size ≤ 1000000000 → (t.flat b).map (onNd (f : Int)) = t.flat (b + f) := by
  induction t with
  | l0 x => intro b f _; simp [T.flat, onNd_mk]
  | l1 x p ih =>
    intro b f h
    have hp := p.size_pos
    simp only [T.size] at h
    simp only [T.flat, List.map_append, List.map_cons, List.map_nil, onNd_mk]
    rw [ih b f (by omega), onM_nat _ _ (by omega), show b + p.size - 1 + f = b + f + p.size - 1 by omega]
  | l2 x p q ih1 ih2 =>
    intro b f h
    have hp := p.size_pos
    have hq := q.size_pos
    simp only [T.size] at h
    simp only [T.flat, List.map_append, List.map_cons, List.map_nil, onNd_mk]
    rw [ih1 b f (by omega), ih2 _ f (by omega), onM_nat _ _ (by omega), onM_nat _ _ (by omega), show b + p.size - 1 + f = b + f + p.size - 1 by omega, show b + p.size + q.size - 1 + f = b + f + p.size + q.size - 1 by omega, show b + p.size + f = b + f + p.size by omega]
  | l3 x p q r ih1 ih2 ih3 =>
    intro b f h
    have hp := p.size_pos
    have hq := q.size_pos
    have hr := r.size_pos
    simp only [T.size] at h
    simp only [T.flat, List.map_append, List.map_cons, List.map_nil, onNd_mk]
    rw [ih1 b f (by omega), ih2 _ f (by omega), ih3 _ f (by omega), onM_nat _ _ (by omega), onM_nat _ _ (by omega), onM_nat _ _ (by omega), show b + p.size - 1 + f = b + f + p.size - 1 by omega, show b + p.size + q.size - 1 + f = b + f + p.size + q.size - 1 by omega, show b + p.size + q.size + r.size - 1 + f = b + f + p.size + q.size + r.size - 1 by omega, show b + p.size + f = b + f + p.size by omega, show b + p.size + q.size + f = b + f + p.size + q.size by omega]
theorem behind_flat (a : List Nd) (t : T) (h : a.length + t.size ≤ 1000000000) : behindM a (t.flat 0) = a ++ t.flat a.length := by
  unfold behindM; rw [flat_shift t 0 a.length (by omega), Nat.zero_add]

/-- A tree with trees in the places of leaves. -/
def T.put (f : Lab → Option T) : T → T
  | .l0 x => (f x).getD (.l0 x)
  | .l1 x p => .l1 x (p.put f)
  | .l2 x p q => .l2 x (p.put f) (q.put f)
  | .l3 x p q r => .l3 x (p.put f) (q.put f) (r.put f)
/-- One node more of what is put: the nodes, and where each node's last one stands. -/
def fillStep (P : Nd → List Nd) (s : List Nd × List Int) (x : Nd) : List Nd × List Int :=
  let out := if P x = [] then s.1 ++ [mkL x.lab ((kidsM x).map fun k => s.2.getD k.toNat 0)] else behindM s.1 (P x)
  (out, s.2 ++ [(out.length : Int) - 1])
def fillF (P : Nd → List Nd) (e : List Nd) : List Nd × List Int := e.foldl (fillStep P) ([], [])
theorem fillF_next (P : Nd → List Nd) (e : List Nd) (k : Nat) (x : Nd) (h : e[k]? = some x) : fillF P (e.take (k + 1)) = fillStep P (fillF P (e.take k)) x := by
  unfold fillF; rw [List.take_add_one, h, show (some x).toList = [x] from rfl, List.foldl_append]; rfl
theorem fillF_at (P : Nd → List Nd) (e : List Nd) : (fillF P e).2.length = e.length := by
  have key : ∀ (e : List Nd) (s : List Nd × List Int), (e.foldl (fillStep P) s).2.length = s.2.length + e.length := by
    intro e
    induction e with
    | nil => intro s; rfl
    | cons a r ih => intro s; rw [List.foldl_cons, ih]; simp [fillStep]; omega
  unfold fillF; rw [key]; simp
/-- What the fold adds to the nodes. -/
def roomOf (P : Nd → List Nd) (e : List Nd) : Nat := (e.map fun x => if P x = [] then 1 else (P x).length).sum
theorem fillF_len (P : Nd → List Nd) (e : List Nd) : (fillF P e).1.length = roomOf P e := by
  have key : ∀ (e : List Nd) (s : List Nd × List Int), (e.foldl (fillStep P) s).1.length = s.1.length + roomOf P e := by
    intro e
    induction e with
    | nil => intro s; simp [roomOf]
    | cons a r ih =>
      intro s
      rw [List.foldl_cons, ih]
      have : (fillStep P s a).1.length = s.1.length + if P a = [] then 1 else (P a).length := by
        unfold fillStep
        by_cases h : P a = []
        · simp [h]
        · simp [h, behind_len]
      rw [this]
      unfold roomOf
      rw [List.map_cons, List.sum_cons]; omega
  unfold fillF; rw [key]; simp
theorem room_take (P : Nd → List Nd) (e : List Nd) (k : Nat) : roomOf P (e.take k) ≤ roomOf P e := by
  conv => rhs; rw [← List.take_append_drop k e]
  unfold roomOf; rw [List.map_append, List.sum_append]; omega
theorem room_le (P : Nd → List Nd) (e : List Nd) (m : Nat) (h : ∀ x ∈ e, (P x).length ≤ m) : roomOf P e ≤ e.length * (m + 1) := by
  induction e with
  | nil => simp [roomOf]
  | cons a r ih =>
    have h1 := ih (fun x hx => h x (by simp [hx]))
    have h2 := h a (by simp)
    unfold roomOf at *
    rw [List.map_cons, List.sum_cons, List.length_cons, Nat.add_mul, Nat.one_mul]
    split <;> omega

theorem getD_snoc (l A : List Int) (k : Nat) (v : Int) (h : A[k]? = some v) : (l ++ A).getD (l.length + k) 0 = v := by
  rw [List.getD, List.getElem?_append_right (by omega), Nat.add_sub_cancel_left, h]; rfl
/-- What the fold makes of a tree's nodes. -/
theorem fill_flat (P : Nd → List Nd) (f : Lab → Option T) (hP : ∀ x : Nd, P x = match f x.lab with | some u => u.flat 0 | none => []) (hf : ∀ x u, f x = some u → x.op = 3) (t : T) :
    ∀ (b : Nat) (s : List Nd × List Int), t.okB = true → s.2.length = b → s.1.length + (t.put f).size ≤ 1000000000 →
      ∃ A : List Int, A.length = t.size ∧ A[t.size - 1]? = some ((s.1.length + (t.put f).size - 1 : Nat) : Int) ∧ (t.flat b).foldl (fillStep P) s = (s.1 ++ (t.put f).flat s.1.length, s.2 ++ A) := by
  have noP : ∀ (x : Lab) (l : List Int), x.op ≠ 3 → P (mkL x l) = [] := fun x l h => by
    rw [hP, mkL_lab]
    cases hfx : f x with
    | none => rfl
    | some u => exact absurd (hf x u hfx) h
  have step : ∀ (s : List Nd × List Int) (x : Lab) (l : List Int), x.op ≠ 3 → fitsB x.op l.length = true → (∀ k ∈ l, k ≠ -1) → fillStep P s (mkL x l) = (s.1 ++ [mkL x (l.map fun k => s.2.getD k.toNat 0)], s.2 ++ [((s.1.length + 1 - 1 : Nat) : Int)]) := fun s x l h3 hfit hl => by
    unfold fillStep
    rw [noP x l h3, mkL_lab, kids_mkL x l hfit hl]
    simp
  induction t with
  | l0 x =>
    intro b s ho hb hsz
    have hfit : fitsB x.op 0 = true := okB_fits _ ho
    show ∃ A : List Int, A.length = 1 ∧ _ ∧ (fillStep P s (mkL x [])) = _
    simp only [T.put] at hsz ⊢
    unfold fillStep
    rw [hP, mkL_lab]
    cases hfx : f x with
    | none =>
      refine ⟨[(s.1.length : Int)], rfl, by simp [T.size], ?_⟩
      rw [kids_mkL x [] hfit (by simp)]
      simp [T.flat]
    | some u =>
      rw [hfx] at hsz
      simp only [Option.getD_some] at hsz ⊢
      have hu := u.size_pos
      have hne : u.flat 0 ≠ [] := by intro h; have := u.flat_len 0; rw [h] at this; simp at this; omega
      refine ⟨[((s.1.length + u.size - 1 : Nat) : Int)], rfl, by simp [T.size], ?_⟩
      simp only [hne, if_false]
      rw [behind_flat _ _ hsz, List.length_append, T.flat_len]
      congr 3; omega
  | l1 x p ih =>
    intro b s ho hb hsz
    have hfit : fitsB x.op 1 = true := okB_fits _ ho
    have h3 : x.op ≠ 3 := by intro h; rw [h] at hfit; simp [fitsB, unaryB, binaryB] at hfit
    simp only [T.okB, Bool.and_eq_true] at ho
    have hp := p.size_pos
    have hpp := (p.put f).size_pos
    simp only [T.put, T.size] at hsz ⊢
    obtain ⟨A, hA1, hA2, hA3⟩ := ih b s ho.2 hb (by omega)
    simp only [T.flat]
    rw [List.foldl_append, hA3, List.foldl_cons, List.foldl_nil, step _ x [_] h3 hfit (by intro k hk; simp at hk; omega)]
    refine ⟨A ++ [((s.1.length + ((p.put f).size + 1) - 1 : Nat) : Int)], by simp [hA1], ?_, ?_⟩
    · rw [List.getElem?_append_right (by omega), hA1]; simp
    · simp only [List.map_cons, List.map_nil, Int.toNat_natCast, List.append_assoc, List.length_append, T.flat_len]
      rw [show b + p.size - 1 = s.2.length + (p.size - 1) by omega, getD_snoc _ _ _ _ hA2]
      simp [Nat.add_assoc]
  | l2 x p q ih1 ih2 =>
    intro b s ho hb hsz
    have hfit : fitsB x.op 2 = true := okB_fits _ ho
    have h3 : x.op ≠ 3 := by intro h; rw [h] at hfit; simp [fitsB, unaryB, binaryB] at hfit
    simp only [T.okB, Bool.and_eq_true] at ho
    have hp := p.size_pos
    have hpp := (p.put f).size_pos
    have hq := q.size_pos
    have hqp := (q.put f).size_pos
    simp only [T.put, T.size] at hsz ⊢
    obtain ⟨A, hA1, hA2, hA3⟩ := ih1 b s ho.1.2 hb (by omega)
    obtain ⟨B, hB1, hB2, hB3⟩ := ih2 (b + p.size) (s.1 ++ (p.put f).flat s.1.length, s.2 ++ A) ho.2 (by simp [hA1, hb]) (by simp [T.flat_len]; omega)
    simp only [List.length_append, T.flat_len] at hB2 hB3
    simp only [T.flat]
    rw [List.foldl_append, List.foldl_append, hA3, hB3, List.foldl_cons, List.foldl_nil, step _ x [_, _] h3 hfit (by intro k hk; simp at hk; omega)]
    refine ⟨A ++ B ++ [((s.1.length + ((p.put f).size + (q.put f).size + 1) - 1 : Nat) : Int)], by simp [hA1, hB1]; omega, ?_, ?_⟩
    · rw [List.getElem?_append_right (by simp; omega)]; simp [hA1, hB1]
    · simp only [List.map_cons, List.map_nil, Int.toNat_natCast]
      have g1 : (s.2 ++ A ++ B).getD (b + p.size - 1) 0 = ((s.1.length + (p.put f).size - 1 : Nat) : Int) := by
        rw [List.append_assoc, show b + p.size - 1 = s.2.length + (p.size - 1) by omega]
        exact getD_snoc _ _ _ _ (by rw [List.getElem?_append_left (by omega)]; exact hA2)
      have g2 : (s.2 ++ A ++ B).getD (b + p.size + q.size - 1) 0 = ((s.1.length + (p.put f).size + (q.put f).size - 1 : Nat) : Int) := by
        rw [show b + p.size + q.size - 1 = (s.2 ++ A).length + (q.size - 1) by simp [hA1]; omega]
        exact getD_snoc _ _ _ _ hB2
      rw [g1, g2]
      simp [Nat.add_assoc, T.flat_len]
  | l3 x p q r ih1 ih2 ih3 =>
    intro b s ho hb hsz
    have hfit : fitsB x.op 3 = true := okB_fits _ ho
    have h3 : x.op ≠ 3 := by intro h; rw [h] at hfit; simp [fitsB, unaryB, binaryB] at hfit
    simp only [T.okB, Bool.and_eq_true] at ho
    have hp := p.size_pos
    have hpp := (p.put f).size_pos
    have hq := q.size_pos
    have hqp := (q.put f).size_pos
    have hr := r.size_pos
    have hrp := (r.put f).size_pos
    simp only [T.put, T.size] at hsz ⊢
    obtain ⟨A, hA1, hA2, hA3⟩ := ih1 b s ho.1.1.2 hb (by omega)
    obtain ⟨B, hB1, hB2, hB3⟩ := ih2 (b + p.size) (s.1 ++ (p.put f).flat s.1.length, s.2 ++ A) ho.1.2 (by simp [hA1, hb]) (by simp [T.flat_len]; omega)
    simp only [List.length_append, T.flat_len] at hB2 hB3
    obtain ⟨C, hC1, hC2, hC3⟩ := ih3 (b + p.size + q.size) (s.1 ++ (p.put f).flat s.1.length ++ (q.put f).flat (s.1.length + (p.put f).size), s.2 ++ A ++ B) ho.2 (by simp [hA1, hB1, hb]; omega) (by simp [T.flat_len]; omega)
    simp only [List.length_append, T.flat_len] at hC2 hC3
    simp only [T.flat]
    rw [List.foldl_append, List.foldl_append, List.foldl_append, hA3, hB3, hC3, List.foldl_cons, List.foldl_nil, step _ x [_, _, _] h3 hfit (by intro k hk; simp at hk; omega)]
    refine ⟨A ++ B ++ C ++ [((s.1.length + ((p.put f).size + (q.put f).size + (r.put f).size + 1) - 1 : Nat) : Int)], by simp [hA1, hB1, hC1]; omega, ?_, ?_⟩
    · rw [List.getElem?_append_right (by simp; omega), show p.size + q.size + r.size + 1 - 1 - (A ++ B ++ C).length = 0 by simp [hA1, hB1, hC1]; omega]; rfl
    · simp only [List.map_cons, List.map_nil, Int.toNat_natCast]
      have g1 : (s.2 ++ A ++ B ++ C).getD (b + p.size - 1) 0 = ((s.1.length + (p.put f).size - 1 : Nat) : Int) := by
        rw [List.append_assoc, List.append_assoc, show b + p.size - 1 = s.2.length + (p.size - 1) by omega]
        exact getD_snoc _ _ _ _ (by rw [List.getElem?_append_left (by omega)]; exact hA2)
      have g2 : (s.2 ++ A ++ B ++ C).getD (b + p.size + q.size - 1) 0 = ((s.1.length + (p.put f).size + (q.put f).size - 1 : Nat) : Int) := by
        rw [List.append_assoc (s.2 ++ A), show b + p.size + q.size - 1 = (s.2 ++ A).length + (q.size - 1) by simp [hA1]; omega]
        exact getD_snoc _ _ _ _ (by rw [List.getElem?_append_left (by omega)]; exact hB2)
      have g3 : (s.2 ++ A ++ B ++ C).getD (b + p.size + q.size + r.size - 1) 0 = ((s.1.length + (p.put f).size + (q.put f).size + (r.put f).size - 1 : Nat) : Int) := by
        rw [show b + p.size + q.size + r.size - 1 = (s.2 ++ A ++ B).length + (r.size - 1) by simp [hA1, hB1]; omega]
        exact getD_snoc _ _ _ _ hC2
      rw [g1, g2, g3]
      simp [Nat.add_assoc, T.flat_len]
end Go.Proofs.Ytmggedjolocgdaa.Tr
