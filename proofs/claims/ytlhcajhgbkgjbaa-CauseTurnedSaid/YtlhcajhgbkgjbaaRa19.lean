/- For the statements of layer cause: an order's error; slices of equations cut and turned round. Conditions: none. -/
import Derived.Test.YtlhcajhgbkgjbaaRa18
set_option linter.unusedVariables false
set_option linter.unusedSimpArgs false
namespace Go.Proofs.Ytlhcajhgbkgjbaa.Ca
open Go.ChangeShapes Go.WideShapes Go.ChangeAt Go.RowKit Go.Proofs.Ytlhcajhgbkgjbaa.Tr
open Go.Proofs.Ytlhcajhgbkgjbaa.Pg (Eqn)
set_option linter.unusedVariables false
set_option linter.unusedSimpArgs false

def errO : Option (List Nat) → Int
  | none => 12
  | some _ => 0
def ErrPost (w : World) (z : Int) (e : Ending) (w' : World) : Prop := ∃ A n c, e = .returned (.tuple #[.slice A n c, .int .i64 z]) ∧ Below w.heap.size w w'
theorem ord_err {v : Value} {l : List Eqn} {z : Int} {w : World} (hv : EqsAt w v l) (hn : l.length ≤ 4000) (h : errO (orderM (qsOf l)) = z) : Calls Try.prog 9 #[v] w (ErrPost w z) := by
  refine (order_any v l w hv hn).mono ?_
  cases ho : orderM (qsOf l) with
  | none =>
    rw [ho] at h
    rintro e w' ⟨hb, he⟩
    have he : e = .returned (.tuple #[.slice none 0 0, .int .i64 12]) := he
    subst h
    exact ⟨none, 0, 0, he, hb⟩
  | some o =>
    rw [ho] at h
    rintro e w' ⟨hb, ov, rfl, hr⟩
    subst h
    obtain ⟨-, h1 | ⟨g, cap, cur, e, -⟩⟩ := hr
    · exact ⟨_, _, _, by rw [h1.1]; rfl, hb⟩
    · exact ⟨_, _, _, by rw [e]; rfl, hb⟩
theorem EqsAt.take {w : World} {A : Option Addr} {N m c : Nat} {l : List Eqn} (h : EqsAt w (.slice A N c) l) (hm : m ≤ l.length) : EqsAt w (.slice A m c) (l.take m) := by
  obtain ⟨A', c', e, h1, h2, h3⟩ := h
  simp only [Value.slice.injEq] at e
  obtain ⟨rfl, _, rfl⟩ := e
  refine ⟨A, c, by rw [List.length_take, Nat.min_eq_left hm], by rw [List.length_take]; omega, h2, fun i q hi => ?_⟩
  rw [List.getElem?_take] at hi
  split at hi
  · exact h3 i q hi
  · simp at hi
theorem errO_rev (l : List Eqn) : errO (orderM (qsOf l.reverse)) = errO (orderM (qsOf l)) := by
  have e : qsOf l.reverse = (qsOf l).reverse := by unfold qsOf; rw [List.map_reverse]
  rw [e]
  have h := order_rev (qsOf l)
  cases h1 : orderM (qsOf l) with
  | none =>
    cases h2 : orderM (qsOf l).reverse with
    | none => rfl
    | some o => rw [h1, h2] at h; have := h.2 ⟨o, rfl⟩; simp at this
  | some o1 =>
    cases h2 : orderM (qsOf l).reverse with
    | none => rw [h1, h2] at h; have := h.1 ⟨o1, rfl⟩; simp at this
    | some o => rfl
theorem errO_take (l : List Eqn) (m : Nat) (hm : m ≤ l.length) (h : errO (orderM (qsOf l)) = 0) : errO (orderM (qsOf (l.take m))) = 0 := by
  have e : qsOf (l.take m) = (qsOf l).take m := by unfold qsOf; rw [List.map_take]
  rw [e]
  cases h1 : orderM (qsOf l) with
  | none => rw [h1] at h; cases h
  | some o =>
    obtain ⟨o2, h2⟩ := order_take (qsOf l) m (by rw [qs_len]; exact hm) ⟨o, h1⟩
    rw [h2]; rfl
theorem errO_two (o : Option (List Nat)) : errO o = 0 ∨ errO o = 12 := by cases o <;> simp [errO]
/-- The equations turned round, so far. -/
structure TurnR (w wr : World) (tv : Value) (l : List Eqn) (k : Nat) (xs : List Value) : Prop where
  own : wr.ownsRow w.heap.size 34 2 tv k xs
  el : ∀ j q, j < k → l[l.length - 1 - j]? = some q → ∃ ev, xs[j * 2]? = some (.string (str q.name)) ∧ xs[j * 2 + 1]? = some ev ∧ Nodes w ev q.e
  below : Below w.heap.size w wr
theorem TurnR.next {w wr w1 : World} {tv tv' ev : Value} {l : List Eqn} {k : Nat} {xs : List Value} {q : Eqn} {o : Obj} (h : TurnR w wr tv l k xs) (hk : l[l.length - 1 - k]? = some q) (hev : Nodes w ev q.e)
    (ho : w1.ownsRow w.heap.size 34 2 tv' (k + 1) (xs ++ [.string (str q.name), ev])) (hg : (wr.alloc o).grownBy w1 tv.ownBlock) : TurnR w w1 tv' l (k + 1) (xs ++ [.string (str q.name), ev]) := by
  have hl := h.own.1
  refine ⟨ho, fun j q' hj hq => ?_, (h.below.alloc h.below.size _).grown hg (by have := h.below.size; simp; omega) (fun m hm => (h.own.lt m hm).1)⟩
  by_cases hjk : j < k
  · obtain ⟨e, h1, h2, h3⟩ := h.el j q' hjk hq
    exact ⟨e, by rw [List.getElem?_append_left (by omega)]; exact h1, by rw [List.getElem?_append_left (by omega)]; exact h2, h3⟩
  · obtain rfl : j = k := by omega
    rw [hk] at hq; injection hq with hq; subst hq
    exact ⟨ev, by rw [List.getElem?_append_right (by omega), hl, Nat.sub_self]; rfl, by rw [List.getElem?_append_right (by omega), hl, show j * 2 + 1 - j * 2 = 1 by omega]; rfl, hev⟩
theorem TurnR.all {w wr : World} {tv : Value} {l : List Eqn} {xs : List Value} (h : TurnR w wr tv l l.length xs) (hs : ∀ q ∈ l, q.name.length ≤ maxLen ∧ Short q.e) : EqsAt wr tv l.reverse := by
  obtain ⟨hl, h0 | ⟨g, cap, cur, rfl, hb, hh, hnc, hcm, hcs, hct⟩⟩ := h.own
  · obtain ⟨rfl, h0⟩ := h0
    have : l = [] := List.length_eq_zero_iff.1 h0
    subst this
    exact ⟨none, 0, rfl, by simp, by unfold maxLen; omega, fun i t h => by simp at h⟩
  · refine ⟨some ⟨g, 0, none⟩, cap, by rw [List.length_reverse], by rw [List.length_reverse]; exact hnc, hcm, fun i q hi => ?_⟩
    have hil : i < l.length := by have := (List.getElem?_eq_some_iff.1 hi).1; simpa using this
    rw [List.getElem?_reverse hil] at hi
    obtain ⟨ev, h1, h2, h3⟩ := h.el i q hil hi
    obtain ⟨s1, s2⟩ := hs q (List.mem_of_getElem? hi)
    have c1 := (h.own.cellAt (i * 2) (by omega)).trans h1
    have c2 := (h.own.cellAt (i * 2 + 1) (by omega)).trans h2
    exact ⟨g, 0, ev, rfl, lt_of_block hh, by rw [Nat.zero_add]; exact c1, by rw [Nat.zero_add]; exact c2, h3.below h.below (Nat.le_refl _), s1, s2⟩
theorem infoEqn : (Try.prog.info? 34).map (fun i => (i.zero, i.size, i.bytes)) = some (some (.agg #[.string ⟨#[]⟩, .slice none 0 0]), 2, 40) := by kernel_rfl
end Go.Proofs.Ytlhcajhgbkgjbaa.Ca

