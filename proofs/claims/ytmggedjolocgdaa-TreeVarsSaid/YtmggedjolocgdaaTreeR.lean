/- The program's May and the document's tell the same. Conditions: none. -/
import Derived.Test.YtmggedjolocgdaaTreeQ
namespace Go.Proofs.Ytmggedjolocgdaa.Tr
open Go.ChangeShapes Go.WideShapes Go.ChangeAt Go.RowKit
set_option linter.unusedVariables false
set_option linter.unusedSimpArgs false

theorem stands_iff (A : List Nd) (x : Nd) (hab : x.op = 28 → x.b ≠ -1 → x.b ≠ x.a) :
    standsM A x = true ↔ bareM x = true ∧ (∀ k ∈ kidsM x, 0 ≤ k ∧ k < (A.length : Int)) ∧ argsL x.op ((kidsM x).map (opAt A)) = true := by
  obtain ⟨o, a, b, c, n, s⟩ := x
  simp only at hab
  by_cases hu : unaryB o = true
  · have h27 : o ≠ 27 := by rintro rfl; simp [unaryB] at hu
    have h28 : o ≠ 28 := by rintro rfl; simp [unaryB] at hu
    have h28' : (o == 28) = false := by simp [h28]
    have h27' : (o == 27) = false := by simp [h27]
    have hk : kidsM ⟨o, a, b, c, n, s⟩ = [a] := kids_unary _ hu
    unfold standsM bareM bareN
    rw [hk]
    simp only [h27, h28, if_false, List.all_cons, List.all_nil, Bool.and_true, kidB, takesM, h27', h28', Bool.false_or, Bool.false_and, List.map_cons, List.map_nil, argsL, List.mem_singleton, forall_eq, List.length_cons, List.length_nil]
    by_cases ha : a = -1
    · subst ha; simp
    · by_cases hb : b = -1 <;> by_cases hc : c = -1 <;> simp [heldM, List.filter_cons, ha, hb, hc, and_assoc]
  by_cases h26 : o = 26
  · subst h26
    have hk : kidsM ⟨26, a, b, c, n, s⟩ = [a, b, c] := rfl
    unfold standsM bareM bareN
    rw [hk]
    by_cases ha : a = -1
    · subst ha; simp [kidB]
    by_cases hb : b = -1
    · subst hb; simp [kidB]
    by_cases hc : c = -1
    · subst hc; simp [kidB]
    simp [kidB, takesM, argsL, heldM, List.filter_cons, ha, hb, hc, and_assoc, and_left_comm, and_comm]
  by_cases h27 : o = 27
  · subst h27
    unfold standsM bareM
    by_cases ha : a = -1
    · subst ha
      have hk : kidsM ⟨27, -1, b, c, n, s⟩ = [] := rfl
      rw [hk]
      by_cases hb : b = -1 <;> by_cases hc : c = -1 <;> simp [heldM, List.filter_cons, hb, hc, argsL]
    · have hk : kidsM ⟨27, a, b, c, n, s⟩ = [a] := by simp [kidsM, unaryB, heldM, ha]
      rw [hk]
      by_cases hb : b = -1 <;> by_cases hc : c = -1 <;> simp [heldM, List.filter_cons, ha, hb, hc, argsL, kidB, takesM, and_assoc]
  by_cases h28 : o = 28
  · subst h28
    unfold standsM bareM
    by_cases hb : b = -1
    · subst hb
      have hk : kidsM ⟨28, a, -1, c, n, s⟩ = [a] := rfl
      rw [hk]
      by_cases ha : a = -1
      · subst ha; simp [kidB]
      · by_cases hc : c = -1 <;> simp [heldM, List.filter_cons, ha, hc, argsL, kidB, takesM, and_assoc]
    · have hk : kidsM ⟨28, a, b, c, n, s⟩ = [b, a] := by simp [kidsM, unaryB, heldM, hb]
      have hba := hab rfl hb
      have hba' : (b != a) = true := by simp [hba]
      rw [hk]
      by_cases ha : a = -1
      · subst ha; simp [kidB]
      · by_cases hc : c = -1 <;> simp [heldM, List.filter_cons, ha, hb, hc, hba', argsL, kidB, takesM, and_assoc, and_left_comm, and_comm]
  by_cases hbn : binaryB o = true
  · have h28' : (o == 28) = false := by simp [h28]
    have h27' : (o == 27) = false := by simp [h27]
    have hk : kidsM ⟨o, a, b, c, n, s⟩ = [a, b] := kidsM_bin _ hbn
    unfold standsM bareM bareN
    rw [hk]
    by_cases ha : a = -1
    · subst ha; simp [kidB, h27, h28]
    by_cases hb : b = -1
    · subst hb; simp [kidB, h27, h28]
    by_cases hc : c = -1 <;> simp [heldM, List.filter_cons, ha, hb, hc, argsL, kidB, takesM, h27, h28, h27', h28', and_assoc, and_left_comm, and_comm]
  · have hk : kidsM ⟨o, a, b, c, n, s⟩ = [] := by
      unfold kidsM; simp [hu, h26, h27, h28, hbn]
    unfold standsM bareM bareN
    rw [hk]
    by_cases ha : a = -1 <;> by_cases hb : b = -1 <;> by_cases hc : c = -1 <;> simp [heldM, List.filter_cons, ha, hb, hc, h27, h28, argsL]
theorem opAt_take (e : List Nd) (i : Nat) (k : Int) (h0 : 0 ≤ k) (h1 : k < (i : Int)) : opAt (e.take i) k = opAt e k := by
  unfold opAt
  rw [List.getD, List.getD, List.getElem?_take_of_lt (by omega)]
theorem args_take (e : List Nd) (i : Nat) (l : List Int) (h : ∀ k ∈ l, 0 ≤ k ∧ k < (i : Int)) : l.map (opAt (e.take i)) = l.map (opAt e) :=
  List.map_congr_left fun k hk => opAt_take e i k (h k hk).1 (h k hk).2
/-- Of a node whose operands are all once, the two of an Args are not the same. -/
theorem ab_of_nodup (x : Nd) (h : (kidsM x).Nodup) : x.op = 28 → x.b ≠ -1 → x.b ≠ x.a := by
  obtain ⟨o, a, b, c, n, s⟩ := x
  intro ho hb hba
  simp only at ho hb hba
  subst ho hba
  rw [show kidsM ⟨28, b, b, c, n, s⟩ = [b, b] by simp [kidsM, unaryB, heldM, hb]] at h
  simp at h
theorem mayC_iff (e : List Nd) : MayC e ↔ May e := by
  constructor
  · intro h
    have hin : ∀ (i : Nat) x, e[i]? = some x → ∀ k ∈ kidsM x, 0 ≤ k ∧ k < (i : Int) := fun i x hx k hk => by
      have hil := (List.getElem?_eq_some_iff.1 hx).1
      have := (h.node i x hil hx).2
      unfold standsM at this
      rw [Bool.and_eq_true] at this
      have := List.all_eq_true.1 this.1 k hk
      unfold kidB at this
      simp only [Bool.and_eq_true, decide_eq_true_eq, List.length_take] at this
      omega
    have ha : Ahead e := fun i n hn k hk => hin i n hn k hk
    have ho : Once e := by
      intro j
      by_cases hj : j + 1 < e.length
      · rw [h.uses j hj]; omega
      · unfold usesM
        rw [List.count_eq_zero_of_not_mem]
        · omega
        · intro hm
          rw [List.mem_flatMap] at hm
          obtain ⟨n, hn, hk⟩ := hm
          obtain ⟨i, hi⟩ := List.mem_iff_getElem?.1 hn
          have := ha i n hi _ hk
          have := (List.getElem?_eq_some_iff.1 hi).1
          omega
    refine ⟨h.pos, h.le, fun i x hx => ?_, h.uses, h.last, h.deep⟩
    have hil := (List.getElem?_eq_some_iff.1 hx).1
    obtain ⟨h1, h2⟩ := h.node i x hil hx
    obtain ⟨g1, g2, g3⟩ := (stands_iff _ x (ab_of_nodup x (once_nodup ho ha hx))).1 h2
    exact ⟨h1, (bareM_iff x).1 g1, hin i x hx, by rw [← args_take e i _ (hin i x hx)]; exact g3⟩
  · intro h
    refine ⟨h.pos, h.le, h.last, fun i x hi hx => ?_, h.uses, h.deep⟩
    have g := h.node i x hx
    refine ⟨g.plain, (stands_iff _ x (ab_of_nodup x (once_nodup h.once h.ahead hx))).2 ⟨(bareM_iff x).2 g.bare, fun k hk => ?_, ?_⟩⟩
    · have := g.ahead k hk
      rw [List.length_take]; omega
    · rw [args_take e i _ g.ahead]; exact g.args
theorem mayC_eq (e : List Nd) : mayCB e = mayB e := by
  by_cases h : May e
  · rw [may_yes h, mayC_yes ((mayC_iff e).2 h)]
  · rw [may_no h, mayC_no (fun hc => h ((mayC_iff e).1 hc))]
theorem may_any (v : Value) (e : List Nd) (w : World) (hv : Nodes w v e) :
    Calls Try.prog 17 #[v] w fun r w' => r = .returned (.bool (mayB e)) ∧ Below w.heap.size w w' := by rw [← mayC_eq]; exact mayC_any v e w hv
end Go.Proofs.Ytmggedjolocgdaa.Tr
