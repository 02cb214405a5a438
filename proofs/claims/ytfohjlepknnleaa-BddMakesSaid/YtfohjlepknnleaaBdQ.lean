/- Whether functions are the store's. Conditions: none. A node as a map's key. Conditions: none. Diagrams: which nodes belong to a function, their new numbers, and the store with these. Conditions: none. -/
import Derived.Test.YtfohjlepknnleaaBdC
import Derived.DeepKeys4
import Derived.Test.YtfohjlepknnleaaBdL
namespace Go.Proofs.Ytfohjlepknnleaa.Bd
open Go.ChangeShapes Go.WideShapes Go.ChangeAt Go.RowKit
set_option linter.unusedVariables false
set_option linter.unusedSimpArgs false

/-- A slice of numbers, as it is read. -/
def IntsAt (w : World) (v : Value) (l : List Int) : Prop :=
  ∃ A c, v = .slice A l.length c ∧ ∀ i x, l[i]? = some x → ∃ g o, A = some ⟨g, o, none⟩ ∧ w.cell? ⟨g, o + i, none⟩ = some (.int .i64 x)
/-- Whether all are numbers of nodes. -/
def hasB (n : Nat) (l : List Int) : Bool := l.all (fun f => decide (0 ≤ f) && decide (f < (n : Int))) && decide (0 < n)
def intV : Value → Nat
  | .int _ z => z.toNat
  | _ => 0
theorem ret_bool {a b : Bool} (h : a = b) : Ending.returned (.bool a) = .returned (.bool b) := by rw [h]
theorem all_take {n k : Nat} {x : Int} {l : List Int} (h : (l.take k).all (fun f => decide (0 ≤ f) && decide (f < (n : Int))) = true) (hx : l[k]? = some x) (h0 : 0 ≤ x ∧ x < (n : Int)) :
    (l.take (k + 1)).all (fun f => decide (0 ≤ f) && decide (f < (n : Int))) = true := by
  rw [List.take_add_one, hx, List.all_append, h]
  simp [h0.1, h0.2]
theorem all_not {n k : Nat} {x : Int} {l : List Int} (hx : l[k]? = some x) (h0 : ¬ (0 ≤ x ∧ x < (n : Int))) : hasB n l = false := by
  unfold hasB
  have : l.all (fun f => decide (0 ≤ f) && decide (f < (n : Int))) = false := by
    rw [List.all_eq_false]
    exact ⟨x, List.mem_of_getElem? hx, by simp; omega⟩
  rw [this]
  rfl

set_option maxRecDepth 100000 in
set_option maxHeartbeats 1600000 in
theorem has_any (w : World) (pt : Value) (n : Nat) (v : Value) (l : List Int) (hv : IntsAt w v l) (hl : l.length ≤ 1000000) (hn : n ≤ 4294967296)
    (hS : Calls Try.prog 12 #[pt] w (fun e w' => e = .returned (.int .i64 (n : Int)) ∧ w' = w)) :
    Calls Try.prog 32 #[pt, v] w (fun e w' => e = .returned (.bool (hasB n l)) ∧ w' = w) := by
  obtain ⟨A, c, rfl, hA⟩ := hv
  obtain ⟨m, hm⟩ : ∃ m, l.length = m := ⟨_, rfl⟩
  have HM := Lib.hid hm
  rw [hm] at hl ⊢
  clear hm
  go_enter Try.func32, Try.ntmps32
  go_wp2_with (go_at_call 12; with_reducible refine hS.mono ?_; rintro e w ⟨rfl, rfl⟩)
  go_loopw [12] (fun vi wr => ∃ k : Nat, k ≤ m ∧ vi = .int .i64 (k : Int) ∧ wr = w ∧ (l.take k).all (fun f => decide (0 ≤ f) && decide (f < (n : Int))) = true) (fun vi _ => m - intV vi)
  case atStart => exact ⟨0, Nat.zero_le _, rfl, rfl, rfl⟩
  case round =>
    obtain ⟨k, hk, rfl, rfl, ha⟩ := hrel
    have HA := Lib.hid ha
    clear ha
    by_cases hkm : k < m
    · obtain ⟨x, hx⟩ : ∃ x, l[k]? = some x := ⟨_, List.getElem?_eq_getElem (by rw [HM.out]; exact hkm)⟩
      obtain ⟨g, o, rfl, a0⟩ := hA k x hx
      have HX := Lib.hid hx
      clear hx
      by_cases h0 : x < 0
      · have HF := Lib.hid (all_not (n := n) HX.out (by omega))
        go_wp2_with fail
        go_ret
        exact ⟨ret_bool HF.out.symm, rfl⟩
      · by_cases h1 : (n : Int) ≤ x
        · have HF := Lib.hid (all_not (n := n) HX.out (by omega))
          go_wp2_with fail
          go_ret
          exact ⟨ret_bool HF.out.symm, rfl⟩
        · have HA2 := Lib.hid (all_take HA.out HX.out (by omega))
          go_wp2_with fail
          go_roundw
          case rel => exact ⟨k + 1, by omega, by go_num, trivial, HA2.out⟩
          case measure => simp [intV]; omega
    · have hke : k = m := by omega
      subst hke
      have HF : Hid (hasB n l = decide (0 < n)) := Lib.hid (by
        have := HA.out
        rw [← HM.out, List.take_length] at this
        unfold hasB
        rw [this, Bool.true_and])
      go_wp2_with fail
      go_ret
      exact ⟨ret_bool HF.out.symm, rfl⟩
end Go.Proofs.Ytfohjlepknnleaa.Bd

namespace Go.Proofs.Ytfohjlepknnleaa.Bd
open Go.ChangeShapes Go.WideShapes Go.ChangeAt Go.RowKit Go.Maps
set_option linter.unusedVariables false
set_option linter.unusedSimpArgs false

theorem nodes_law : Keyed Try.prog 59 :=
  Keyed.of_law (deep_law_laid (m := 3) (by kernel_rfl) (by omega) (Nat.le_of_ble_eq_true (by kernel_rfl)) (by kernel_rfl) (by kernel_rfl))

theorem node_key (n : Nd) (h : okN n) : keyOf Try.prog 59 (keyN n) = some (litN n) := by
  obtain ⟨a, b, c⟩ := n
  obtain ⟨h1, h2, h3⟩ := h
  have hk : Try.prog.keyType 59 = true := by kernel_rfl
  have hi : ∀ (d x : Nat), x < 4294967296 → Try.prog.keyLits (d + 1) 3 [.int .i64 (x : Int)] = some [.int .i64 (x : Int)] := by
    intro d x hx
    have hw : (Lit.int .i64 (x : Int)).wf = true := by
      simp [Lit.wf]
      rw [show IntKind.i64.min = -9223372036854775808 from rfl]
      omega
    unfold Program.keyLits
    rw [Try.underlying3]
    simp [hw]
  have hc1 : Try.prog.cellsOf 3 = 1 := by kernel_rfl
  have hc : Try.prog.cellsOf 59 = 3 := by kernel_rfl
  have hz : ∃ s, Try.prog.types.size = s + 1 := ⟨Try.prog.types.size - 1, by kernel_rfl⟩
  obtain ⟨s, hs⟩ := hz
  have hl : Try.prog.keyLits (Try.prog.types.size + 1) 59 (keyN (a, b, c)).cells.toList = some [.int .i64 a, .int .i64 b, .int .i64 c] := by
    rw [hs]
    unfold Program.keyLits
    rw [Try.underlying59]
    simp [keyN, Value.cells, hc, hc1, hi]
    rw [hi s a h1, hi s b h2, hi s c h3]
    rfl
  have hf : (keyN (a, b, c)).formed Try.prog 59 = true := by
    unfold keyN Value.formed
    simp [hc, Try.underlying59]
  unfold keyOf
  rw [hk, hl, hf, Try.underlying59]
  rfl

theorem keysN : Keys Try.prog 59 okN keyN litN where
  law := nodes_law
  of := node_key
  inj a b ha hb h := by
    have h1 := node_key a ha
    have h2 := node_key b hb
    rw [h] at h1
    have h3 := nodes_law.inj h1 h2
    unfold keyN at h3
    obtain ⟨a1, a2, a3⟩ := a
    obtain ⟨b1, b2, b3⟩ := b
    simp only [Value.agg.injEq] at h3
    simp at h3
    obtain ⟨e1, e2, e3⟩ := h3
    have e1' : a1 = b1 := by omega
    have e2' : a2 = b2 := by omega
    have e3' : a3 = b3 := by omega
    rw [e1', e2', e3']
end Go.Proofs.Ytfohjlepknnleaa.Bd

namespace Go.Proofs.Ytfohjlepknnleaa.Bd
set_option linter.unusedVariables false
set_option linter.unusedSimpArgs false

/-- The node x marked, if it is one of those behind the first 'size'. -/
def mark (size x : Nat) (M : Nat → Bool) : Nat → Bool := fun j => if size ≤ x ∧ j = x - size then true else M j

theorem mark_mono {size x j : Nat} {M : Nat → Bool} (h : M j = true) : mark size x M j = true := by
  unfold mark
  by_cases c : size ≤ x ∧ j = x - size
  · rw [if_pos c]
  · rw [if_neg c]; exact h

theorem mark_here {size x : Nat} {M : Nat → Bool} (h : size ≤ x) : mark size x M (x - size) = true := by
  unfold mark
  rw [if_pos ⟨h, rfl⟩]

theorem mark_other {size x j : Nat} {M : Nat → Bool} (h : ¬ (size ≤ x ∧ j = x - size)) : mark size x M j = M j := by
  unfold mark
  rw [if_neg h]

/-- One node's children marked, if it is. -/
def markStep (size : Nat) (F : List Nd) (i : Nat) (M : Nat → Bool) : Nat → Bool := match F[i]? with
  | none => M
  | some n => if M i then mark size n.2.2 (mark size n.2.1 M) else M

/-- .. of the nodes below the i-th, from the last one on. -/
def marks (size : Nat) (F : List Nd) : Nat → (Nat → Bool) → Nat → Bool
  | 0, M => M
  | i + 1, M => marks size F i (markStep size F i M)

/-- The nodes stand behind their children. -/
def Behind (size : Nat) (F : List Nd) : Prop := ∀ i t lo hi, F[i]? = some (t, lo, hi) → lo < size + i ∧ hi < size + i

theorem step_mono {size i j : Nat} {F : List Nd} {M : Nat → Bool} (h : M j = true) : markStep size F i M j = true := by
  unfold markStep
  cases hF : F[i]? with
  | none => exact h
  | some n =>
    by_cases c : M i = true
    · simp only [c, if_true]; exact mark_mono (mark_mono h)
    · simp only [c]; exact h

theorem step_high {size i j : Nat} {F : List Nd} {M : Nat → Bool} (B : Behind size F) (h : i ≤ j) : markStep size F i M j = M j := by
  unfold markStep
  cases hF : F[i]? with
  | none => rfl
  | some n =>
    obtain ⟨t, lo, hi⟩ := n
    obtain ⟨h1, h2⟩ := B i t lo hi hF
    by_cases c : M i = true
    · simp only [c, if_true]
      rw [mark_other (by omega), mark_other (by omega)]
    · simp [c]

theorem marks_mono {size : Nat} {F : List Nd} : ∀ (i j : Nat) (M : Nat → Bool), M j = true → marks size F i M j = true := by
  intro i
  induction i with
  | zero => intro j M h; exact h
  | succ i ih => intro j M h; exact ih j _ (step_mono h)

theorem marks_high {size : Nat} {F : List Nd} (B : Behind size F) : ∀ (i j : Nat) (M : Nat → Bool), i ≤ j → marks size F i M j = M j := by
  intro i
  induction i with
  | zero => intro j M _; rfl
  | succ i ih =>
    intro j M h
    show marks size F i (markStep size F i M) j = _
    rw [ih j _ (by omega), step_high B (by omega)]

/-- What is marked at the end has its children marked. -/
theorem marks_closed {size : Nat} {F : List Nd} (B : Behind size F) : ∀ (i j : Nat) (M : Nat → Bool), j < i → marks size F i M j = true → ∀ t lo hi, F[j]? = some (t, lo, hi) →
    (lo < size ∨ marks size F i M (lo - size) = true) ∧ (hi < size ∨ marks size F i M (hi - size) = true) := by
  intro i
  induction i with
  | zero => intro j M h; omega
  | succ i ih =>
    intro j M h hm t lo hi hF
    show (lo < size ∨ marks size F i (markStep size F i M) (lo - size) = true) ∧ (hi < size ∨ marks size F i (markStep size F i M) (hi - size) = true)
    have hm2 : marks size F i (markStep size F i M) j = true := hm
    by_cases c : j = i
    · subst c
      rw [marks_high B j j _ (Nat.le_refl _), step_high B (Nat.le_refl _)] at hm2
      have hs : markStep size F j M = mark size hi (mark size lo M) := by
        unfold markStep
        rw [hF]
        simp [hm2]
      rw [hs]
      refine ⟨?_, ?_⟩
      · by_cases d : lo < size
        · exact Or.inl d
        · exact Or.inr (marks_mono _ _ _ (mark_mono (mark_here (by omega))))
      · by_cases d : hi < size
        · exact Or.inl d
        · exact Or.inr (marks_mono _ _ _ (mark_here (by omega)))
    · exact ih j _ (by omega) hm2 t lo hi hF

/-- How many of the first are marked. -/
def rk (M : Nat → Bool) : Nat → Nat
  | 0 => 0
  | i + 1 => rk M i + if M i then 1 else 0

theorem rk_le (M : Nat → Bool) (i : Nat) : rk M i ≤ i := by
  induction i with
  | zero => exact Nat.le_refl _
  | succ i ih => show rk M i + _ ≤ _; by_cases c : M i = true <;> simp [c] <;> omega

/-- The new number. -/
def toM (size : Nat) (M : Nat → Bool) (g : Nat) : Nat := if g < size then g else size + rk M (g - size)

/-- The store with the marked ones of the first i. -/
def keptL (S F : List Nd) (M : Nat → Bool) : Nat → List Nd
  | 0 => S
  | i + 1 => match F[i]? with
    | none => keptL S F M i
    | some n => if M i then keptL S F M i ++ [(n.1, toM S.length M n.2.1, toM S.length M n.2.2)] else keptL S F M i

theorem behind_of {vars : Nat} {S F : List Nd} (G : Good vars (S ++ F)) (hs : 2 ≤ S.length) : Behind S.length F := by
  intro i t lo hi h
  have h2 : (S ++ F)[S.length + i]? = some (t, lo, hi) := by
    rw [List.getElem?_append_right (by omega), Nat.add_sub_cancel_left]; exact h
  obtain ⟨_, _, a, b, _, _⟩ := G.node (S.length + i) t lo hi (by omega) h2
  exact ⟨a, b⟩

theorem kept_run {vars : Nat} {S F : List Nd} {M : Nat → Bool} (GS : Good vars S) (G : Good vars (S ++ F))
    (hc : ∀ j, j < F.length → M j = true → ∀ t lo hi, F[j]? = some (t, lo, hi) → (lo < S.length ∨ M (lo - S.length) = true) ∧ (hi < S.length ∨ M (hi - S.length) = true)) :
    ∀ i, i ≤ F.length → Kept vars S.length (S ++ F) (fun j => M j = true) (toM S.length M) i (keptL S F M i) ∧ (keptL S F M i).length = S.length + rk M i := by
  intro i
  induction i with
  | zero => intro _; exact ⟨kept_start GS (fun g hg => by unfold toM; rw [if_pos hg]), rfl⟩
  | succ i ih =>
    intro hi2
    obtain ⟨K, hl⟩ := ih (by omega)
    obtain ⟨t, lo, hi, hF⟩ := at_of (show i < F.length by omega)
    have h2 : (S ++ F)[S.length + i]? = some (t, lo, hi) := by
      rw [List.getElem?_append_right (by omega), Nat.add_sub_cancel_left]; exact hF
    by_cases c : M i = true
    · have e : keptL S F M (i + 1) = keptL S F M i ++ [(t, toM S.length M lo, toM S.length M hi)] := by
        show (match F[i]? with | none => _ | some n => _) = _
        rw [hF]; simp [c]
      obtain ⟨a, b⟩ := hc i (by omega) c t lo hi hF
      rw [e]
      refine ⟨kept_take K G GS.two c h2 a b ?_, ?_⟩
      · unfold toM
        rw [if_neg (by omega), Nat.add_sub_cancel_left, hl]
      · rw [List.length_append, List.length_singleton, hl]
        show _ = S.length + (rk M i + _)
        rw [if_pos c]
        omega
    · have e : keptL S F M (i + 1) = keptL S F M i := by
        show (match F[i]? with | none => _ | some n => _) = _
        rw [hF]; simp [c]
      rw [e]
      refine ⟨kept_pass K c, ?_⟩
      rw [hl]
      show _ = S.length + (rk M i + _)
      rw [if_neg c, Nat.add_zero]

/-- The marks of one function's nodes. -/
def marksOf (S F : List Nd) (f : Nat) : Nat → Bool := marks S.length F F.length (mark S.length f (fun _ => false))

/-- The store that keeps one function's nodes: the function under its new number. -/
theorem keep_ok {vars f : Nat} {S F : List Nd} (GS : Good vars S) (G : Good vars (S ++ F)) (hf : f < (S ++ F).length) :
    ∃ N x, N = keptL S F (marksOf S F f) F.length ∧ x = toM S.length (marksOf S F f) f ∧ Good vars N ∧ x < N.length ∧ N.length = S.length + rk (marksOf S F f) F.length ∧
      (∃ m, N = S ++ m) ∧ (∀ r, den N x r = den (S ++ F) f r) ∧ (∀ g, g < S.length → ∀ r, den N g r = den S g r) := by
  have B := behind_of G GS.two
  have R := kept_run (M := marksOf S F f) GS G (fun j hj hm t lo hi hF => marks_closed B F.length j _ hj hm t lo hi hF) F.length (Nat.le_refl _)
  obtain ⟨K, hl⟩ := R
  rw [List.length_append] at hf
  have hmf : f < S.length ∨ marksOf S F f (f - S.length) = true := by
    by_cases c : f < S.length
    · exact Or.inl c
    · exact Or.inr (marks_mono _ _ _ (mark_here (by omega)))
  obtain ⟨a, b, c⟩ := K.back f hf hmf
  have more : ∀ i, ∃ m, keptL S F (marksOf S F f) i = S ++ m := by
    intro i
    induction i with
    | zero => exact ⟨[], (List.append_nil _).symm⟩
    | succ i ih =>
      obtain ⟨m, hm⟩ := ih
      show ∃ m, (match F[i]? with | none => keptL S F (marksOf S F f) i | some n => if marksOf S F f i then keptL S F (marksOf S F f) i ++ [(n.1, toM S.length (marksOf S F f) n.2.1, toM S.length (marksOf S F f) n.2.2)] else keptL S F (marksOf S F f) i) = S ++ m
      cases F[i]? with
      | none => exact ⟨m, hm⟩
      | some n =>
        by_cases d : marksOf S F f i = true
        · simp only [d, if_true]; exact ⟨m ++ [(n.1, toM S.length (marksOf S F f) n.2.1, toM S.length (marksOf S F f) n.2.2)], by rw [hm, List.append_assoc]⟩
        · simp only [d]; exact ⟨m, hm⟩
  obtain ⟨m, hm⟩ := more F.length
  refine ⟨_, _, rfl, rfl, K.good, a, hl, ⟨m, hm⟩, c, fun g hg r => ?_⟩
  rw [hm, den_app GS r hg]
end Go.Proofs.Ytfohjlepknnleaa.Bd
