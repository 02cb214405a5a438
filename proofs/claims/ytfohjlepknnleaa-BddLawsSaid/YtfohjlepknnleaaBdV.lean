/- A store's variables, constants; a function's value. Conditions: none. -/
import Derived.Test.YtfohjlepknnleaaBdF
namespace Go.Proofs.Ytfohjlepknnleaa.Bd
open Go.ChangeShapes Go.WideShapes Go.ChangeAt Go.RowKit
set_option linter.unusedVariables false
set_option linter.unusedSimpArgs false

/-- A pointer to a store, or to none; how many nodes it has. -/
def PtAt (w : World) (pt : Value) (n : Nat) : Prop := (pt = .pointer none ∧ n = 0) ∨ ∃ B b vars budget nv pb S, pt = .pointer (some ⟨b, 0, none⟩) ∧ StV B w b vars budget nv pb S ∧ n = S.length
theorem PtAt.below {w w' : World} {pt : Value} {n : Nat} (h : PtAt w pt n) (hb : Below w.heap.size w w') : PtAt w' pt n := by
  rcases h with h | ⟨B, b, vars, budget, nv, pb, S, h1, h2, h3⟩
  · exact .inl h
  · exact .inr ⟨B, b, vars, budget, nv, pb, S, h1, h2.below hb, h3⟩
theorem PtAt.le {w : World} {pt : Value} {n : Nat} (h : PtAt w pt n) : n ≤ 10000 := by
  rcases h with h | ⟨B, b, vars, budget, nv, pb, S, h1, h2, h3⟩
  · omega
  · have := h2.hlen; have := h2.hbud; omega
theorem psize_any (w : World) (pt : Value) (n : Nat) (h : PtAt w pt n) : Calls Try.prog 12 #[pt] w (fun e w' => e = .returned (.int .i64 (n : Int)) ∧ w' = w) := by
  rcases h with ⟨rfl, rfl⟩ | ⟨B, b, vars, budget, nv, pb, S, rfl, h2, rfl⟩
  · exact size_nil w
  · obtain ⟨A, c, hn⟩ := row_form h2.row
    have := h2.box
    rw [hn] at this
    exact size_any w b _ c A _ _ _ this
theorem phas_any (w : World) (pt : Value) (n : Nat) (v : Value) (l : List Int) (h : PtAt w pt n) (hv : IntsAt w v l) (hl : l.length ≤ 1000000) : Calls Try.prog 32 #[pt, v] w (fun e w' => e = .returned (.bool (hasB n l)) ∧ w' = w) :=
  has_any w pt n v l hv hl (by have := h.le; omega) (psize_any w pt n h)
theorem ints_nil (w : World) : IntsAt w (.slice none 0 0) [] := ⟨none, 0, rfl, fun i x h => by simp at h⟩
theorem ints_one (w : World) (x : Int) (w1 : World) (h : w.alloc (.cells #[.int .i64 x] 3) = w1) : IntsAt w1 (.slice (some ⟨w.heap.size, 0, none⟩) 1 1) [x] := by
  subst h
  refine ⟨some ⟨w.heap.size, 0, none⟩, 1, rfl, fun i y hy => ⟨w.heap.size, 0, rfl, ?_⟩⟩
  have hi : i = 0 := by have := (List.getElem?_eq_some_iff.mp hy).1; simpa using this
  subst hi
  have : x = y := by simpa using hy
  subst this
  have h1 := heap_alloc_new w (.cells #[.int .i64 x] 3)
  unfold World.cell?; rw [h1]; rfl
theorem has_nil {n : Nat} : hasB n [] = decide (0 < n) := rfl
theorem has_one {n : Nat} {x : Int} : hasB n [x] = (decide (0 ≤ x) && decide (x < (n : Int))) := by
  unfold hasB
  simp only [List.all_cons, List.all_nil, Bool.and_true]
  by_cases h : 0 < n
  · simp [h]
  · by_cases h2 : 0 ≤ x
    · have : ¬ x < (n : Int) := by omega
      simp [this]
    · simp [h2]

set_option maxRecDepth 100000 in
set_option maxHeartbeats 1600000 in
/-- Whether a variable is one of the store's. -/
theorem hasVar_any (B : Nat) (w : World) (b vars budget : Nat) (nv : Value) (pb : Nat) (S : List Nd) (h : StV B w b vars budget nv pb S) (i : Int) :
    Calls Try.prog 33 #[.pointer (some ⟨b, 0, none⟩), .int .i64 i] w (fun e w' => e = .returned (.bool (decide (0 ≤ i) && decide (i < (vars : Int)))) ∧ w' = w) := by
  have hp : PtAt w (.pointer (some ⟨b, 0, none⟩)) S.length := .inr ⟨B, b, vars, budget, nv, pb, S, rfl, h, rfl⟩
  have HC := Lib.hid (phas_any w _ _ _ [] hp (ints_nil w) (by simp))
  have ht : hasB S.length [] = true := by rw [has_nil]; have := h.good.two; exact decide_eq_true (by omega)
  rw [ht] at HC
  obtain ⟨y0, y1, y2, y3⟩ := h.box.ats
  clear hp ht h
  by_cases h0 : 0 ≤ i
  · have hd0 : decide (0 ≤ i) = true := decide_eq_true h0
    by_cases h1 : i < (vars : Int)
    · have hd1 : decide (i < (vars : Int)) = true := decide_eq_true h1
      rw [hd0, hd1]
      go_enter Try.func33, Try.ntmps33
      go_wp2_with (go_at_call 32; with_reducible refine HC.out.mono ?_; rintro e w' ⟨rfl, rfl⟩)
      refine bodyPost_ret (v := .bool true) (by simp [results, Try.results33, go_sem]) rfl ⟨rfl, rfl⟩
    · have hd1 : decide (i < (vars : Int)) = false := decide_eq_false h1
      rw [hd0, hd1]
      go_enter Try.func33, Try.ntmps33
      go_wp2_with (go_at_call 32; with_reducible refine HC.out.mono ?_; rintro e w' ⟨rfl, rfl⟩)
      refine bodyPost_ret (v := .bool false) (by simp [results, Try.results33, go_sem]) rfl ⟨rfl, rfl⟩
  · have hd0 : decide (0 ≤ i) = false := decide_eq_false h0
    rw [hd0]
    go_enter Try.func33, Try.ntmps33
    go_wp2_with (go_at_call 32; with_reducible refine HC.out.mono ?_; rintro e w' ⟨rfl, rfl⟩)
    refine bodyPost_ret (v := .bool false) (by simp [results, Try.results33, go_sem]) rfl ⟨rfl, rfl⟩

set_option maxRecDepth 100000 in
set_option maxHeartbeats 1600000 in
theorem hasVar_nil (w : World) (i : Int) : Calls Try.prog 33 #[.pointer none, .int .i64 i] w (fun e w' => e = .returned (.bool false) ∧ w' = w) := by
  have HC := Lib.hid (phas_any w (.pointer none) 0 _ [] (.inl ⟨rfl, rfl⟩) (ints_nil w) (by simp))
  rw [show hasB 0 [] = false from rfl] at HC
  go_enter Try.func33, Try.ntmps33
  go_wp2_with (go_at_call 32; with_reducible refine HC.out.mono ?_; rintro e w' ⟨rfl, rfl⟩)
  refine bodyPost_ret (v := .bool false) (by simp [results, Try.results33, go_sem]) rfl ⟨rfl, rfl⟩

set_option maxRecDepth 100000 in
set_option maxHeartbeats 1600000 in
/-- A constant function. -/
theorem const_any (B : Nat) (w : World) (b vars budget : Nat) (nv : Value) (pb : Nat) (S : List Nd) (h : StV B w b vars budget nv pb S) (c : Bool) :
    Calls Try.prog 24 #[.pointer (some ⟨b, 0, none⟩), .bool c] w (fun e w' => e = .returned (.int .i64 (if c then 1 else 0)) ∧ Below w.heap.size w w') := by
  cases c with
  | false =>
    go_enter Try.func24, Try.ntmps24
    go_wp2_with fail
    refine bodyPost_ret (v := .int .i64 0) (by simp [results, Try.results24, go_sem]) rfl ⟨rfl, Below.refl _ _⟩
  | true =>
    obtain ⟨w1, hw1⟩ : ∃ W, w.alloc (.cells #[.int .i64 1] 3) = W := ⟨_, rfl⟩
    have hb : Below w.heap.size w w1 := by rw [← hw1]; exact below_new _ _
    have hp : PtAt w1 (.pointer (some ⟨b, 0, none⟩)) S.length := .inr ⟨B, b, vars, budget, nv, pb, S, rfl, h.below hb, rfl⟩
    have HC := Lib.hid (phas_any w1 _ _ _ [1] hp (ints_one w 1 w1 hw1) (by simp))
    have ht : hasB S.length [1] = true := by rw [has_one]; have := h.good.two; simp; omega
    rw [ht] at HC
    have HB := Lib.hid hb
    clear hp ht h hb
    go_enter Try.func24, Try.ntmps24
    go_wp2_with (go_at_call 32; with_reducible refine HC.out.mono ?_; rintro e w' ⟨rfl, rfl⟩)
    refine bodyPost_ret (v := .int .i64 1) (by simp [results, Try.results24, go_sem]) rfl ⟨rfl, HB.out⟩
end Go.Proofs.Ytfohjlepknnleaa.Bd
