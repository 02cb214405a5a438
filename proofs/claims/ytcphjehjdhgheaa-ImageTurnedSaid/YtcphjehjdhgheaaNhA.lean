/- Lists of numbers that are heaps, as plain facts. Conditions: none. The numbers that may be taken: their length, order, places; push and pop of the type itself. Conditions: the row lies in memory of the call's own. -/
import GoSem.Op.String
import Derived.Test.YtcphjehjdhgheaaNtB
import Derived.Deep.AppendLies
import Derived.Deep.RegionLaw
namespace Go.Proofs.Ytcphjehjdhgheaa.Nt
set_option linter.unusedVariables false
set_option linter.unusedSimpArgs false

/-- The number at a place, 0 behind the end. -/
def gd (l : List Int) (k : Nat) : Int := l.getD k 0
/-- Two numbers change places. -/
def sw (l : List Int) (i j : Nat) : List Int := (l.set i (gd l j)).set j (gd l i)
/-- The first n are a heap. -/
def Hp (l : List Int) (n : Nat) : Prop := ∀ k, 0 < k → k < n → gd l ((k - 1) / 2) ≤ gd l k
/-- A heap but for what is at j and ahead of it. -/
def HpUp (l : List Int) (n j : Nat) : Prop := (∀ k, 0 < k → k < n → k ≠ j → gd l ((k - 1) / 2) ≤ gd l k) ∧ (∀ k, 0 < k → k < n → (k - 1) / 2 = j → 0 < j → gd l ((j - 1) / 2) ≤ gd l k)
/-- A heap but for what is at i and behind it. -/
def HpDn (l : List Int) (n i : Nat) : Prop := (∀ k, 0 < k → k < n → (k - 1) / 2 ≠ i → gd l ((k - 1) / 2) ≤ gd l k) ∧ (∀ k, 0 < k → k < n → (k - 1) / 2 = i → 0 < i → gd l ((i - 1) / 2) ≤ gd l k)
theorem sw_len (l : List Int) (i j : Nat) : (sw l i j).length = l.length := by unfold sw; simp
theorem gd_eq {l : List Int} {i : Nat} (h : i < l.length) : gd l i = l[i] := by unfold gd; simp [List.getD, h]
theorem sw_perm {l : List Int} {i j : Nat} (hi : i < l.length) (hj : j < l.length) : (sw l i j).Perm l := by
  unfold sw; rw [gd_eq hi, gd_eq hj]; exact List.set_set_perm hi hj
theorem gd_sw {l : List Int} {i j : Nat} (hi : i < l.length) (hj : j < l.length) (k : Nat) : gd (sw l i j) k = if k = j then gd l i else if k = i then gd l j else gd l k := by
  unfold sw gd
  simp only [List.getD, List.getElem?_set, List.length_set]
  by_cases h1 : k = j
  · subst h1; simp [hj]
  · by_cases h2 : k = i
    · subst h2; simp [Ne.symm h1, hi, h1]
    · simp [h1, h2, Ne.symm h1, Ne.symm h2]
theorem up_step {l : List Int} {n j : Nat} (h : HpUp l n j) (h0 : 0 < j) (hj : j < n) (hn : n ≤ l.length) (hlt : gd l j < gd l ((j - 1) / 2)) : HpUp (sw l ((j - 1) / 2) j) n ((j - 1) / 2) := by
  have hi : (j - 1) / 2 < l.length := by omega
  have hjl : j < l.length := by omega
  have hij : (j - 1) / 2 ≠ j := by omega
  refine ⟨fun k k0 kn kj => ?_, fun k k0 kn kj i0 => ?_⟩
  · rw [gd_sw hi hjl, gd_sw hi hjl]
    by_cases e : k = j
    · subst e; simp only [if_true, if_neg hij]; omega
    · rw [if_neg e, if_neg kj]
      by_cases e2 : (k - 1) / 2 = j
      · rw [if_pos e2]; exact h.2 k k0 kn e2 h0
      · rw [if_neg e2]
        by_cases e3 : (k - 1) / 2 = (j - 1) / 2
        · rw [if_pos e3]; have := h.1 k k0 kn e; rw [e3] at this; omega
        · rw [if_neg e3]; exact h.1 k k0 kn e
  · have hp : gd l (((j - 1) / 2 - 1) / 2) ≤ gd l ((j - 1) / 2) := h.1 _ i0 (by omega) hij
    rw [gd_sw hi hjl, gd_sw hi hjl]
    rw [if_neg (show ((j - 1) / 2 - 1) / 2 ≠ j by omega), if_neg (show ((j - 1) / 2 - 1) / 2 ≠ (j - 1) / 2 by omega)]
    by_cases e : k = j
    · rw [if_pos e]; exact hp
    · rw [if_neg e, if_neg (show k ≠ (j - 1) / 2 by omega)]
      have := h.1 k k0 kn e; rw [kj] at this; omega
theorem up_done {l : List Int} {n j : Nat} (h : HpUp l n j) (hd : j = 0 ∨ gd l ((j - 1) / 2) ≤ gd l j) : Hp l n := by
  intro k k0 kn
  by_cases e : k = j
  · subst e; rcases hd with e | e
    · omega
    · exact e
  · exact h.1 k k0 kn e
theorem up_begin {l : List Int} {n : Nat} (h : Hp l n) (x : Int) (hn : n = l.length) : HpUp (l ++ [x]) (n + 1) n := by
  subst hn
  have ha : ∀ k, k < l.length → gd (l ++ [x]) k = gd l k := fun k hk => by unfold gd; simp [List.getD, List.getElem?_append_left hk]
  refine ⟨fun k k0 kn kj => ?_, fun k k0 kn kj _ => by omega⟩
  rw [ha _ (by omega), ha _ (by omega)]; exact h k k0 (by omega)
theorem dn_step {l : List Int} {n i j : Nat} (h : HpDn l n i) (hn : n ≤ l.length) (hj : j < n) (hji : j = 2 * i + 1 ∨ j = 2 * i + 2) (hmin : ∀ k, k < n → (k = 2 * i + 1 ∨ k = 2 * i + 2) → gd l j ≤ gd l k) (hlt : gd l j < gd l i) : HpDn (sw l i j) n j := by
  have hi : i < l.length := by omega
  have hjl : j < l.length := by omega
  refine ⟨fun k k0 kn kj => ?_, fun k k0 kn kj j0 => ?_⟩
  · rw [gd_sw hi hjl, gd_sw hi hjl]
    rw [if_neg kj]
    by_cases e : k = j
    · subst e; rw [if_pos (show (k - 1) / 2 = i by omega)]; simp only [if_true]; omega
    · rw [if_neg e]
      by_cases e2 : (k - 1) / 2 = i
      · rw [if_pos e2, if_neg (by omega)]; exact hmin k kn (by omega)
      · rw [if_neg e2]
        by_cases e3 : k = i
        · rw [if_pos e3]; subst e3; exact h.2 j (by omega) hj (by omega) k0
        · rw [if_neg e3]; exact h.1 k k0 kn e2
  · have e : (j - 1) / 2 = i := by omega
    rw [gd_sw hi hjl, gd_sw hi hjl, e, if_neg (show i ≠ j by omega), if_pos rfl, if_neg (show k ≠ j by omega), if_neg (show k ≠ i by omega)]
    have := h.1 k k0 kn (by omega)
    rw [kj] at this; exact this
theorem dn_done {l : List Int} {n i : Nat} (h : HpDn l n i) (hd : ∀ k, k < n → (k = 2 * i + 1 ∨ k = 2 * i + 2) → gd l i ≤ gd l k) : Hp l n := by
  intro k k0 kn
  by_cases e : (k - 1) / 2 = i
  · rw [e]; exact hd k kn (by omega)
  · exact h.1 k k0 kn e
theorem dn_begin {l : List Int} {n : Nat} (h : Hp l (n + 1)) (hn : l.length = n + 1) : HpDn (sw l 0 n) n 0 := by
  refine ⟨fun k k0 kn kj => ?_, fun k _ _ _ i0 => by omega⟩
  rw [gd_sw (by omega) (by omega), gd_sw (by omega) (by omega)]
  rw [if_neg (by omega), if_neg kj, if_neg (by omega), if_neg (by omega)]
  exact h k k0 (by omega)
theorem hp_min {l : List Int} {n : Nat} (h : Hp l n) : ∀ k, k < n → gd l 0 ≤ gd l k := by
  intro k
  induction k using Nat.strongRecOn with
  | _ k ih =>
    intro kn
    by_cases e : k = 0
    · subst e; exact Int.le_refl _
    · exact Int.le_trans (ih ((k - 1) / 2) (by omega) (by omega)) (h k (by omega) kn)
theorem hp_take {l : List Int} {n : Nat} (h : Hp l n) (hn : n ≤ l.length) : Hp (l.take n) n := by
  have ha : ∀ k, k < n → gd (l.take n) k = gd l k := fun k hk => by unfold gd; simp [List.getD, List.getElem?_take, hk]
  intro k k0 kn; rw [ha _ (by omega), ha _ kn]; exact h k k0 kn
end Go.Proofs.Ytcphjehjdhgheaa.Nt

namespace Go.Proofs.Ytcphjehjdhgheaa.Nt
open Go.ChangeShapes Go.WideShapes Go.ChangeAt Go.RowKit Go.Proofs.Ytcphjehjdhgheaa.Tr
set_option linter.unusedVariables false
set_option linter.unusedSimpArgs false

/-- All blocks stay but some. -/
structure Kp (A : Nat → Prop) (w w' : World) : Prop where
  os : w'.os = w.os
  tape : w'.tape = w.tape
  output : w'.output = w.output
  size : w.heap.size ≤ w'.heap.size
  block : ∀ i, i < w.heap.size → ¬ A i → w'.heap[i]? = w.heap[i]?
theorem Kp.refl (A : Nat → Prop) (w : World) : Kp A w w := ⟨rfl, rfl, rfl, Nat.le_refl _, fun _ _ _ => rfl⟩
theorem Kp.trans {A : Nat → Prop} {a b c : World} (h : Kp A a b) (k : Kp A b c) : Kp A a c :=
  ⟨k.os.trans h.os, k.tape.trans h.tape, k.output.trans h.output, Nat.le_trans h.size k.size, fun i hi hn => (k.block i (Nat.lt_of_lt_of_le hi h.size) hn).trans (h.block i hi hn)⟩
/-- .. where the second step may turn new blocks, too. -/
theorem Kp.trans2 {A A' : Nat → Prop} {a b c : World} (h : Kp A a b) (k : Kp A' b c) (hA : ∀ i, i < a.heap.size → A' i → A i) : Kp A a c :=
  ⟨k.os.trans h.os, k.tape.trans h.tape, k.output.trans h.output, Nat.le_trans h.size k.size, fun i hi hn => (k.block i (Nat.lt_of_lt_of_le hi h.size) (fun x => hn (hA i hi x))).trans (h.block i hi hn)⟩
theorem Kp.wide {A A' : Nat → Prop} {w w' : World} (h : Kp A w w') (hA : ∀ i, i < w.heap.size → A i → A' i) : Kp A' w w' := ⟨h.os, h.tape, h.output, h.size, fun i hi hn => h.block i hi (fun x => hn (hA i hi x))⟩
theorem Kp.drewN {A : Nat → Prop} {w w' : World} (h : Kp A w w') (n : Nat) : Kp A w (w'.drewN n) := ⟨h.os, h.tape, h.output, h.size, h.block⟩
theorem Kp.drew {A : Nat → Prop} {w w' : World} (h : Kp A w w') : Kp A w w'.drew := ⟨h.os, h.tape, h.output, h.size, h.block⟩
theorem Kp.setCell {A : Nat → Prop} {w w' : World} (h : Kp A w w') {p : Addr} (hp : A p.block) (u : Value) : Kp A w (w'.setCell p u) :=
  ⟨h.os, h.tape, h.output, by simpa using h.size, fun i hi hn => (Below.heap_setCell _ _ _ _ (fun e => hn (by rw [e]; exact hp))).trans (h.block i hi hn)⟩
theorem Kp.alloc {A : Nat → Prop} {w w' : World} (h : Kp A w w') (o : Obj) : Kp A w (w'.alloc o) :=
  ⟨h.os, h.tape, h.output, by have := h.size; simp; omega, fun i hi hn => (Below.heap_alloc _ _ _ (Nat.lt_of_lt_of_le hi h.size)).trans (h.block i hi hn)⟩
theorem Kp.grown {A : Nat → Prop} {w w1 w' : World} {row : Option Nat} (h : Kp A w w1) (hg : w1.grownBy w' row) (hr : ∀ k, row = some k → k < w.heap.size → A k) : Kp A w w' :=
  ⟨hg.os.trans h.os, hg.tape.trans h.tape, hg.output.trans h.output, Nat.le_trans h.size hg.size, fun i hi hn => (hg.block i (Nat.lt_of_lt_of_le hi h.size) (fun e => hn (hr i e.symm hi))).trans (h.block i hi hn)⟩
theorem Kp.below {A : Nat → Prop} {w w' : World} (h : Kp A w w') {n : Nat} (hn : n ≤ w.heap.size) (hA : ∀ i, i < w.heap.size → A i → n ≤ i) : Below n w w' :=
  ⟨h.os, h.tape, h.output, h.size, fun k hk => h.block k (by omega) (fun x => by have := hA k (by omega) x; omega)⟩
theorem Kp.of_below {w w' : World} (h : Below w.heap.size w w') : Kp (fun _ => False) w w' := ⟨h.os, h.tape, h.output, h.size, fun i hi _ => h.block i hi⟩

/-! ### How the methods are reached -/
set_option maxRecDepth 100000 in
theorem mLen0 (B : Nat) (W : World) : Sem.run Try.prog (method 311 153 (.pointer (some ⟨B, 2, none⟩)) "Len") W = Sem.run Try.prog (Sem.load .plain ⟨B, 2, none⟩ (fun v => Sem.pure (47, v))) W := by kernel_rfl
theorem mLess0 (B : Nat) (W : World) : Sem.run Try.prog (method 311 153 (.pointer (some ⟨B, 2, none⟩)) "Less") W = Sem.run Try.prog (Sem.load .plain ⟨B, 2, none⟩ (fun v => Sem.pure (157, v))) W := by kernel_rfl
theorem mSwap0 (B : Nat) (W : World) : Sem.run Try.prog (method 311 153 (.pointer (some ⟨B, 2, none⟩)) "Swap") W = Sem.run Try.prog (Sem.load .plain ⟨B, 2, none⟩ (fun v => Sem.pure (159, v))) W := by kernel_rfl
theorem mPush (B : Nat) : ∀ W, Sem.run Try.prog (method 311 153 (.pointer (some ⟨B, 2, none⟩)) "Push") W = .ok (163, .pointer (some ⟨B, 2, none⟩)) W := by intro W; kernel_rfl
theorem mPop (B : Nat) : ∀ W, Sem.run Try.prog (method 311 153 (.pointer (some ⟨B, 2, none⟩)) "Pop") W = .ok (162, .pointer (some ⟨B, 2, none⟩)) W := by intro W; kernel_rfl
theorem mLen {B : Nat} {W : World} {v : Value} (h : W.cell? ⟨B, 2, none⟩ = some v) : Sem.run Try.prog (method 311 153 (.pointer (some ⟨B, 2, none⟩)) "Len") W = .ok (47, v) W := by rw [mLen0]; simp [Sem.run, h]
theorem mLess {B : Nat} {W : World} {v : Value} (h : W.cell? ⟨B, 2, none⟩ = some v) : Sem.run Try.prog (method 311 153 (.pointer (some ⟨B, 2, none⟩)) "Less") W = .ok (157, v) W := by rw [mLess0]; simp [Sem.run, h]
theorem mSwap {B : Nat} {W : World} {v : Value} (h : W.cell? ⟨B, 2, none⟩ = some v) : Sem.run Try.prog (method 311 153 (.pointer (some ⟨B, 2, none⟩)) "Swap") W = .ok (159, v) W := by rw [mSwap0]; simp [Sem.run, h]
theorem eLen : ∀ args w, Sem.run Try.prog (callFunc 47 args) w = .ok (.enter 47 args) w := by intro a w; kernel_rfl
theorem eLess : ∀ args w, Sem.run Try.prog (callFunc 157 args) w = .ok (.enter 157 args) w := by intro a w; kernel_rfl
theorem eSwap : ∀ args w, Sem.run Try.prog (callFunc 159 args) w = .ok (.enter 159 args) w := by intro a w; kernel_rfl
theorem ePush : ∀ args w, Sem.run Try.prog (callFunc 163 args) w = .ok (.enter 163 args) w := by intro a w; kernel_rfl
theorem ePop : ∀ args w, Sem.run Try.prog (callFunc 162 args) w = .ok (.enter 162 args) w := by intro a w; kernel_rfl

/-! ### The methods -/
theorem len_any (A : Option Addr) (n c : Nat) (w : World) : Calls Try.prog 47 #[.slice A n c] w (fun e w' => e = .returned (.int .i64 n) ∧ w' = w) := by
  go_enter Try.func47, Try.ntmps47
  go_wp2
  go_ret
  exact ⟨rfl, rfl⟩
theorem gd_at {l : List Int} {i : Nat} (h : i < l.length) : l[i]? = some (gd l i) := by rw [List.getElem?_eq_getElem h, gd_eq h]
def LessPost (w : World) (l : List Int) (i j : Nat) (e : Ending) (w' : World) : Prop := e = .returned (.bool (decide (gd l i < gd l j))) ∧ ∃ q, w' = w.drewN q
set_option maxHeartbeats 1600000 in
theorem less_any (g c base : Nat) (l : List Int) (i j : Nat) (w : World) (ho : w.ownsRow base 3 1 (.slice (some ⟨g, 0, none⟩) l.length c) l.length (intsOf l)) (hi : i < l.length) (hj : j < l.length) :
    Calls Try.prog 157 #[.slice (some ⟨g, 0, none⟩) l.length c, .int .i64 (i : Int), .int .i64 (j : Int)] w (LessPost w l i j) := by
  have c1 := (ho.cellAt i (by omega)).trans (intsOf_get _ i _ (gd_at hi))
  have c2 := (ho.cellAt j (by omega)).trans (intsOf_get _ j _ (gd_at hj))
  have hgl := (ho.lt g rfl).2
  clear ho
  go_enter Try.func157, Try.ntmps157
  go_wp2
  go_region
  all_goals
    go_wp2
    go_ret
    exact ⟨rfl, 1, rfl⟩
def SwapPost (w : World) (g c base : Nat) (l : List Int) (i j : Nat) (e : Ending) (w' : World) : Prop :=
  e = .returned (.tuple #[]) ∧ w'.ownsRow base 3 1 (.slice (some ⟨g, 0, none⟩) l.length c) l.length (intsOf (sw l i j)) ∧ Kp (fun k => k = g) w w'
theorem kp_two (w : World) (g i j : Nat) (x y : Value) : Kp (fun k => k = g) w ((w.setCell ⟨g, i, none⟩ x).setCell ⟨g, j, none⟩ y) := Kp.setCell (A := fun k => k = g) (p := ⟨g, j, none⟩) (Kp.setCell (A := fun k => k = g) (p := ⟨g, i, none⟩) (Kp.refl (fun k => k = g) w) rfl x) rfl y
set_option maxHeartbeats 4000000 in
theorem swap_any (g c base : Nat) (l : List Int) (i j : Nat) (w : World) (ho : w.ownsRow base 3 1 (.slice (some ⟨g, 0, none⟩) l.length c) l.length (intsOf l)) (hi : i < l.length) (hj : j < l.length) :
    Calls Try.prog 159 #[.slice (some ⟨g, 0, none⟩) l.length c, .int .i64 (i : Int), .int .i64 (j : Int)] w (SwapPost w g c base l i j) := by
  have c1 := (ho.cellAt i (by omega)).trans (intsOf_get _ i _ (gd_at hi))
  have c2 := (ho.cellAt j (by omega)).trans (intsOf_get _ j _ (gd_at hj))
  have f1 := ho.frozenAt i
  have f2 := ho.frozenAt j
  have HO2 : Hid (((w.setCell ⟨g, i, none⟩ (.int .i64 (gd l j))).setCell ⟨g, j, none⟩ (.int .i64 (gd l i))).ownsRow base 3 1 (.slice (some ⟨g, 0, none⟩) l.length c) l.length (intsOf (sw l i j))) := Lib.hid (by
    unfold sw
    rw [intsOf_set, intsOf_set]
    exact ((ho.stored i (.int .i64 (gd l j))).1.stored j (.int .i64 (gd l i))).1)
  have hgl := (ho.lt g rfl).2
  obtain ⟨x, hx⟩ : ∃ x, gd l i = x := ⟨_, rfl⟩
  obtain ⟨y, hy⟩ : ∃ y, gd l j = y := ⟨_, rfl⟩
  rw [hx] at c1 HO2
  rw [hy] at c2 HO2
  clear ho hx hy
  by_cases hij : i = j
  · subst hij
    rw [c1] at c2
    injection c2 with c2
    injection c2 with _ c2
    subst c2
    clear f2
    go_enter Try.func159, Try.ntmps159
    go_wp2
    go_region
    all_goals
      go_wp2
      go_end0
      refine ⟨rfl, ?hw, ?hk⟩
      case hw => exact HO2.out
      case hk => exact (kp_two w g i i _ _).drew
  · have hji : j ≠ i := Ne.symm hij
    go_enter Try.func159, Try.ntmps159
    go_wp2
    go_region
    all_goals
      go_wp2
      go_end0
      refine ⟨rfl, ?hw, ?hk⟩
      case hw => exact HO2.out
      case hk => exact (kp_two w g i j _ _).drew
end Go.Proofs.Ytcphjehjdhgheaa.Nt
