/- Lists of numbers that are heaps, as plain facts. Conditions: none. -/
import Derived.Test.YtdebhngpgabglaaGreatKa02
import Derived.Deep.AppendLies
import Derived.Deep.RegionLaw
import Derived.Test.YtdebhngpgabglaaGreatKa10
set_option linter.unusedVariables false
set_option linter.unusedSimpArgs false
namespace Go.Proofs.YtdebhngpgabglaaGreat.Ca
def gd (l : List Int) (k : Nat) : Int := l.getD k 0
def sw (l : List Int) (i j : Nat) : List Int := (l.set i (gd l j)).set j (gd l i)
def Hp (l : List Int) (n : Nat) : Prop := ∀ k, 0 < k → k < n → gd l ((k - 1) / 2) ≤ gd l k
def HpUp (l : List Int) (n j : Nat) : Prop := (∀ k, 0 < k → k < n → k ≠ j → gd l ((k - 1) / 2) ≤ gd l k) ∧ (∀ k, 0 < k → k < n → (k - 1) / 2 = j → 0 < j → gd l ((j - 1) / 2) ≤ gd l k)
def HpDn (l : List Int) (n i : Nat) : Prop := (∀ k, 0 < k → k < n → (k - 1) / 2 ≠ i → gd l ((k - 1) / 2) ≤ gd l k) ∧ (∀ k, 0 < k → k < n → (k - 1) / 2 = i → 0 < i → gd l ((i - 1) / 2) ≤ gd l k)
theorem sw_len (l : List Int) (i j : Nat) : (sw l i j).length = l.length := by unfold sw; simp
theorem gd_eq {l : List Int} {i : Nat} (h : i < l.length) : gd l i = l[i] := by unfold gd; simp [List.getD, h]
theorem sw_perm {l : List Int} {i j : Nat} (hi : i < l.length) (hj : j < l.length) : (sw l i j).Perm l := by
 unfold sw; rw [gd_eq hi, gd_eq hj]; exact List.set_set_perm hi hj
theorem gd_sw {l : List Int} {i j : Nat} (hi : i < l.length) (hj : j < l.length) (k : Nat) : gd (sw l i j) k = if k = j then gd l i else if k = i then gd l j else gd l k := by
 unfold sw gd
 simp only [List.getD, List.getElem?_set, List.length_set]
 by_cases h1 : k = j
 · subst h1; simp [hj]
 · by_cases h2 : k = i
   · subst h2; simp [Ne.symm h1, hi, h1]
   · simp [h1, h2, Ne.symm h1, Ne.symm h2]
theorem up_step {l : List Int} {n j : Nat} (h : HpUp l n j) (h0 : 0 < j) (hj : j < n) (hn : n ≤ l.length) (hlt : gd l j < gd l ((j - 1) / 2)) : HpUp (sw l ((j - 1) / 2) j) n ((j - 1) / 2) := by
 have hi : (j - 1) / 2 < l.length := by omega
 have hjl : j < l.length := by omega
 have hij : (j - 1) / 2 ≠ j := by omega
 refine ⟨fun k k0 kn kj => ?_, fun k k0 kn kj i0 => ?_⟩
 · rw [gd_sw hi hjl, gd_sw hi hjl]
   by_cases e : k = j
   · subst e; simp only [if_true, if_neg hij]; omega
   · rw [if_neg e, if_neg kj]
     by_cases e2 : (k - 1) / 2 = j
     · rw [if_pos e2]; exact h.2 k k0 kn e2 h0
     · rw [if_neg e2]
       by_cases e3 : (k - 1) / 2 = (j - 1) / 2
       · rw [if_pos e3]; have := h.1 k k0 kn e; rw [e3] at this; omega
       · rw [if_neg e3]; exact h.1 k k0 kn e
 · have hp : gd l (((j - 1) / 2 - 1) / 2) ≤ gd l ((j - 1) / 2) := h.1 _ i0 (by omega) hij
   rw [gd_sw hi hjl, gd_sw hi hjl]
   rw [if_neg (show ((j - 1) / 2 - 1) / 2 ≠ j by omega), if_neg (show ((j - 1) / 2 - 1) / 2 ≠ (j - 1) / 2 by omega)]
   by_cases e : k = j
   · rw [if_pos e]; exact hp
   · rw [if_neg e, if_neg (show k ≠ (j - 1) / 2 by omega)]
     have := h.1 k k0 kn e; rw [kj] at this; omega
theorem up_done {l : List Int} {n j : Nat} (h : HpUp l n j) (hd : j = 0 ∨ gd l ((j - 1) / 2) ≤ gd l j) : Hp l n := by
 intro k k0 kn
 by_cases e : k = j
 · subst e; rcases hd with e | e
   · omega
   · exact e
 · exact h.1 k k0 kn e
theorem up_begin {l : List Int} {n : Nat} (h : Hp l n) (x : Int) (hn : n = l.length) : HpUp (l ++ [x]) (n + 1) n := by
 subst hn
 have ha : ∀ k, k < l.length → gd (l ++ [x]) k = gd l k := fun k hk => by unfold gd; simp [List.getD, List.getElem?_append_left hk]
 refine ⟨fun k k0 kn kj => ?_, fun k k0 kn kj _ => by omega⟩
 rw [ha _ (by omega), ha _ (by omega)]; exact h k k0 (by omega)
theorem dn_step {l : List Int} {n i j : Nat} (h : HpDn l n i) (hn : n ≤ l.length) (hj : j < n) (hji : j = 2 * i + 1 ∨ j = 2 * i + 2) (hmin : ∀ k, k < n → (k = 2 * i + 1 ∨ k = 2 * i + 2) → gd l j ≤ gd l k) (hlt : gd l j < gd l i) : HpDn (sw l i j) n j := by
 have hi : i < l.length := by omega
 have hjl : j < l.length := by omega
 refine ⟨fun k k0 kn kj => ?_, fun k k0 kn kj j0 => ?_⟩
 · rw [gd_sw hi hjl, gd_sw hi hjl]
   rw [if_neg kj]
   by_cases e : k = j
   · subst e; rw [if_pos (show (k - 1) / 2 = i by omega)]; simp only [if_true]; omega
   · rw [if_neg e]
     by_cases e2 : (k - 1) / 2 = i
     · rw [if_pos e2, if_neg (by omega)]; exact hmin k kn (by omega)
     · rw [if_neg e2]
       by_cases e3 : k = i
       · rw [if_pos e3]; subst e3; exact h.2 j (by omega) hj (by omega) k0
       · rw [if_neg e3]; exact h.1 k k0 kn e2
 · have e : (j - 1) / 2 = i := by omega
   rw [gd_sw hi hjl, gd_sw hi hjl, e, if_neg (show i ≠ j by omega), if_pos rfl, if_neg (show k ≠ j by omega), if_neg (show k ≠ i by omega)]
   have := h.1 k k0 kn (by omega)
   rw [kj] at this; exact this
theorem dn_done {l : List Int} {n i : Nat} (h : HpDn l n i) (hd : ∀ k, k < n → (k = 2 * i + 1 ∨ k = 2 * i + 2) → gd l i ≤ gd l k) : Hp l n := by
 intro k k0 kn
 by_cases e : (k - 1) / 2 = i
 · rw [e]; exact hd k kn (by omega)
 · exact h.1 k k0 kn e
theorem dn_begin {l : List Int} {n : Nat} (h : Hp l (n + 1)) (hn : l.length = n + 1) : HpDn (sw l 0 n) n 0 := by
 refine ⟨fun k k0 kn kj => ?_, fun k _ _ _ i0 => by omega⟩
 rw [gd_sw (by omega) (by omega), gd_sw (by omega) (by omega)]
 rw [if_neg (by omega), if_neg kj, if_neg (by omega), if_neg (by omega)]
 exact h k k0 (by omega)
theorem hp_min {l : List Int} {n : Nat} (h : Hp l n) : ∀ k, k < n → gd l 0 ≤ gd l k := by
 intro k
 induction k using Nat.strongRecOn with
 | _ k ih =>
  intro kn
  by_cases e : k = 0
  · subst e; exact Int.le_refl _
  · exact Int.le_trans (ih ((k - 1) / 2) (by omega) (by omega)) (h k (by omega) kn)
theorem hp_take {l : List Int} {n : Nat} (h : Hp l n) (hn : n ≤ l.length) : Hp (l.take n) n := by
 have ha : ∀ k, k < n → gd (l.take n) k = gd l k := fun k hk => by unfold gd; simp [List.getD, List.getElem?_take, hk]
 intro k k0 kn; rw [ha _ (by omega), ha _ kn]; exact h k k0 kn
end Go.Proofs.YtdebhngpgabglaaGreat.Ca
/- The numbers that may be taken: their length, order, places; push and pop of the type itself. Conditions: the row lies in memory of the call's own. -/
namespace Go.Proofs.YtdebhngpgabglaaGreat.Ca
open Go.ChangeShapes Go.WideShapes Go.ChangeAt Go.RowKit Go.Proofs.YtdebhngpgabglaaGreat.Tr
structure Kp (A : Nat → Prop) (w w' : World) : Prop where
 os : w'.os = w.os
 tape : w'.tape = w.tape
 output : w'.output = w.output
 size : w.heap.size ≤ w'.heap.size
 block : ∀ i, i < w.heap.size → ¬ A i → w'.heap[i]? = w.heap[i]?
theorem Kp.refl (A : Nat → Prop) (w : World) : Kp A w w := ⟨rfl, rfl, rfl, Nat.le_refl _, fun _ _ _ => rfl⟩
theorem Kp.trans {A : Nat → Prop} {a b c : World} (h : Kp A a b) (k : Kp A b c) : Kp A a c :=
 ⟨k.os.trans h.os, k.tape.trans h.tape, k.output.trans h.output, Nat.le_trans h.size k.size, fun i hi hn => (k.block i (Nat.lt_of_lt_of_le hi h.size) hn).trans (h.block i hi hn)⟩
theorem Kp.trans2 {A A' : Nat → Prop} {a b c : World} (h : Kp A a b) (k : Kp A' b c) (hA : ∀ i, i < a.heap.size → A' i → A i) : Kp A a c :=
 ⟨k.os.trans h.os, k.tape.trans h.tape, k.output.trans h.output, Nat.le_trans h.size k.size, fun i hi hn => (k.block i (Nat.lt_of_lt_of_le hi h.size) (fun x => hn (hA i hi x))).trans (h.block i hi hn)⟩
theorem Kp.wide {A A' : Nat → Prop} {w w' : World} (h : Kp A w w') (hA : ∀ i, i < w.heap.size → A i → A' i) : Kp A' w w' := ⟨h.os, h.tape, h.output, h.size, fun i hi hn => h.block i hi (fun x => hn (hA i hi x))⟩
theorem Kp.drewN {A : Nat → Prop} {w w' : World} (h : Kp A w w') (n : Nat) : Kp A w (w'.drewN n) := ⟨h.os, h.tape, h.output, h.size, h.block⟩
theorem Kp.drew {A : Nat → Prop} {w w' : World} (h : Kp A w w') : Kp A w w'.drew := ⟨h.os, h.tape, h.output, h.size, h.block⟩
theorem Kp.setCell {A : Nat → Prop} {w w' : World} (h : Kp A w w') {p : Addr} (hp : A p.block) (u : Value) : Kp A w (w'.setCell p u) :=
 ⟨h.os, h.tape, h.output, by simpa using h.size, fun i hi hn => (Below.heap_setCell _ _ _ _ (fun e => hn (by rw [e]; exact hp))).trans (h.block i hi hn)⟩
theorem Kp.grown {A : Nat → Prop} {w w1 w' : World} {row : Option Nat} (h : Kp A w w1) (hg : w1.grownBy w' row) (hr : ∀ k, row = some k → k < w.heap.size → A k) : Kp A w w' :=
 ⟨hg.os.trans h.os, hg.tape.trans h.tape, hg.output.trans h.output, Nat.le_trans h.size hg.size, fun i hi hn => (hg.block i (Nat.lt_of_lt_of_le hi h.size) (fun e => hn (hr i e.symm hi))).trans (h.block i hi hn)⟩
theorem Kp.below {A : Nat → Prop} {w w' : World} (h : Kp A w w') {n : Nat} (hn : n ≤ w.heap.size) (hA : ∀ i, i < w.heap.size → A i → n ≤ i) : Below n w w' :=
 ⟨h.os, h.tape, h.output, h.size, fun k hk => h.block k (by omega) (fun x => by have := hA k (by omega) x; omega)⟩
theorem Kp.of_below {w w' : World} (h : Below w.heap.size w w') : Kp (fun _ => False) w w' := ⟨h.os, h.tape, h.output, h.size, fun i hi _ => h.block i hi⟩
set_option maxRecDepth 100000 in
theorem mLen0 (B : Nat) (W : World) : Sem.run Tryz.prog (method 260 98 (.pointer (some ⟨B, 3, none⟩)) "Len") W = Sem.run Tryz.prog (Sem.load .plain ⟨B, 3, none⟩ (fun v => Sem.pure (24, v))) W := by kernel_rfl
theorem mLess0 (B : Nat) (W : World) : Sem.run Tryz.prog (method 260 98 (.pointer (some ⟨B, 3, none⟩)) "Less") W = Sem.run Tryz.prog (Sem.load .plain ⟨B, 3, none⟩ (fun v => Sem.pure (121, v))) W := by kernel_rfl
theorem mSwap0 (B : Nat) (W : World) : Sem.run Tryz.prog (method 260 98 (.pointer (some ⟨B, 3, none⟩)) "Swap") W = Sem.run Tryz.prog (Sem.load .plain ⟨B, 3, none⟩ (fun v => Sem.pure (123, v))) W := by kernel_rfl
theorem mPush (B : Nat) : ∀ W, Sem.run Tryz.prog (method 260 98 (.pointer (some ⟨B, 3, none⟩)) "Push") W = .ok (125, .pointer (some ⟨B, 3, none⟩)) W := by intro W; kernel_rfl
theorem mPop (B : Nat) : ∀ W, Sem.run Tryz.prog (method 260 98 (.pointer (some ⟨B, 3, none⟩)) "Pop") W = .ok (124, .pointer (some ⟨B, 3, none⟩)) W := by intro W; kernel_rfl
theorem mLen {B : Nat} {W : World} {v : Value} (h : W.cell? ⟨B, 3, none⟩ = some v) : Sem.run Tryz.prog (method 260 98 (.pointer (some ⟨B, 3, none⟩)) "Len") W = .ok (24, v) W := by rw [mLen0]; simp [Sem.run, h]
theorem mLess {B : Nat} {W : World} {v : Value} (h : W.cell? ⟨B, 3, none⟩ = some v) : Sem.run Tryz.prog (method 260 98 (.pointer (some ⟨B, 3, none⟩)) "Less") W = .ok (121, v) W := by rw [mLess0]; simp [Sem.run, h]
theorem mSwap {B : Nat} {W : World} {v : Value} (h : W.cell? ⟨B, 3, none⟩ = some v) : Sem.run Tryz.prog (method 260 98 (.pointer (some ⟨B, 3, none⟩)) "Swap") W = .ok (123, v) W := by rw [mSwap0]; simp [Sem.run, h]
theorem eLen : ∀ args w, Sem.run Tryz.prog (callFunc 24 args) w = .ok (.enter 24 args) w := by intro a w; kernel_rfl
theorem eLess : ∀ args w, Sem.run Tryz.prog (callFunc 121 args) w = .ok (.enter 121 args) w := by intro a w; kernel_rfl
theorem eSwap : ∀ args w, Sem.run Tryz.prog (callFunc 123 args) w = .ok (.enter 123 args) w := by intro a w; kernel_rfl
theorem ePush : ∀ args w, Sem.run Tryz.prog (callFunc 125 args) w = .ok (.enter 125 args) w := by intro a w; kernel_rfl
theorem ePop : ∀ args w, Sem.run Tryz.prog (callFunc 124 args) w = .ok (.enter 124 args) w := by intro a w; kernel_rfl
theorem len_any (A : Option Addr) (n c : Nat) (w : World) : Calls Tryz.prog 24 #[.slice A n c] w (fun e w' => e = .returned (.int .i64 n) ∧ w' = w) := by
 go_enter Tryz.func24, Tryz.ntmps24
 go_wp2
 go_ret
 exact ⟨rfl, rfl⟩
theorem gd_at {l : List Int} {i : Nat} (h : i < l.length) : l[i]? = some (gd l i) := by rw [List.getElem?_eq_getElem h, gd_eq h]
def LessPost (w : World) (l : List Int) (i j : Nat) (e : Ending) (w' : World) : Prop := e = .returned (.bool (decide (gd l i < gd l j))) ∧ ∃ q, w' = w.drewN q
set_option maxHeartbeats 1600000 in
theorem less_any (g c base : Nat) (l : List Int) (i j : Nat) (w : World) (ho : w.ownsRow base 3 1 (.slice (some ⟨g, 0, none⟩) l.length c) l.length (intsOf l)) (hi : i < l.length) (hj : j < l.length) :
 Calls Tryz.prog 121 #[.slice (some ⟨g, 0, none⟩) l.length c, .int .i64 (i : Int), .int .i64 (j : Int)] w (LessPost w l i j) := by
 have c1 := (ho.cellAt i (by omega)).trans (intsOf_get _ i _ (gd_at hi))
 have c2 := (ho.cellAt j (by omega)).trans (intsOf_get _ j _ (gd_at hj))
 have hgl := (ho.lt g rfl).2
 clear ho
 go_enter Tryz.func121, Tryz.ntmps121
 go_wp2
 go_region
 all_goals
  go_wp2
  go_ret
  exact ⟨rfl, 1, rfl⟩
def SwapPost (w : World) (g c base : Nat) (l : List Int) (i j : Nat) (e : Ending) (w' : World) : Prop :=
 e = .returned (.tuple #[]) ∧ w'.ownsRow base 3 1 (.slice (some ⟨g, 0, none⟩) l.length c) l.length (intsOf (sw l i j)) ∧ Kp (fun k => k = g) w w'
theorem kp_two (w : World) (g i j : Nat) (x y : Value) : Kp (fun k => k = g) w ((w.setCell ⟨g, i, none⟩ x).setCell ⟨g, j, none⟩ y) := Kp.setCell (A := fun k => k = g) (p := ⟨g, j, none⟩) (Kp.setCell (A := fun k => k = g) (p := ⟨g, i, none⟩) (Kp.refl (fun k => k = g) w) rfl x) rfl y
set_option maxHeartbeats 4000000 in
theorem swap_any (g c base : Nat) (l : List Int) (i j : Nat) (w : World) (ho : w.ownsRow base 3 1 (.slice (some ⟨g, 0, none⟩) l.length c) l.length (intsOf l)) (hi : i < l.length) (hj : j < l.length) :
 Calls Tryz.prog 123 #[.slice (some ⟨g, 0, none⟩) l.length c, .int .i64 (i : Int), .int .i64 (j : Int)] w (SwapPost w g c base l i j) := by
 have c1 := (ho.cellAt i (by omega)).trans (intsOf_get _ i _ (gd_at hi))
 have c2 := (ho.cellAt j (by omega)).trans (intsOf_get _ j _ (gd_at hj))
 have f1 := ho.frozenAt i
 have f2 := ho.frozenAt j
 have HO2 : Hid (((w.setCell ⟨g, i, none⟩ (.int .i64 (gd l j))).setCell ⟨g, j, none⟩ (.int .i64 (gd l i))).ownsRow base 3 1 (.slice (some ⟨g, 0, none⟩) l.length c) l.length (intsOf (sw l i j))) := Lib.hid (by
  unfold sw
  rw [intsOf_set, intsOf_set]
  exact ((ho.stored i (.int .i64 (gd l j))).1.stored j (.int .i64 (gd l i))).1)
 have hgl := (ho.lt g rfl).2
 obtain ⟨x, hx⟩ : ∃ x, gd l i = x := ⟨_, rfl⟩
 obtain ⟨y, hy⟩ : ∃ y, gd l j = y := ⟨_, rfl⟩
 rw [hx] at c1 HO2
 rw [hy] at c2 HO2
 clear ho hx hy
 by_cases hij : i = j
 · subst hij
   rw [c1] at c2
   injection c2 with c2
   injection c2 with _ c2
   subst c2
   clear f2
   go_enter Tryz.func123, Tryz.ntmps123
   go_wp2
   go_region
   all_goals
    go_wp2
    go_end0
    refine ⟨rfl, ?hw, ?hk⟩
    case hw => exact HO2.out
    case hk => exact (kp_two w g i i _ _).drew
 · have hji : j ≠ i := Ne.symm hij
   go_enter Tryz.func123, Tryz.ntmps123
   go_wp2
   go_region
   all_goals
    go_wp2
    go_end0
    refine ⟨rfl, ?hw, ?hk⟩
    case hw => exact HO2.out
    case hk => exact (kp_two w g i j _ _).drew
end Go.Proofs.YtdebhngpgabglaaGreat.Ca
/- Push and Pop of the numbers that may be taken. Conditions: they lie in the queue. -/
namespace Go.Proofs.YtdebhngpgabglaaGreat.Ca
open Go.ChangeShapes Go.WideShapes Go.ChangeAt Go.RowKit Go.Proofs.YtdebhngpgabglaaGreat.Tr
structure RdAt (w : World) (base B : Nat) (c0 c1 c2 v : Value) (l : List Int) : Prop where
 cell : w.heap[B]? = some (.cells #[c0, c1, c2, v] 73 (0, 0))
 own : w.ownsRow base 3 1 v l.length (intsOf l)
theorem RdAt.ne {w : World} {base B : Nat} {c0 c1 c2 v : Value} {l : List Int} (h : RdAt w base B c0 c1 c2 v l) : ∀ k, v.ownBlock = some k → k ≠ B ∧ k < w.heap.size := by
 intro k hk
 obtain ⟨hl, h0 | ⟨g, cap, cur, rfl, hb, hh, _⟩⟩ := h.own
 · rw [h0.1] at hk; cases hk
 · have e : some g = some k := hk
   injection e with e
   subst e
   refine ⟨fun e => ?_, lt_of_block hh⟩
   subst e
   rw [h.cell] at hh
   simp at hh
theorem RdAt.lt {w : World} {base B : Nat} {c0 c1 c2 v : Value} {l : List Int} (h : RdAt w base B c0 c1 c2 v l) : B < w.heap.size := lt_of_block h.cell
theorem RdAt.at3 {w : World} {base B : Nat} {c0 c1 c2 v : Value} {l : List Int} (h : RdAt w base B c0 c1 c2 v l) : w.cell? ⟨B, 3, none⟩ = some v ∧ w.frozen? ⟨B, 3, none⟩ = false := by
 have := h.cell
 constructor <;> simp [World.cell?, World.frozen?, this]
theorem ta_int (x : Int) (W : World) : Sem.run Tryz.prog (Instr.typeAssert (.iface 3 (.int .i64 x)) 20 3 false) W = .ok (.int .i64 x) W := by kernel_rfl
theorem set_que {w : World} {B : Nat} {c0 c1 c2 v u : Value} (h : w.heap[B]? = some (.cells #[c0, c1, c2, v] 73 (0, 0))) : (w.setCell ⟨B, 3, none⟩ u).heap[B]? = some (.cells #[c0, c1, c2, u] 73 (0, 0)) := by
 simp [World.setCell, Array.getElem?_modify, h]
def PushPost (w : World) (base B : Nat) (c0 c1 c2 v : Value) (l : List Int) (x : Int) (e : Ending) (w' : World) : Prop :=
 e = .returned (.tuple #[]) ∧ ∃ g c, RdAt w' base B c0 c1 c2 (.slice (some ⟨g, 0, none⟩) (l.length + 1) c) (l ++ [x]) ∧ (v.ownBlock = some g ∨ w.heap.size ≤ g) ∧ Kp (fun i => i = B ∨ v.ownBlock = some i) w w'
theorem push_end {w wa w2 : World} {base B : Nat} {c0 c1 c2 v : Value} {l : List Int} {x : Int} (h : RdAt w base B c0 c1 c2 v l) (ha : Below w.heap.size w wa) {g cap : Nat}
 (hown : w2.ownsRow base 3 1 (.slice (some ⟨g, 0, none⟩) (l.length + 1) cap) (l.length + 1) (intsOf l ++ [.int .i64 x])) (hg : wa.grownBy w2 v.ownBlock) (hat : v.ownBlock = some g ∨ g = wa.heap.size) :
 PushPost w base B c0 c1 c2 v l x (.returned (.tuple #[])) (w2.setCell ⟨B, 3, none⟩ (.slice (some ⟨g, 0, none⟩) (l.length + 1) cap)) := by
 have hz := ha.size
 have hB := h.lt
 have hk : Kp (fun i => i = B ∨ v.ownBlock = some i) w w2 := ((Kp.of_below ha).wide (fun _ _ h => h.elim)).grown hg (fun k hk _ => .inr hk)
 have hBv : v.ownBlock ≠ some B := fun e => (h.ne B e).1 rfl
 have hcell : w2.heap[B]? = some (.cells #[c0, c1, c2, v] 73 (0, 0)) := (hg.block B (by omega) (fun e => hBv e.symm)).trans ((ha.block B hB).trans h.cell)
 have hgB : g ≠ B := by
  rcases hat with e | e
  · exact (h.ne g e).1
  · omega
 refine ⟨rfl, g, cap, ⟨set_que hcell, ?_⟩, ?_, hk.setCell (p := ⟨B, 3, none⟩) (.inl rfl) _⟩
 · rw [ints_snoc, List.length_append]
   exact own_block hown (fun k hk => by
    have e : some g = some k := hk
    injection e with e
    subst e
    exact Below.heap_setCell _ _ _ _ hgB)
 · rcases hat with e | e
   · exact .inl e
   · exact .inr (by omega)
set_option maxRecDepth 100000 in
set_option maxHeartbeats 4000000 in
theorem rpush_any (w : World) (base B : Nat) (c0 c1 c2 v : Value) (l : List Int) (x : Int) (h : RdAt w base B c0 c1 c2 v l) (hb : base ≤ w.heap.size) (hn : l.length ≤ 100000) :
 Calls Tryz.prog 125 #[.pointer (some ⟨B, 3, none⟩), .iface 3 (.int .i64 x)] w (PushPost w base B c0 c1 c2 v l x) := by
 obtain ⟨i0, hi, hz0, hz1, hz2⟩ := info_parts info3
 have H := Lib.hid h
 have hBl := h.lt
 obtain ⟨k0, k1⟩ := h.at3
 have hown := h.own
 have HO := Lib.hid hown
 have hta := ta_int x
 have HE := Lib.hid (fun (wa w2 : World) (g cap : Nat) (ha : Below w.heap.size w wa) => @push_end w wa w2 base B c0 c1 c2 v l x h ha g cap)
 have hBv : Hid (v.ownBlock ≠ some B) := Lib.hid (fun e => (h.ne B e).1 rfl)
 clear h
 rcases hown.2 with ⟨rfl, h0⟩ | ⟨g0, cap0, cur, rfl, hbg, hh, hc1, hc2, -, -⟩
 · clear hown
   obtain rfl : l = [] := List.length_eq_zero_iff.1 h0
   clear h0
   have q3 : ∀ w2 : World, ((w.drew).alloc (.cells #[.int .i64 x] 3)).grownBy w2 (Value.slice none 0 0).ownBlock → w2.cell? ⟨B, 3, none⟩ = some (.slice none 0 0) ∧ w2.frozen? ⟨B, 3, none⟩ = false := fun w2 hg => by
    have e := (hg.block B (by simp; omega) (by intro e; cases e)).trans (Below.heap_alloc _ _ _ hBl)
    have := H.out.cell
    have e2 := e.trans this
    constructor <;> simp [World.cell?, World.frozen?, e2]
   have Q3 := Lib.hid q3
   clear q3
   go_enter Tryz.func125, Tryz.ntmps125
   go_wp2_with fail
   go_region_law (refine step_append_lies _ (by rfl) _ _ _ (by rfl) base 3 i0 _ 1 8 Tryz.underlying69 hi hz0 hz1 hz2 rfl (by omega) (.slice none 0 0) 0 [] (by rfl) (by exact HO.out.alloc _) ⟨w.heap.size, 0, none⟩ 1 1 [.int .i64 x] (by rfl) (by rfl) (World.news_of_block (cs := #[.int .i64 x]) (t := 3) (fr := (0, 0)) (heap_alloc_new _ _)) (by simp [Value.oneCell']) (by omega) (by unfold maxLen; omega) (by omega) (by simp; omega) (w.heap.size + 1) (by simp) ?_; intro gg cap w2 hown2 hgrow hat hlt; obtain ⟨q1, q2⟩ := Q3.out w2 hgrow)
   all_goals
    try go_wp2
    go_end0
    exact HE.out _ _ gg cap ((below_new w _).drew) hown2 hgrow (hat.imp id (fun e => e.trans (by simp)))
 · clear hown hh
   unfold maxLen at hc2
   have q3 : ∀ w2 : World, ((w.drew).alloc (.cells #[.int .i64 x] 3)).grownBy w2 (Value.slice (some ⟨g0, 0, none⟩) l.length cap0).ownBlock → w2.cell? ⟨B, 3, none⟩ = some (.slice (some ⟨g0, 0, none⟩) l.length cap0) ∧ w2.frozen? ⟨B, 3, none⟩ = false := fun w2 hg => by
    have e := (hg.block B (by simp; omega) (fun e => hBv.out e.symm)).trans (Below.heap_alloc _ _ _ hBl)
    have := H.out.cell
    have e2 := e.trans this
    constructor <;> simp [World.cell?, World.frozen?, e2]
   have Q3 := Lib.hid q3
   clear q3
   go_enter Tryz.func125, Tryz.ntmps125
   go_wp2_with fail
   go_region_law (refine step_append_lies _ (by rfl) _ _ _ (by rfl) base 3 i0 _ 1 8 Tryz.underlying69 hi hz0 hz1 hz2 rfl (by omega) (.slice (some ⟨g0, 0, none⟩) l.length cap0) l.length (intsOf l) (by rfl) (by exact HO.out.alloc _) ⟨w.heap.size, 0, none⟩ 1 1 [.int .i64 x] (by rfl) (by rfl) (World.news_of_block (cs := #[.int .i64 x]) (t := 3) (fr := (0, 0)) (heap_alloc_new _ _)) (by simp [Value.oneCell']) (by omega) (by unfold maxLen; omega) (by omega) (by simp; omega) (w.heap.size + 1) (by simp) ?_; intro gg cap w2 hown2 hgrow hat hlt; obtain ⟨q1, q2⟩ := Q3.out w2 hgrow)
   all_goals
    try go_wp2
    go_end0
    exact HE.out _ _ gg cap ((below_new w _).drew) hown2 hgrow (hat.imp id (fun e => e.trans (by simp)))
def PopPost (w : World) (base B : Nat) (c0 c1 c2 : Value) (g n c : Nat) (l : List Int) (e : Ending) (w' : World) : Prop :=
 e = .returned (.iface 3 (.int .i64 (gd l n))) ∧ RdAt w' base B c0 c1 c2 (.slice (some ⟨g, 0, none⟩) n c) (l.take n) ∧ Kp (fun i => i = B) w w'
set_option maxRecDepth 100000 in
set_option maxHeartbeats 4000000 in
theorem rpop_any (w : World) (base B g n c : Nat) (c0 c1 c2 : Value) (l : List Int) (hl : l.length = n + 1) (h : RdAt w base B c0 c1 c2 (.slice (some ⟨g, 0, none⟩) (n + 1) c) l) :
 Calls Tryz.prog 124 #[.pointer (some ⟨B, 3, none⟩)] w (PopPost w base B c0 c1 c2 g n c l) := by
 obtain ⟨k0, k1⟩ := h.at3
 have hBl := h.lt
 have hgB := (h.ne g rfl).1
 have own := h.own
 rw [hl] at own
 have hcell := Lib.hid h.cell
 have hnl : n < l.length := by omega
 have h1 := (own.cellAt n (by omega)).trans (intsOf_get _ n _ (gd_at hnl))
 have HO : Hid (w.ownsRow base 3 1 (.slice (some ⟨g, 0, none⟩) n c) (l.take n).length (intsOf (l.take n))) := Lib.hid (by
  obtain ⟨hl0, h0 | ⟨g', cap, cur, e, hb, hh, hnc, hcm, hcs, hct⟩⟩ := own
  · cases h0.1
  · simp only [Value.slice.injEq, Option.some.injEq, Addr.mk.injEq] at e
    obtain ⟨⟨rfl, -, -⟩, -, rfl⟩ := e
    have e1 : (l.take n).length = n := by rw [List.length_take]; omega
    refine ⟨by rw [e1]; unfold intsOf; rw [List.length_map, e1]; omega, .inr ⟨g, c, cur, by rw [e1], hb, hh, by omega, hcm, hcs, ?_⟩⟩
    rw [e1]
    have e2 : cur.toList.take (n * 1) = (cur.toList.take ((n + 1) * 1)).take n := by rw [List.take_take]; congr 1; omega
    rw [e2, hct]; unfold intsOf; rw [List.map_take])
 have hcap : Hid (n + 1 ≤ c ∧ c ≤ maxLen) := Lib.hid (by
  obtain ⟨hl0, h0 | ⟨g', cap, cur, e, hb, hh, hnc, hcm, hcs, hct⟩⟩ := own
  · cases h0.1
  · simp only [Value.slice.injEq, Option.some.injEq, Addr.mk.injEq] at e
    obtain ⟨⟨rfl, -, -⟩, -, rfl⟩ := e
    exact ⟨by omega, hcm⟩)
 obtain ⟨x, hx⟩ : ∃ x, gd l n = x := ⟨_, rfl⟩
 have HX := Lib.hid hx
 rw [hx] at h1
 have hgl := (own.lt g rfl).2
 obtain ⟨p1, p2⟩ := hcap.out
 unfold maxLen at p2
 clear h own hx hl hnl
 go_enter Tryz.func124, Tryz.ntmps124
 go_wp2_with fail
 refine (len_any _ _ _ _).mono ?_
 rintro e w1 ⟨rfl, rfl⟩
 go_wp2
 go_ret
 refine ⟨by rw [HX.out]; rfl, ⟨set_que hcell.out, own_block HO.out (fun k hk => ?_)⟩, Kp.setCell (A := fun i => i = B) (p := ⟨B, 3, none⟩) (Kp.refl _ _) rfl _⟩
 have e : some g = some k := hk
 injection e with e
 subst e
 exact Below.heap_setCell _ _ _ _ hgB
end Go.Proofs.YtdebhngpgabglaaGreat.Ca
/- The heap's up and down, Push and Pop. Conditions: what may be taken lies in the queue. -/
namespace Go.Proofs.YtdebhngpgabglaaGreat.Ca
open Go.ChangeShapes Go.WideShapes Go.ChangeAt Go.RowKit Go.Proofs.YtdebhngpgabglaaGreat.Tr
abbrev ifc (B : Nat) : Value := .iface 98 (.pointer (some ⟨B, 3, none⟩))
theorem RdAt.turned {w w' : World} {base B g n c : Nat} {c0 c1 c2 : Value} {l l' : List Int} (h : RdAt w base B c0 c1 c2 (.slice (some ⟨g, 0, none⟩) n c) l) (ho : w'.ownsRow base 3 1 (.slice (some ⟨g, 0, none⟩) n c) l'.length (intsOf l')) (hk : Kp (fun k => k = g) w w') : RdAt w' base B c0 c1 c2 (.slice (some ⟨g, 0, none⟩) n c) l' :=
 ⟨(hk.block B h.lt (fun e => (h.ne g rfl).1 e.symm)).trans h.cell, ho⟩
theorem RdAt.same {w w' : World} {base B : Nat} {c0 c1 c2 v : Value} {l : List Int} (h : RdAt w base B c0 c1 c2 v l) (hh : w'.heap = w.heap) : RdAt w' base B c0 c1 c2 v l :=
 ⟨by rw [hh]; exact h.cell, own_block h.own (fun k _ => by rw [hh])⟩
theorem RdAt.drewN {w : World} {base B : Nat} {c0 c1 c2 v : Value} {l : List Int} (h : RdAt w base B c0 c1 c2 v l) (q : Nat) : RdAt (w.drewN q) base B c0 c1 c2 v l := h.same rfl
theorem less_n {w : World} {base B g n c i j : Nat} {c0 c1 c2 : Value} {l : List Int} (hr : RdAt w base B c0 c1 c2 (.slice (some ⟨g, 0, none⟩) n c) l) (hl : l.length = n) (hi : i < n) (hj : j < n) :
 Calls Tryz.prog 121 #[.slice (some ⟨g, 0, none⟩) n c, .int .i64 (i : Int), .int .i64 (j : Int)] w (LessPost w l i j) := by
 subst hl; exact less_any g c base l i j w hr.own hi hj
def SwPost (w : World) (base B g n c : Nat) (c0 c1 c2 : Value) (l : List Int) (i j : Nat) (e : Ending) (w' : World) : Prop :=
 e = .returned (.tuple #[]) ∧ RdAt w' base B c0 c1 c2 (.slice (some ⟨g, 0, none⟩) n c) (sw l i j) ∧ Kp (fun k => k = g) w w'
theorem swap_n {w : World} {base B g n c i j : Nat} {c0 c1 c2 : Value} {l : List Int} (hr : RdAt w base B c0 c1 c2 (.slice (some ⟨g, 0, none⟩) n c) l) (hl : l.length = n) (hi : i < n) (hj : j < n) :
 Calls Tryz.prog 123 #[.slice (some ⟨g, 0, none⟩) n c, .int .i64 (i : Int), .int .i64 (j : Int)] w (SwPost w base B g n c c0 c1 c2 l i j) := by
 subst hl
 refine (swap_any g c base l i j w hr.own hi hj).mono ?_
 rintro e w' ⟨rfl, ho, hk⟩
 exact ⟨rfl, hr.turned (by rw [sw_len]; exact ho) hk, hk⟩
def UpPost (w : World) (base B : Nat) (c0 c1 c2 : Value) (g n c : Nat) (l : List Int) (e : Ending) (w' : World) : Prop :=
 e = .returned (.tuple #[]) ∧ ∃ l' : List Int, l'.Perm l ∧ Hp l' n ∧ RdAt w' base B c0 c1 c2 (.slice (some ⟨g, 0, none⟩) n c) l' ∧ Kp (fun i => i = g) w w'
set_option maxRecDepth 100000 in
set_option maxHeartbeats 8000000 in
theorem up_any (w : World) (base B g n c j : Nat) (c0 c1 c2 : Value) (l : List Int) (h : RdAt w base B c0 c1 c2 (.slice (some ⟨g, 0, none⟩) n c) l) (hl : l.length = n) (hj : j < n) (hn : n ≤ 1000000) (hu : HpUp l n j) :
 Calls Tryz.prog 62 #[ifc B, .int .i64 (j : Int)] w (UpPost w base B c0 c1 c2 g n c l) := by
 have H := Lib.hid h
 have HL := Lib.hid hl
 have HU := Lib.hid hu
 have e1 := eLess
 have e2 := eSwap
 clear h hl hu
 go_enter Tryz.func62, Tryz.ntmps62
 go_wp2_with fail
 go_loopw [1] (fun vj wr => ∃ (k : Nat) (l' : List Int), vj = .int .i64 (k : Int) ∧ k < n ∧ l'.Perm l ∧ HpUp l' n k ∧ RdAt wr base B c0 c1 c2 (.slice (some ⟨g, 0, none⟩) n c) l' ∧ Kp (fun i => i = g) w wr) (fun vj _ => (intOf vj).toNat)
 case atStart => exact ⟨j, l, rfl, hj, List.Perm.refl _, HU.out, H.out, Kp.refl _ _⟩
 case round =>
  obtain ⟨k, l', rfl, hk, hp, hu, hr, hkp⟩ := hrel
  by_cases hk0 : k = 0
  · subst hk0
    have HP := Lib.hid hp
    have HK := Lib.hid hkp
    have HR := Lib.hid hr
    have HUU := Lib.hid hu
    have hz : (0 : Nat) < n := hk
    clear hp hkp hr hu
    go_wp2
    go_end0
    exact ⟨rfl, l', HP.out, up_done HUU.out (.inl rfl), HR.out, HK.out⟩
  · obtain ⟨i, hi⟩ : ∃ i, (k - 1) / 2 = i := ⟨_, rfl⟩
    have hik : i ≠ k := by omega
    have hq : ((k : Int) - 1).tdiv 2 = (i : Int) := by rw [Int.tdiv_eq_ediv_of_nonneg (by omega)]; omega
    have hm1 := mLess hr.at3.1
    have hm2 := mSwap hr.at3.1
    have hd : ((i : Int) == (k : Int)) = false := by simp; omega
    obtain ⟨q, hq'⟩ : ∃ q, decide (gd l' k < gd l' i) = q := ⟨_, rfl⟩
    have HQ := Lib.hid hq'
    have hl' : l'.length = n := hp.length_eq.trans HL.out
    have HLS := Lib.hid (less_n hr hl' hk (show i < n by omega))
    have HSW := Lib.hid (fun q => swap_n (hr.drewN q) hl' (show i < n by omega) hk)
    have hm3 := fun q => mSwap (hr.drewN q).at3.1
    have HP := Lib.hid hp
    have HK := Lib.hid hkp
    have HR := Lib.hid hr
    have HUU := Lib.hid hu
    have HI := Lib.hid hi
    have hin : i < n := by omega
    have HJ := Lib.hid (show i < k by omega)
    clear hq' hl' hp hkp hr hu hi
    cases q with
    | false =>
     go_wp2_with fail
     refine HLS.out.mono ?_
     rintro e w1 ⟨rfl, q, rfl⟩
     rw [HQ.out]
     go_wp2
     go_end0
     refine ⟨rfl, l', HP.out, up_done HUU.out (.inr ?_), HR.out.drewN q, HK.out.drewN q⟩
     have := of_decide_eq_false HQ.out
     rw [HI.out]; omega
    | true =>
     go_wp2_with fail
     refine HLS.out.mono ?_
     rintro e w1 ⟨rfl, q, rfl⟩
     rw [HQ.out]
     go_wp2_with fail
     refine (HSW.out q).mono ?_
     rintro e w2 ⟨rfl, hr2, hk2⟩
     have HR2 := Lib.hid hr2
     have HK2 := Lib.hid hk2
     clear hr2 hk2
     go_wp2
     refine ⟨⟨i, sw l' i k, rfl, hin, ?_, ?_, HR2.out, (HK.out.drewN q).trans HK2.out⟩, ?_⟩
     · exact (sw_perm (by rw [HP.out.length_eq, HL.out]; exact hin) (by rw [HP.out.length_eq, HL.out]; exact hk)).trans HP.out
     · have := up_step HUU.out (by omega) hk (by rw [HP.out.length_eq, HL.out]; exact Nat.le_refl _) (by rw [HI.out]; exact of_decide_eq_true HQ.out)
       rw [HI.out] at this; exact this
     · simp [intOf]; exact HJ.out
end Go.Proofs.YtdebhngpgabglaaGreat.Ca
/- The heap's down, Push and Pop. Conditions: what may be taken lies in the queue. -/
namespace Go.Proofs.YtdebhngpgabglaaGreat.Ca
open Go.ChangeShapes Go.WideShapes Go.ChangeAt Go.RowKit Go.Proofs.YtdebhngpgabglaaGreat.Tr
theorem less_z {w : World} {base B g n c : Nat} (i j : Nat) {I J : Int} {c0 c1 c2 : Value} {l : List Int} (hr : RdAt w base B c0 c1 c2 (.slice (some ⟨g, 0, none⟩) n c) l) (hl : l.length = n) (hi : i < n) (hj : j < n) (hI : I = (i : Int)) (hJ : J = (j : Int)) :
 Calls Tryz.prog 121 #[.slice (some ⟨g, 0, none⟩) n c, .int .i64 I, .int .i64 J] w (LessPost w l i j) := by
 subst hI hJ; exact less_n hr hl hi hj
theorem swap_z {w : World} {base B g n c : Nat} (i j : Nat) {I J : Int} {c0 c1 c2 : Value} {l : List Int} (hr : RdAt w base B c0 c1 c2 (.slice (some ⟨g, 0, none⟩) n c) l) (hl : l.length = n) (hi : i < n) (hj : j < n) (hI : I = (i : Int)) (hJ : J = (j : Int)) :
 Calls Tryz.prog 123 #[.slice (some ⟨g, 0, none⟩) n c, .int .i64 I, .int .i64 J] w (SwPost w base B g n c c0 c1 c2 l i j) := by
 subst hI hJ; exact swap_n hr hl hi hj
def DnPost (w : World) (base B : Nat) (c0 c1 c2 : Value) (g N n c : Nat) (l : List Int) (e : Ending) (w' : World) : Prop :=
 ∃ b l', e = .returned (.bool b) ∧ l'.Perm l ∧ Hp l' n ∧ (∀ k, n ≤ k → gd l' k = gd l k) ∧ RdAt w' base B c0 c1 c2 (.slice (some ⟨g, 0, none⟩) N c) l' ∧ Kp (fun i => i = g) w w'
set_option maxRecDepth 100000 in
set_option maxHeartbeats 16000000 in
theorem down_any (w : World) (base B g N n c : Nat) (c0 c1 c2 : Value) (l : List Int) (h : RdAt w base B c0 c1 c2 (.slice (some ⟨g, 0, none⟩) N c) l) (hl : l.length = N) (hnN : n ≤ N) (hn : n ≤ 1000000) (hu : HpDn l n 0) :
 Calls Tryz.prog 63 #[ifc B, .int .i64 0, .int .i64 (n : Int)] w (DnPost w base B c0 c1 c2 g N n c l) := by
 have H := Lib.hid h
 have HL := Lib.hid hl
 have HU := Lib.hid hu
 have e1 := eLess
 have e2 := eSwap
 clear h hl hu
 go_enter Tryz.func63, Tryz.ntmps63
 go_wp2_with fail
 go_loopw [7] (fun vj wr => ∃ (k : Nat) (l' : List Int), vj = .int .i64 (k : Int) ∧ (k = 0 ∨ k < n) ∧ l'.Perm l ∧ HpDn l' n k ∧ (∀ m, n ≤ m → gd l' m = gd l m) ∧ RdAt wr base B c0 c1 c2 (.slice (some ⟨g, 0, none⟩) N c) l' ∧ Kp (fun i => i = g) w wr) (fun vj _ => n - (intOf vj).toNat)
 case atStart => exact ⟨0, l, rfl, .inl rfl, List.Perm.refl _, HU.out, fun _ _ => rfl, H.out, Kp.refl _ _⟩
 case round =>
  obtain ⟨k, l', rfl, hk, hp, hu, hg, hr, hkp⟩ := hrel
  have hk2 : k ≤ 1000000 := by omega
  have hm1 := mLess hr.at3.1
  have hm1q := fun q => mLess (hr.drewN q).at3.1
  have hm2q := fun q => mSwap (hr.drewN q).at3.1
  have hl' : l'.length = N := hp.length_eq.trans HL.out
  have HL' := Lib.hid hl'
  have HP := Lib.hid hp
  have HK := Lib.hid hkp
  have HR := Lib.hid hr
  have HUU := Lib.hid hu
  have HG := Lib.hid hg
  have hlz : ¬ (2 * (k : Int) + 1 < 0) := by omega
  clear hl' hp hkp hr hu hg
  by_cases hA : n ≤ 2 * k + 1
  · have hd : (n : Int) ≤ 2 * (k : Int) + 1 := by omega
    go_wp2
    go_ret
    exact ⟨_, l', rfl, HP.out, dn_done HUU.out (fun m hm hc => by omega), HG.out, HR.out, HK.out⟩
  have hd : ¬ ((n : Int) ≤ 2 * (k : Int) + 1) := by omega
  by_cases hB : 2 * k + 2 < n
  · have hd2 : 2 * (k : Int) + 1 + 1 < (n : Int) := by omega
    obtain ⟨q1, hq1⟩ : ∃ q, decide (gd l' (2 * k + 2) < gd l' (2 * k + 1)) = q := ⟨_, rfl⟩
    have HQ1 := Lib.hid hq1
    have HLS1 := Lib.hid (less_z (2 * k + 2) (2 * k + 1) (I := 2 * (k : Int) + 1 + 1) (J := 2 * (k : Int) + 1) HR.out HL'.out (by omega) (by omega) (by omega) (by omega))
    clear hq1
    cases q1 with
    | true =>
     have HMIN : Hid (∀ m, m < n → (m = 2 * k + 1 ∨ m = 2 * k + 2) → gd l' (2 * k + 2) ≤ gd l' m) := Lib.hid (fun m hm hc => by
      have := of_decide_eq_true HQ1.out
      rcases hc with rfl | rfl <;> omega)
     obtain ⟨q2, hq2⟩ : ∃ q, decide (gd l' (2 * k + 2) < gd l' k) = q := ⟨_, rfl⟩
     have HQ2 := Lib.hid hq2
     have HLS2 := Lib.hid (fun W (hW : RdAt W base B c0 c1 c2 (.slice (some ⟨g, 0, none⟩) N c) l') => less_z (2 * k + 2) k (I := 2 * (k : Int) + 1 + 1) (J := (k : Int)) hW HL'.out (by omega) (by omega) (by omega) rfl)
     have HSW := Lib.hid (fun W (hW : RdAt W base B c0 c1 c2 (.slice (some ⟨g, 0, none⟩) N c) l') => swap_z k (2 * k + 2) (I := (k : Int)) (J := 2 * (k : Int) + 1 + 1) hW HL'.out (by omega) (by omega) rfl (by omega))
     clear hq2
     cases q2 with
     | false =>
      go_wp2_with fail
      refine HLS1.out.mono ?_
      rintro e w1 ⟨rfl, r0, rfl⟩
      rw [HQ1.out]
      go_wp2_with fail
      refine (HLS2.out _ (HR.out.drewN _)).mono ?_
      rintro e w2 ⟨rfl, r, rfl⟩
      rw [HQ2.out]
      go_wp2
      go_ret
      refine ⟨_, l', rfl, HP.out, dn_done HUU.out (fun m hm hc => ?_), HG.out, (HR.out.drewN _), (HK.out.drewN _)⟩
      have h1 := of_decide_eq_false HQ2.out
      have h2 := HMIN.out m hm hc
      omega
     | true =>
      go_wp2_with fail
      refine HLS1.out.mono ?_
      rintro e w1 ⟨rfl, r0, rfl⟩
      rw [HQ1.out]
      go_wp2_with fail
      refine (HLS2.out _ (HR.out.drewN _)).mono ?_
      rintro e w2 ⟨rfl, r, rfl⟩
      rw [HQ2.out]
      go_wp2_with fail
      refine (HSW.out _ (HR.out.drewN _)).mono ?_
      rintro e w3 ⟨rfl, hr3, hk3⟩
      have HR3 := Lib.hid hr3
      have HK3 := Lib.hid hk3
      clear hr3 hk3
      go_wp2
      refine ⟨⟨2 * k + 2, sw l' k (2 * k + 2), by first | rfl | (congr 1; omega), .inr (by omega), ?_, ?_, ?_, HR3.out, ((HK.out.drewN _)).trans HK3.out⟩, by simp [intOf]; omega⟩
      · exact (sw_perm (by rw [HL'.out]; omega) (by rw [HL'.out]; omega)).trans HP.out
      · exact dn_step HUU.out (by rw [HL'.out]; omega) (by omega) (by omega) HMIN.out (of_decide_eq_true HQ2.out)
      · intro m hm
        rw [gd_sw (by rw [HL'.out]; omega) (by rw [HL'.out]; omega), if_neg (by omega), if_neg (by omega)]
        exact HG.out m hm
    | false =>
     have HMIN : Hid (∀ m, m < n → (m = 2 * k + 1 ∨ m = 2 * k + 2) → gd l' (2 * k + 1) ≤ gd l' m) := Lib.hid (fun m hm hc => by
      have := of_decide_eq_false HQ1.out
      rcases hc with rfl | rfl <;> omega)
     obtain ⟨q2, hq2⟩ : ∃ q, decide (gd l' (2 * k + 1) < gd l' k) = q := ⟨_, rfl⟩
     have HQ2 := Lib.hid hq2
     have HLS2 := Lib.hid (fun W (hW : RdAt W base B c0 c1 c2 (.slice (some ⟨g, 0, none⟩) N c) l') => less_z (2 * k + 1) k (I := 2 * (k : Int) + 1) (J := (k : Int)) hW HL'.out (by omega) (by omega) (by omega) rfl)
     have HSW := Lib.hid (fun W (hW : RdAt W base B c0 c1 c2 (.slice (some ⟨g, 0, none⟩) N c) l') => swap_z k (2 * k + 1) (I := (k : Int)) (J := 2 * (k : Int) + 1) hW HL'.out (by omega) (by omega) rfl (by omega))
     clear hq2
     cases q2 with
     | false =>
      go_wp2_with fail
      refine HLS1.out.mono ?_
      rintro e w1 ⟨rfl, r0, rfl⟩
      rw [HQ1.out]
      go_wp2_with fail
      refine (HLS2.out _ (HR.out.drewN _)).mono ?_
      rintro e w2 ⟨rfl, r, rfl⟩
      rw [HQ2.out]
      go_wp2
      go_ret
      refine ⟨_, l', rfl, HP.out, dn_done HUU.out (fun m hm hc => ?_), HG.out, (HR.out.drewN _), (HK.out.drewN _)⟩
      have h1 := of_decide_eq_false HQ2.out
      have h2 := HMIN.out m hm hc
      omega
     | true =>
      go_wp2_with fail
      refine HLS1.out.mono ?_
      rintro e w1 ⟨rfl, r0, rfl⟩
      rw [HQ1.out]
      go_wp2_with fail
      refine (HLS2.out _ (HR.out.drewN _)).mono ?_
      rintro e w2 ⟨rfl, r, rfl⟩
      rw [HQ2.out]
      go_wp2_with fail
      refine (HSW.out _ (HR.out.drewN _)).mono ?_
      rintro e w3 ⟨rfl, hr3, hk3⟩
      have HR3 := Lib.hid hr3
      have HK3 := Lib.hid hk3
      clear hr3 hk3
      go_wp2
      refine ⟨⟨2 * k + 1, sw l' k (2 * k + 1), by first | rfl | (congr 1; omega), .inr (by omega), ?_, ?_, ?_, HR3.out, ((HK.out.drewN _)).trans HK3.out⟩, by simp [intOf]; omega⟩
      · exact (sw_perm (by rw [HL'.out]; omega) (by rw [HL'.out]; omega)).trans HP.out
      · exact dn_step HUU.out (by rw [HL'.out]; omega) (by omega) (by omega) HMIN.out (of_decide_eq_true HQ2.out)
      · intro m hm
        rw [gd_sw (by rw [HL'.out]; omega) (by rw [HL'.out]; omega), if_neg (by omega), if_neg (by omega)]
        exact HG.out m hm
  · have hd2 : ¬ (2 * (k : Int) + 1 + 1 < (n : Int)) := by omega
    have HMIN : Hid (∀ m, m < n → (m = 2 * k + 1 ∨ m = 2 * k + 2) → gd l' (2 * k + 1) ≤ gd l' m) := Lib.hid (fun m hm hc => by
     rcases hc with rfl | rfl <;> omega)
    obtain ⟨q2, hq2⟩ : ∃ q, decide (gd l' (2 * k + 1) < gd l' k) = q := ⟨_, rfl⟩
    have HQ2 := Lib.hid hq2
    have HLS2 := Lib.hid (fun W (hW : RdAt W base B c0 c1 c2 (.slice (some ⟨g, 0, none⟩) N c) l') => less_z (2 * k + 1) k (I := 2 * (k : Int) + 1) (J := (k : Int)) hW HL'.out (by omega) (by omega) (by omega) rfl)
    have HSW := Lib.hid (fun W (hW : RdAt W base B c0 c1 c2 (.slice (some ⟨g, 0, none⟩) N c) l') => swap_z k (2 * k + 1) (I := (k : Int)) (J := 2 * (k : Int) + 1) hW HL'.out (by omega) (by omega) rfl (by omega))
    clear hq2
    cases q2 with
    | false =>
     go_wp2_with fail
     refine (HLS2.out _ HR.out).mono ?_
     rintro e w2 ⟨rfl, r, rfl⟩
     rw [HQ2.out]
     go_wp2
     go_ret
     refine ⟨_, l', rfl, HP.out, dn_done HUU.out (fun m hm hc => ?_), HG.out, (HR.out.drewN _), (HK.out.drewN _)⟩
     have h1 := of_decide_eq_false HQ2.out
     have h2 := HMIN.out m hm hc
     omega
    | true =>
     go_wp2_with fail
     refine (HLS2.out _ HR.out).mono ?_
     rintro e w2 ⟨rfl, r, rfl⟩
     rw [HQ2.out]
     go_wp2_with fail
     refine (HSW.out _ (HR.out.drewN _)).mono ?_
     rintro e w3 ⟨rfl, hr3, hk3⟩
     have HR3 := Lib.hid hr3
     have HK3 := Lib.hid hk3
     clear hr3 hk3
     go_wp2
     refine ⟨⟨2 * k + 1, sw l' k (2 * k + 1), by first | rfl | (congr 1; omega), .inr (by omega), ?_, ?_, ?_, HR3.out, ((HK.out.drewN _)).trans HK3.out⟩, by simp [intOf]; omega⟩
     · exact (sw_perm (by rw [HL'.out]; omega) (by rw [HL'.out]; omega)).trans HP.out
     · exact dn_step HUU.out (by rw [HL'.out]; omega) (by omega) (by omega) HMIN.out (of_decide_eq_true HQ2.out)
     · intro m hm
       rw [gd_sw (by rw [HL'.out]; omega) (by rw [HL'.out]; omega), if_neg (by omega), if_neg (by omega)]
       exact HG.out m hm
end Go.Proofs.YtdebhngpgabglaaGreat.Ca
