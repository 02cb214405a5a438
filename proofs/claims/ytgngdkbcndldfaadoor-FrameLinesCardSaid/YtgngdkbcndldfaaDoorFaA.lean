/- Numbers in memory. Conditions: slices are read as lists. -/
import Derived.Test.YtgngdkbcndldfaaDoorRows
import Derived.Test.YtgngdkbcndldfaaDoorFrP
import Derived.WalkKit
import Derived.ProofKit
import Derived.OpenShut
import Derived.Outline
import Derived.Lib.Hide
import Derived.WalkLawsBesides
import Derived.WalkSpells
import Derived.Deep.Light
import Derived.OneCell
import Derived.OwnWalk
import Derived.Below
import Derived.RegionTactic
import Derived.Deep.QuietTactic
import Derived.BigQuiet
import Derived.Deep.DeepCutAuto
import Derived.Laws.OwnMore
import Derived.Deep.OwnRows
import Derived.Deep.RegionHeld3
import Derived.Deep.AppendLies
namespace Go.Proofs.YtgngdkbcndldfaaDoor.Tr
open Go.ChangeShapes Go.WideShapes Go.ChangeAt Go.RowKit
set_option linter.unusedVariables false
set_option linter.unusedSimpArgs false

theorem ret_bool {a b : Bool} (h : a = b) : Ending.returned (.bool a) = .returned (.bool b) := by rw [h]
theorem ret_int {k : IntKind} {a b : Int} (h : a = b) : Ending.returned (.int k a) = .returned (.int k b) := by rw [h]

theorem info3 : (Tryd.prog.info? 3).map (fun i => (i.zero, i.size, i.bytes)) = some (some (.int .i64 0), 1, 8) := by kernel_rfl
def intsOf (l : List Int) : List Value := l.map (.int .i64 ·)

/-- A slice value reads as a list of numbers. -/
def Ints (w : World) (v : Value) (l : List Int) : Prop :=
  ∃ A c, v = .slice A l.length c ∧ l.length ≤ c ∧ c ≤ maxLen ∧ ∀ i x, l[i]? = some x → ∃ g o, A = some ⟨g, o, none⟩ ∧ g < w.heap.size ∧ w.cell? ⟨g, o + i, none⟩ = some (.int .i64 x)

theorem ints_snoc (l : List Int) (x : Int) : intsOf (l ++ [x]) = intsOf l ++ [.int .i64 x] := by simp [intsOf]
theorem Ints.of_own {w : World} {b : Nat} {v : Value} {l : List Int} (h : w.ownsRow b 3 1 v l.length (intsOf l)) : Ints w v l := by
  obtain ⟨hl, h0 | ⟨g, cap, cur, rfl, hb, hh, hnc, hcm, hcs, hct⟩⟩ := h
  · obtain ⟨rfl, h0⟩ := h0
    have : l = [] := List.length_eq_zero_iff.1 h0
    subst this
    exact ⟨none, 0, rfl, by simp, by unfold maxLen; omega, fun i t h => by simp at h⟩
  · have h : w.ownsRow b 3 1 (.slice (some ⟨g, 0, none⟩) l.length cap) l.length (intsOf l) := ⟨hl, .inr ⟨g, cap, cur, rfl, hb, hh, hnc, hcm, hcs, hct⟩⟩
    refine ⟨some ⟨g, 0, none⟩, cap, rfl, hnc, hcm, fun i x hi => ⟨g, 0, rfl, lt_of_block hh, ?_⟩⟩
    have hil : i < l.length := (List.getElem?_eq_some_iff.1 hi).1
    rw [Nat.zero_add, h.cellAt _ (by omega)]
    unfold intsOf
    rw [List.getElem?_map, hi]; rfl
theorem Ints.keep {w w' : World} {v : Value} {l : List Int} (h : Ints w v l) (hs : w.heap.size ≤ w'.heap.size) (hk : ∀ p : Addr, p.block < w.heap.size → w'.cell? p = w.cell? p) : Ints w' v l := by
  obtain ⟨A, c, rfl, h1, h2, h3⟩ := h
  refine ⟨A, c, rfl, h1, h2, fun i t hi => ?_⟩
  obtain ⟨g, o, hg, hlt, c0⟩ := h3 i t hi
  exact ⟨g, o, hg, by omega, (hk _ hlt).trans c0⟩
theorem Ints.below {w w' : World} {B : Nat} {v : Value} {l : List Int} (h : Ints w v l) (hb : Below B w w') (hB : w.heap.size ≤ B) : Ints w' v l :=
  h.keep hb.size fun p hp => hb.cell (by omega)
theorem Ints.drewN {w : World} {v : Value} {l : List Int} (h : Ints w v l) (n : Nat) : Ints (w.drewN n) v l := h
theorem Ints.take {w : World} {A : Option Addr} {k n c : Nat} {l : List Int} (h : Ints w (.slice A n c) l) (hk : k ≤ n) : Ints w (.slice A k c) (l.take k) := by
  obtain ⟨A', c', e, h1, h2, h3⟩ := h
  simp only [Value.slice.injEq] at e
  obtain ⟨rfl, rfl, rfl⟩ := e
  refine ⟨A, c, by rw [List.length_take, Nat.min_eq_left hk], by rw [List.length_take]; omega, h2, fun i x hi => ?_⟩
  rw [List.getElem?_take] at hi
  split at hi
  · exact h3 i x hi
  · simp at hi
theorem own_base {w : World} {b b' : Nat} {e : TypeId} {size n : Nat} {v : Value} {xs : List Value} (h : w.ownsRow b e size v n xs) (hb : b' ≤ b) : w.ownsRow b' e size v n xs := by
  refine ⟨h.1, ?_⟩
  rcases h.2 with h0 | ⟨g, cap, cur, h1, h2, h3⟩
  · exact .inl h0
  · exact .inr ⟨g, cap, cur, h1, by omega, h3⟩
theorem own_below {w w2 : World} {b : Nat} {v : Value} {n : Nat} {e : TypeId} {sz : Nat} {xs : List Value} (h : w.ownsRow b e sz v n xs) (hb : Below w.heap.size w w2) : w2.ownsRow b e sz v n xs := by
  refine ⟨h.1, ?_⟩
  rcases h.2 with h0 | ⟨g, cap, cur, h1, h2, h3, h4⟩
  · exact .inl h0
  · exact .inr ⟨g, cap, cur, h1, h2, by rw [hb.block g (lt_of_block h3)]; exact h3, h4⟩
theorem below_new (w : World) (o : Obj) : Below w.heap.size w (w.alloc o) := (Below.refl _ _).alloc (Nat.le_refl _) _
theorem below_drewN {B : Nat} {a w : World} (h : Below B a w) (n : Nat) : Below B a (w.drewN n) :=
  h.trans { os := rfl, tape := rfl, output := rfl, size := Nat.le_refl _, block := fun _ _ => rfl }
theorem take_next {α : Type} {l m : List α} {k : Nat} {a : α} (h : l.take k = m.take k) (h1 : l[k]? = some a) (h2 : m[k]? = some a) : l.take (k + 1) = m.take (k + 1) := by
  rw [List.take_add_one, List.take_add_one, h, h1, h2]

set_option maxHeartbeats 800000 in
theorem ints_any (u v : Value) (l m : List Int) (w : World) (hu : Ints w u l) (hv : Ints w v m) :
    Calls Tryd.prog 20 #[u, v] w fun e w' => e = .returned (.bool (decide (l = m))) ∧ ∃ n, w' = w.drewN n := by
  obtain ⟨A, c, rfl, h1, h2, hA⟩ := hu
  obtain ⟨B, d, rfl, h3, h4, hB⟩ := hv
  unfold maxLen at h2 h4
  have HA := Lib.hid hA
  have HB := Lib.hid hB
  clear hA hB
  by_cases hlm : l.length = m.length
  · have hE : ((l.length : Int) != (m.length : Int)) = false := by simp [hlm]
    have HLM := Lib.hid hlm
    clear hlm
    go_enter Tryd.func20, Tryd.ntmps20
    go_wp2
    go_loopw [5] (fun i wr => ∃ k n : Nat, k ≤ l.length ∧ i = .int .i64 k ∧ wr = w.drewN n ∧ l.take k = m.take k) (fun i _ => l.length - (intOf i).toNat)
    case atStart => exact ⟨0, 0, Nat.zero_le _, rfl, rfl, by simp⟩
    case round =>
      obtain ⟨k, n, hk, rfl, rfl, ht⟩ := hrel
      have HT := Lib.hid ht
      clear ht
      by_cases hlt : k < l.length
      · have hlt2 : k < m.length := by rw [← HLM.out]; exact hlt
        obtain ⟨t1, ht1⟩ : ∃ t, l[k]? = some t := ⟨_, List.getElem?_eq_getElem hlt⟩
        obtain ⟨t2, ht2⟩ : ∃ t, m[k]? = some t := ⟨_, List.getElem?_eq_getElem hlt2⟩
        obtain ⟨g, o, rfl, hg, a0⟩ := HA.out k t1 ht1
        obtain ⟨g', o', rfl, hg', b0⟩ := HB.out k t2 ht2
        have H1 := Lib.hid ht1
        have H2 := Lib.hid ht2
        clear ht1 ht2
        by_cases hq : t1 = t2
        · have HQ := Lib.hid (show l.take (k + 1) = m.take (k + 1) from take_next HT.out H1.out (by rw [hq]; exact H2.out))
          have hb : (t1 != t2) = false := by simp [hq]
          clear hq
          go_wp2
          go_quiet (fail)
          go_wp2
          go_roundw
          case rel => exact ⟨k + 1, _, by omega, by go_num, rfl, HQ.out⟩
          case measure => simp [intOf]; omega
        · have HQ := Lib.hid (show decide (l = m) = false from decide_eq_false (by
            rintro rfl
            exact hq (Option.some.inj (H1.out.symm.trans H2.out))))
          have hb : (t1 != t2) = true := by simp [hq]
          clear hq
          go_wp2
          go_quiet (fail)
          go_wp2
          go_ret
          exact ⟨ret_bool HQ.out.symm, n + nq, by rw [World.drewN_drewN]⟩
      · have HQ := Lib.hid (show decide (l = m) = true from decide_eq_true (by
          have := HT.out
          rw [List.take_of_length_le (by omega), List.take_of_length_le (by rw [← HLM.out]; omega)] at this
          exact this))
        go_wp2
        go_ret
        exact ⟨ret_bool HQ.out.symm, n, rfl⟩
  · have hE : ((l.length : Int) != (m.length : Int)) = true := by rw [bne_iff_ne]; omega
    have e : decide (l = m) = false := decide_eq_false (by rintro rfl; exact hlm rfl)
    rw [e]
    go_enter Tryd.func20, Tryd.ntmps20
    go_wp2
    go_ret
    exact ⟨rfl, 0, rfl⟩
theorem intsOf_set (l : List Int) (k : Nat) (x : Int) : intsOf (l.set k x) = (intsOf l).set k (.int .i64 x) := by unfold intsOf; rw [List.map_set]
theorem intsOf_get (l : List Int) (k : Nat) (x : Int) (h : l[k]? = some x) : (intsOf l)[k]? = some (.int .i64 x) := by unfold intsOf; rw [List.getElem?_map, h]; rfl
theorem made_ints (n : Nat) : (madeCells #[Value.int .i64 0] n).toList = intsOf (List.replicate n 0) := by
  rw [toList_madeCells_one]; simp [intsOf]
theorem own_block {w w' : World} {b : Nat} {e : TypeId} {s : Nat} {v : Value} {n : Nat} {xs : List Value} (h : w.ownsRow b e s v n xs) (hk : ∀ g, v.ownBlock = some g → w'.heap[g]? = w.heap[g]?) : w'.ownsRow b e s v n xs := by
  refine ⟨h.1, ?_⟩
  rcases h.2 with h0 | ⟨g, cap, cur, h1, h2, h3, h4⟩
  · exact .inl h0
  · exact .inr ⟨g, cap, cur, h1, h2, by rw [hk g (by rw [h1]; rfl)]; exact h3, h4⟩
theorem ints_lit (w : World) (l : List Int) (h : l.length ≤ maxLen) : (w.alloc (.cells (intsOf l).toArray 3)).ownsRow w.heap.size 3 1 (.slice (some ⟨w.heap.size, 0, none⟩) l.length l.length) l.length (intsOf l) := by
  have := World.ownsRow_lit (base := w.heap.size) (e := 3) (size := 1) w (intsOf l).toArray l.length (Nat.le_refl _) h (by simp [intsOf])
  simpa using this
theorem ints_cell {w : World} {g : Nat} {x : Int} {c : Nat} (h : w.cell? ⟨g, 0, none⟩ = some (.int .i64 x)) (hc : 1 ≤ c) (hm : c ≤ maxLen) : Ints w (.slice (some ⟨g, 0, none⟩) 1 c) [x] := by
  refine ⟨some ⟨g, 0, none⟩, c, rfl, hc, hm, fun i y hi => ?_⟩
  cases i with
  | zero =>
    simp at hi; subst hi
    exact ⟨g, 0, rfl, World.block_lt_of_cell? w _ h, h⟩
  | succ i => simp at hi
theorem news_one {w : World} {g : Nat} {x : Value} (h : w.cell? ⟨g, 0, none⟩ = some x) : ∀ (j : Nat) u, [x][j]? = some u → w.cell? ((⟨g, 0, none⟩ : Addr).add j) = some u := by
  intro j u hj
  cases j with
  | zero => simp at hj; subst hj; exact h
  | succ j => simp at hj

def natI (l : List Nat) : List Int := l.map Int.ofNat
theorem own_cells {w : World} {base n T sz : Nat} {v : Value} {xs : List Value} (h : w.ownsRow base T sz v n xs) {k : Nat} (hk : v.ownBlock = some k) : ∃ cs, w.heap[k]? = some (.cells cs T (0, 0)) := by
  obtain ⟨hl, h0 | ⟨g, cap, cur, rfl, hb, hh, _⟩⟩ := h
  · rw [h0.1] at hk; cases hk
  · have e : some g = some k := hk
    injection e with e
    subst e
    exact ⟨cur, hh⟩
end Go.Proofs.YtgngdkbcndldfaaDoor.Tr
