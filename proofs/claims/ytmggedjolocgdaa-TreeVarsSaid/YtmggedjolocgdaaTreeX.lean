/- Lists of texts in memory: whether two are the same, whether and where a text stands, how often. Conditions: slices are read as lists. -/
import Derived.Test.YtmggedjolocgdaaTreeC
namespace Go.Proofs.Ytmggedjolocgdaa.Tr
open Go.ChangeShapes Go.WideShapes Go.ChangeAt Go.RowKit
set_option linter.unusedVariables false
set_option linter.unusedSimpArgs false

/-- A slice value reads as a list of texts. -/
def Strs (w : World) (v : Value) (l : List Bytes) : Prop :=
  ∃ A c, v = .slice A l.length c ∧ l.length ≤ c ∧ c ≤ maxLen ∧ ∀ i x, l[i]? = some x → ∃ g o, A = some ⟨g, o, none⟩ ∧ g < w.heap.size ∧ w.cell? ⟨g, o + i, none⟩ = some (.string (str x))
def strsOf (l : List Bytes) : List Value := l.map (fun s => .string (str s))
theorem strs_snoc (l : List Bytes) (x : Bytes) : strsOf (l ++ [x]) = strsOf l ++ [.string (str x)] := by simp [strsOf]
theorem Strs.of_own {w : World} {b : Nat} {v : Value} {l : List Bytes} (h : w.ownsRow b 9 1 v l.length (strsOf l)) : Strs w v l := by
  obtain ⟨hl, h0 | ⟨g, cap, cur, rfl, hb, hh, hnc, hcm, hcs, hct⟩⟩ := h
  · obtain ⟨rfl, h0⟩ := h0
    have : l = [] := List.length_eq_zero_iff.1 h0
    subst this
    exact ⟨none, 0, rfl, by simp, by unfold maxLen; omega, fun i t h => by simp at h⟩
  · have h : w.ownsRow b 9 1 (.slice (some ⟨g, 0, none⟩) l.length cap) l.length (strsOf l) := ⟨hl, .inr ⟨g, cap, cur, rfl, hb, hh, hnc, hcm, hcs, hct⟩⟩
    refine ⟨some ⟨g, 0, none⟩, cap, rfl, hnc, hcm, fun i x hi => ⟨g, 0, rfl, lt_of_block hh, ?_⟩⟩
    have hil : i < l.length := (List.getElem?_eq_some_iff.1 hi).1
    rw [Nat.zero_add, h.cellAt _ (by omega)]
    unfold strsOf
    rw [List.getElem?_map, hi]; rfl
theorem Strs.keep {w w' : World} {v : Value} {l : List Bytes} (h : Strs w v l) (hs : w.heap.size ≤ w'.heap.size) (hk : ∀ p : Addr, p.block < w.heap.size → w'.cell? p = w.cell? p) : Strs w' v l := by
  obtain ⟨A, c, rfl, h1, h2, h3⟩ := h
  refine ⟨A, c, rfl, h1, h2, fun i t hi => ?_⟩
  obtain ⟨g, o, hg, hlt, c0⟩ := h3 i t hi
  exact ⟨g, o, hg, by omega, (hk _ hlt).trans c0⟩
theorem Strs.below {w w' : World} {B : Nat} {v : Value} {l : List Bytes} (h : Strs w v l) (hb : Below B w w') (hB : w.heap.size ≤ B) : Strs w' v l :=
  h.keep hb.size fun p hp => hb.cell (by omega)
theorem Strs.drewN {w : World} {v : Value} {l : List Bytes} (h : Strs w v l) (n : Nat) : Strs (w.drewN n) v l := h
theorem Strs.take {w : World} {A : Option Addr} {k n c : Nat} {l : List Bytes} (h : Strs w (.slice A n c) l) (hk : k ≤ n) : Strs w (.slice A k c) (l.take k) := by
  obtain ⟨A', c', e, h1, h2, h3⟩ := h
  simp only [Value.slice.injEq] at e
  obtain ⟨rfl, rfl, rfl⟩ := e
  refine ⟨A, c, by rw [List.length_take, Nat.min_eq_left hk], by rw [List.length_take]; omega, h2, fun i x hi => ?_⟩
  rw [List.getElem?_take] at hi
  split at hi
  · exact h3 i x hi
  · simp at hi
theorem str_beq (a b : Bytes) : ((str a).toList == (str b).toList) = (a == b) := by rw [str_toList, str_toList]

set_option maxHeartbeats 800000 in
theorem texts_any (u v : Value) (l m : List Bytes) (w : World) (hu : Strs w u l) (hv : Strs w v m) :
    Calls Try.prog 23 #[u, v] w fun e w' => e = .returned (.bool (decide (l = m))) ∧ ∃ n, w' = w.drewN n := by
  obtain ⟨A, c, rfl, h1, h2, hA⟩ := hu
  obtain ⟨B, d, rfl, h3, h4, hB⟩ := hv
  unfold maxLen at h2 h4
  have HA := Lib.hid hA
  have HB := Lib.hid hB
  clear hA hB
  by_cases hlm : l.length = m.length
  · have hE : ((l.length : Int) != (m.length : Int)) = false := by simp [hlm]
    have HLM := Lib.hid hlm
    clear hlm
    go_enter Try.func23, Try.ntmps23
    go_wp2
    go_loopw [5] (fun i wr => ∃ k n : Nat, k ≤ l.length ∧ i = .int .i64 k ∧ wr = w.drewN n ∧ l.take k = m.take k) (fun i _ => l.length - (intOf i).toNat)
    case atStart => exact ⟨0, 0, Nat.zero_le _, rfl, rfl, by simp⟩
    case round =>
      obtain ⟨k, n, hk, rfl, rfl, ht⟩ := hrel
      have HT := Lib.hid ht
      clear ht
      by_cases hlt : k < l.length
      · have hlt2 : k < m.length := by rw [← HLM.out]; exact hlt
        obtain ⟨t1, ht1⟩ : ∃ t, l[k]? = some t := ⟨_, List.getElem?_eq_getElem hlt⟩
        obtain ⟨t2, ht2⟩ : ∃ t, m[k]? = some t := ⟨_, List.getElem?_eq_getElem hlt2⟩
        obtain ⟨g, o, rfl, hg, a0⟩ := HA.out k t1 ht1
        obtain ⟨g', o', rfl, hg', b0⟩ := HB.out k t2 ht2
        have H1 := Lib.hid ht1
        have H2 := Lib.hid ht2
        clear ht1 ht2
        by_cases hq : t1 = t2
        · have HQ := Lib.hid (show l.take (k + 1) = m.take (k + 1) from take_next HT.out H1.out (by rw [hq]; exact H2.out))
          have hb : ((str t1).toList == (str t2).toList) = true := by rw [str_beq]; simp [hq]
          clear hq
          go_wp2
          go_quiet (fail)
          go_wp2
          go_roundw
          case rel => exact ⟨k + 1, _, by omega, by go_num, rfl, HQ.out⟩
          case measure => simp [intOf]; omega
        · have HQ := Lib.hid (show decide (l = m) = false from decide_eq_false (by
            rintro rfl
            exact hq (Option.some.inj (H1.out.symm.trans H2.out))))
          have hb : ((str t1).toList == (str t2).toList) = false := by rw [str_beq]; simp [hq]
          clear hq
          go_wp2
          go_quiet (fail)
          go_wp2
          go_ret
          exact ⟨ret_bool HQ.out.symm, n + nq, by rw [World.drewN_drewN]⟩
      · have HQ := Lib.hid (show decide (l = m) = true from decide_eq_true (by
          have := HT.out
          rw [List.take_of_length_le (by omega), List.take_of_length_le (by rw [← HLM.out]; omega)] at this
          exact this))
        go_wp2
        go_ret
        exact ⟨ret_bool HQ.out.symm, n, rfl⟩
  · have hE : ((l.length : Int) != (m.length : Int)) = true := by rw [bne_iff_ne]; omega
    have e : decide (l = m) = false := decide_eq_false (by rintro rfl; exact hlm rfl)
    rw [e]
    go_enter Try.func23, Try.ntmps23
    go_wp2
    go_ret
    exact ⟨rfl, 0, rfl⟩

theorem contains_next (l : List Bytes) (k : Nat) (x s : Bytes) (h : l[k]? = some x) (hn : (l.take k).contains s = false) (hx : (x == s) = false) : (l.take (k + 1)).contains s = false := by
  rw [List.take_add_one, h]
  simp only [Option.toList, List.contains_eq_any_beq, List.any_append, List.any_cons, List.any_nil, Bool.or_false] at hn ⊢
  rw [hn, Bool.false_or]
  rw [Bool.eq_false_iff] at hx ⊢
  intro he; apply hx; simp at he ⊢; exact he.symm
theorem contains_here (l : List Bytes) (k : Nat) (x s : Bytes) (h : l[k]? = some x) (hx : (x == s) = true) : l.contains s = true := by
  have hm := List.mem_of_getElem? h
  simp at hx ⊢
  rw [← hx]; exact hm

/-- Whether a text is one of some. -/
def hasB (l : List Bytes) (s : Bytes) : Bool := l.contains s
set_option maxHeartbeats 800000 in
theorem has_any (v : Value) (l : List Bytes) (s : Bytes) (w : World) (hv : Strs w v l) : Calls Try.prog 43 #[v, .string (str s)] w fun e w' => e = .returned (.bool (hasB l s)) ∧ w = w' := by
  obtain ⟨A, c, rfl, h1, h2, hA⟩ := hv
  unfold maxLen at h2
  have HA := Lib.hid hA
  clear hA
  go_enter Try.func43, Try.ntmps43
  go_wp2
  go_loop [5] (fun i => ∃ k : Nat, k ≤ l.length ∧ i = .int .i64 k ∧ Hid ((l.take k).contains s = false)) (fun i => l.length - (intOf i).toNat)
  case atStart => exact ⟨0, Nat.zero_le _, rfl, by rw [List.take_zero]; rfl⟩
  case round =>
    obtain ⟨k, hk, rfl, hn⟩ := hrel
    by_cases hlt : k < l.length
    · obtain ⟨x, hx⟩ : ∃ x, l[k]? = some x := ⟨_, List.getElem?_eq_getElem hlt⟩
      obtain ⟨g, o, rfl, hg, a0⟩ := HA.out k x hx
      have HX := Lib.hid hx
      clear hx
      rcases Bool.eq_false_or_eq_true (x == s) with hq | hq
      · have HR := Lib.hid (show hasB l s = true from contains_here l k x s HX.out hq)
        have hb : ((str x).toList == (str s).toList) = true := by rw [str_beq]; exact hq
        go_wp2
        go_ret
        exact ⟨by rw [HR.out]; rfl, rfl⟩
      · have HN := Lib.hid (contains_next l k x s HX.out hn.out hq)
        have hb : ((str x).toList == (str s).toList) = false := by rw [str_beq]; exact hq
        go_wp2
        refine ⟨⟨k + 1, by omega, by go_num, HN.out⟩, by simp [intOf]; omega⟩
    · have HR := Lib.hid (show hasB l s = false by unfold hasB; have := hn.out; rwa [List.take_of_length_le (by omega)] at this)
      go_wp2
      go_ret
      exact ⟨by rw [HR.out]; rfl, rfl⟩
theorem few_any (v : Value) (e : List Nd) (m : Int) (w : World) (hv : Nodes w v e) : Calls Try.prog 11 #[v, .int .i64 m] w fun r w' => r = .returned (.bool (decide ((e.length : Int) ≤ m))) ∧ w = w' := by
  obtain ⟨A, c, rfl, h1, h2, hA⟩ := hv
  clear hA
  unfold maxLen at h2
  go_enter Try.func11, Try.ntmps11
  go_wp2
  go_ret
  exact ⟨rfl, rfl⟩
end Go.Proofs.Ytmggedjolocgdaa.Tr
