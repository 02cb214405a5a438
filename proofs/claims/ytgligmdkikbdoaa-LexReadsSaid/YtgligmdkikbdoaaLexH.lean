/- The function Join of layer lex returns the tokens' texts, a blank between any two. Conditions: the slice reads as a list of tokens; the texts together are not too long. -/
import Derived.Test.YtgligmdkikbdoaaLexG
import Derived.Test.YtgligmdkikbdoaaLexO
namespace Go.Proofs.Ytgligmdkikbdoaa.Lx
open Go.ChangeShapes Go.WideShapes Go.ChangeAt Go.RowKit
set_option linter.unusedVariables false

theorem info9 : (Try.prog.info? 9).map (fun i => (i.zero, i.size, i.bytes)) = some (some (.string ⟨#[]⟩), 1, 16) := by kernel_rfl

/-- The texts that are laid so far, and empty ones behind them. -/
def laid (l : List Tok) (k : Nat) : List Value := (l.take k).map (fun t => .string (str t.text)) ++ List.replicate (l.length - k) (.string ⟨#[]⟩)
theorem laid_zero (l : List Tok) : laid l 0 = List.replicate l.length (.string ⟨#[]⟩) := by simp [laid]
theorem laid_all (l : List Tok) : laid l l.length = l.map (fun t => .string (str t.text)) := by simp [laid]
theorem laid_set (l : List Tok) (k : Nat) (t : Tok) (h : l[k]? = some t) : (laid l k).set k (.string (str t.text)) = laid l (k + 1) := by
  have hk : k < l.length := (List.getElem?_eq_some_iff.1 h).1
  have e1 : l.length - k = (l.length - (k + 1)) + 1 := by omega
  have e2 : ((l.take k).map (fun t => Value.string (str t.text))).length = k := by simp; omega
  unfold laid
  rw [e1, List.replicate_succ, List.set_append_right _ _ (by rw [e2]; exact Nat.le_refl _), e2, Nat.sub_self, List.set_cons_zero, List.take_add_one, h, List.map_append, List.append_assoc]
  rfl

theorem sjoin_any (g : Nat) (l : List Tok) (b : Nat) (w : World) (hown : w.ownsRow b 9 1 (.slice (some ⟨g, 0, none⟩) l.length l.length) l.length (laid l l.length)) (hn : l.length ≤ 1000000) (hj : (joinM l).length ≤ 140737488355328) :
    Calls Try.prog 54 #[.slice (some ⟨g, 0, none⟩) l.length l.length, .string ⟨#[32]⟩] w fun e w' => e = .returned (.string (str (joinM l))) ∧ Below w.heap.size w w' := by
  have hm : (l.map (fun t => str t.text)).map (·.data.toList) = l.map (·.text) := by
    rw [List.map_map]; apply List.map_congr_left; intro t _; exact List.toList_toArray
  have hc : ∀ (j : Nat) x, (l.map (fun t => str t.text))[j]? = some x → w.cell? ⟨g, 0 + j, none⟩ = some (.string x) := fun j x hx => by
    rw [List.getElem?_map] at hx
    cases ht : l[j]? with
    | none => rw [ht] at hx; simp at hx
    | some t =>
      rw [ht] at hx; simp at hx; subst hx
      have hjl : j < l.length := (List.getElem?_eq_some_iff.1 ht).1
      rw [Nat.zero_add, hown.cellAt j (by omega), laid_all, List.getElem?_map, ht]; rfl
  have := Try.strings_Join g 0 l.length (l.map (fun t => str t.text)) ⟨#[32]⟩ w hc (hown.lt g rfl).2 (by simp; omega) (by simp) (by rw [hm]; exact hj)
  rw [hm, List.length_map] at this
  exact this
set_option maxHeartbeats 1600000 in
theorem join_any (v : Value) (l : List Tok) (w : World) (hv : Toks w v l) (hn : l.length ≤ 1000000) (hj : (joinM l).length ≤ 140737488355328) :
    Calls Try.prog 31 #[v] w fun e w' => e = .returned (.string (str (joinM l))) ∧ Below w.heap.size w w' := by
  obtain ⟨A, c, rfl, h1, h2, hA⟩ := hv
  unfold maxLen at h2
  have HA := Lib.hid hA
  clear hA
  obtain ⟨i0, hi, hz0, hz1, hz2⟩ := info_parts info9
  go_enter Try.func31, Try.ntmps31
  go_wp2_with (at_make; refine wpList_make_full _ rfl _ _ 61 rfl w.heap.size 9 i0 _ 1 Try.underlying61 hi hz0 hz1 _ _ _ _ l.length rfl rfl rfl rfl (by rw [hz2]; omega) (by unfold maxLen; omega) (Nat.le_refl _) ?_)
  intro w1 hown hgrow
  have hb1 : Below w.heap.size w w1 := (Below.refl _ _).grown hgrow (Nat.le_refl _) (fun k hk => by simp at hk)
  have hown0 : w1.ownsRow w.heap.size 9 1 (.slice (some ⟨w.heap.size, 0, none⟩) l.length l.length) l.length (laid l 0) := by
    rw [laid_zero]
    rw [← toList_madeCells_one]; exact hown
  clear hown hgrow
  go_wp2
  go_loopw [11] (fun i wr => ∃ k : Nat, k ≤ l.length ∧ i = .int .i64 k ∧ wr.ownsRow w.heap.size 9 1 (.slice (some ⟨w.heap.size, 0, none⟩) l.length l.length) l.length (laid l k) ∧ Below w.heap.size w wr) (fun i _ => l.length - (intOf i).toNat)
  case atStart => exact ⟨0, Nat.zero_le _, rfl, hown0, hb1⟩
  case round =>
    obtain ⟨k, hk, rfl, hown, hb⟩ := hrel
    clear hown0 hb1
    by_cases hlt : k < l.length
    · obtain ⟨t, ht⟩ : ∃ t, l[k]? = some t := ⟨_, List.getElem?_eq_getElem hlt⟩
      obtain ⟨g, rfl, hg, a0, a1, a2⟩ := HA.out k t ht
      obtain ⟨K, T, P⟩ := t
      simp only at a0 a1 a2
      have hcb := fun o => hb.cell (p := ⟨g, o, none⟩) hg
      have b0 := (hcb _).trans a0
      have b1 := (hcb _).trans a1
      have b2 := (hcb _).trans a2
      have hgz : g < wr.heap.size := Nat.lt_of_lt_of_le hg hb.size
      have hwz := hown.lt _ rfl
      have hwz2 : w.heap.size < wr.heap.size := hwz.2
      have hsc : (laid l k)[k]? = some (.string ⟨#[]⟩) := by
        unfold laid
        rw [List.getElem?_append_right (by simp; omega), List.getElem?_replicate]
        simp; omega
      have c0 := (hown.cellAt k (by omega)).trans hsc
      have f0 := hown.frozenAt k
      have HT := Lib.hid ht
      have HO := Lib.hid hown
      clear ht hown hcb a0 a1 a2 hsc hwz
      go_wp2
      refine ⟨⟨k + 1, by omega, by go_num, ?_, (hb.setCell (Nat.le_refl _) _).alloc (by simpa using Nat.le_of_lt hwz2) _⟩, by simp [intOf]; omega⟩
      have := (HO.out.stored k (.string (str T))).1
      rw [laid_set l k _ HT.out] at this
      exact this.alloc _
    · obtain rfl : k = l.length := by omega
      have HO := Lib.hid hown
      clear hown
      go_wp2_with (go_at_call 54; refine (sjoin_any w.heap.size l _ wr HO.out hn hj).mono ?_; rintro e w2 ⟨rfl, hb2⟩)
      go_ret
      exact ⟨rfl, hb.trans (hb2.mono hb.size)⟩
end Go.Proofs.Ytgligmdkikbdoaa.Lx
