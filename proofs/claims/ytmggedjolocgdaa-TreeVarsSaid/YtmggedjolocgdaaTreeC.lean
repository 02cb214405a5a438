/- The functions held and Kids return what the plain functions say. Conditions: slices are read as lists. -/
import Derived.Test.YtmggedjolocgdaaTreeA
namespace Go.Proofs.Ytmggedjolocgdaa.Tr
open Go.ChangeShapes Go.WideShapes Go.ChangeAt Go.RowKit
set_option linter.unusedVariables false

/-- What a call that hands back numbers leaves. -/
def IntsPost (W : World) (l : List Int) (e : Ending) (w' : World) : Prop :=
  ∃ v, e = .returned v ∧ w'.ownsRow W.heap.size 3 1 v l.length (intsOf l) ∧ Below W.heap.size W w'

theorem held_next {l : List Int} {k : Nat} {x : Int} (h : l[k]? = some x) : heldM (l.take (k + 1)) = if x = -1 then heldM (l.take k) else heldM (l.take k) ++ [x] := by
  unfold heldM
  rw [List.take_add_one, h, List.filter_append]
  by_cases hx : x = -1 <;> simp [hx]
theorem held_le (l : List Int) (k : Nat) : (heldM (l.take k)).length ≤ k := by
  unfold heldM
  exact Nat.le_trans (List.length_filter_le _ _) (List.length_take_le _ _)

set_option maxHeartbeats 1600000 in
theorem held_any (v : Value) (l : List Int) (w : World) (hv : Ints w v l) (hn : l.length ≤ 1000) : Calls Try.prog 32 #[v] w (IntsPost w (heldM l)) := by
  obtain ⟨A, c, rfl, h1, h2, hA⟩ := hv
  unfold maxLen at h2
  have HA := Lib.hid hA
  clear hA
  obtain ⟨i0, hi, hz0, hz1, hz2⟩ := info_parts info3
  go_enter Try.func32, Try.ntmps32
  go_wp2_with (at_make; refine wpList_make_own _ rfl _ _ 27 rfl w.heap.size 3 i0 _ 1 Try.underlying27 hi hz0 hz1 _ _ _ l.length rfl rfl rfl (by rw [hz2]; omega) (by unfold maxLen; omega) (Nat.le_refl _) ?_)
  intro w1 hown hgrow
  have hb1 : Below w.heap.size w w1 := (Below.refl _ _).grown hgrow (Nat.le_refl _) (fun k hk => by simp at hk)
  clear hgrow
  go_wp2
  go_loopw [3, 11] (fun v i wr => ∃ k : Nat, k ≤ l.length ∧ i = .int .i64 k ∧ wr.ownsRow w.heap.size 3 1 v (heldM (l.take k)).length (intsOf (heldM (l.take k))) ∧ Below w.heap.size w wr) (fun _ i _ => l.length - (intOf i).toNat)
  case atStart => exact ⟨0, Nat.zero_le _, rfl, hown, hb1⟩
  case round =>
    obtain ⟨k, hk, rfl, hown, hb⟩ := hrel
    clear hb1
    by_cases hlt : k < l.length
    · obtain ⟨x, hx⟩ : ∃ x, l[k]? = some x := ⟨_, List.getElem?_eq_getElem hlt⟩
      obtain ⟨g, o, rfl, hg, a0⟩ := HA.out k x hx
      have b0 := (hb.cell (p := ⟨g, o + k, none⟩) hg).trans a0
      have hle := held_le l k
      have HN := Lib.hid (held_next hx)
      have hz := hb.size
      clear a0 hx
      by_cases hm : x = -1
      · have hm' : (x != -1) = false := by simp [hm]
        have HN' := Lib.hid (show heldM (l.take (k + 1)) = heldM (l.take k) by rw [HN.out, if_pos hm])
        clear hm
        go_wp2
        refine ⟨⟨k + 1, by omega, by go_num, by rw [HN'.out]; exact hown, hb⟩, by simp [intOf]; omega⟩
      · have hm' : (x != -1) = true := by simp [hm]
        have HN' := Lib.hid (show heldM (l.take (k + 1)) = heldM (l.take k) ++ [x] by rw [HN.out, if_neg hm])
        clear hm
        go_wp2_with (at_builtin; refine wpList_append_own _ rfl (.tmp 17) (.tmp 19) 27 rfl w.heap.size 3 i0 _ 1 8 Try.underlying27 hi hz0 hz1 hz2 rfl (by decide) _ _ _ rfl (hown.alloc _) ⟨wr.heap.size, 0, none⟩ 1 1 [.int .i64 x] rfl rfl ?a1 ?b1 ?c1 ?d1 ?e1 ?_)
        case a1 => exact cell_one_new _ _ _
        case b1 => intro u hu; simp at hu; subst hu; rfl
        case c1 => unfold maxLen; omega
        case d1 => omega
        case e1 => simp; omega
        intro v' w1 hown' hgrow _
        have hb' := (hb.alloc hz (.cells #[.int .i64 x] 3)).grown hgrow (by simp; omega) (fun j hj => (hown.lt j hj).1)
        clear hown hgrow
        go_wp2
        refine ⟨⟨k + 1, by omega, by go_num, by rw [HN'.out, ints_snoc, List.length_append]; exact hown', hb'⟩, by simp [intOf]; omega⟩
    · have hkl : k = l.length := by omega
      subst hkl
      rw [List.take_length] at hown
      go_wp2
      go_ret
      exact ⟨_, rfl, hown, hb⟩

theorem kids_none {x : Nd} (h : unaryB x.op = false) (h26 : x.op ≠ 26) (h27 : x.op ≠ 27) (h28 : x.op ≠ 28) (hb : binaryB x.op = false) : kidsM x = [] := by
  unfold kidsM; rw [h, hb]; simp [h26, h27, h28]
end Go.Proofs.Ytmggedjolocgdaa.Tr
