/- The document's Copy returns the same nodes in memory of their own. Conditions: the slice is read as a list of nodes; not too many. -/
import Derived.Test.YtmggedjolocgdaaTreeV
import Derived.Laws.AppendOwnNone
namespace Go.Proofs.Ytmggedjolocgdaa.Tr
open Go.ChangeShapes Go.WideShapes Go.ChangeAt Go.RowKit
set_option linter.unusedVariables false
set_option linter.unusedSimpArgs false

theorem nds_news {w : World} {g o n c : Nat} {l : List Nd} (h : Nodes w (.slice (some ⟨g, o, none⟩) n c) l) : ∀ (j : Nat) u, (ndsOf l)[j]? = some u → w.cell? ((⟨g, o, none⟩ : Addr).add j) = some u := by
  obtain ⟨A', c', e, h1, h2, h3⟩ := h
  intro j u hu
  have hj := (List.getElem?_eq_some_iff.1 hu).1
  rw [nds_len] at hj
  have hi : j / 6 < l.length := by omega
  have hx : l[j / 6]? = some l[j / 6] := List.getElem?_eq_getElem hi
  obtain ⟨g', o', hg, hlt, c0, c1, c2, c3, c4, c5⟩ := h3 _ _ hx
  have hA : A' = some ⟨g, o, none⟩ := by injection e with e1; exact e1.symm
  rw [hA] at hg
  simp only [Option.some.injEq, Addr.mk.injEq, and_true] at hg
  obtain ⟨rfl, rfl⟩ := hg
  have ha : (⟨g, o, none⟩ : Addr).add j = ⟨g, o + j, none⟩ := by unfold Addr.add; split <;> simp_all
  rw [ha]
  have hk : j = j / 6 * 6 + j % 6 := by omega
  have hr : j % 6 < 6 := by omega
  have h6 := nds_at l _ _ hx (j % 6) hr
  rw [← hk, hu] at h6
  generalize hd : j / 6 = d at *
  generalize hm : j % 6 = m at *
  subst hk
  have hmm : m = 0 ∨ m = 1 ∨ m = 2 ∨ m = 3 ∨ m = 4 ∨ m = 5 := by omega
  rcases hmm with rfl | rfl | rfl | rfl | rfl | rfl
  · rw [h6]; exact c0
  · rw [h6, ← Nat.add_assoc]; exact c1
  · rw [h6, ← Nat.add_assoc]; exact c2
  · rw [h6, ← Nat.add_assoc]; exact c3
  · rw [h6, ← Nat.add_assoc]; exact c4
  · rw [h6, ← Nat.add_assoc]; exact c5
theorem nds_one (l : List Nd) : ∀ u ∈ ndsOf l, u.oneCell' = true := by
  intro u hu
  unfold ndsOf at hu
  rw [List.mem_flatMap] at hu
  obtain ⟨x, _, hx⟩ := hu
  simp [ndCells] at hx
  rcases hx with rfl | rfl | rfl | rfl | rfl | rfl <;> rfl
set_option maxHeartbeats 800000 in
theorem copy_any (v : Value) (e : List Nd) (w : World) (hv : Nodes w v e) (hn : e.length ≤ 100000) (hnil : ∀ c, v = .slice none 0 c → c = 0) : Calls Try.prog 26 #[v] w (NodesPost w e) := by
  have HV := Lib.hid hv
  obtain ⟨A, c, rfl, h1, h2, hA⟩ := hv
  unfold maxLen at h2
  obtain ⟨i1, hi', hz0', hz1', hz2'⟩ := info_parts info30
  by_cases hp : 0 < e.length
  · obtain ⟨g, o, rfl, hg, _⟩ := hA 0 _ (List.getElem?_eq_getElem hp)
    have HNEWS := Lib.hid (nds_news HV.out)
    clear hA
    go_enter Try.func26, Try.ntmps26
    go_wp2_with (at_builtin; refine wpList_append_own _ rfl _ (.tmp 3) 23 rfl w.heap.size 30 i1 _ 6 56 Try.underlying23 hi' hz0' hz1' hz2' rfl (by decide) (.slice none 0 0) 0 [] rfl (World.ownsRow_nil _ _ _ _) ⟨g, o, none⟩ e.length c (ndsOf e) rfl (nds_len e) HNEWS.out (nds_one e) ?c1 ?d1 (Nat.le_refl _) ?_)
    case c1 => unfold maxLen; omega
    case d1 => omega
    intro v' w1 hown hg1 _
    have HO := Lib.hid hown
    have HB := Lib.hid ((Below.refl w.heap.size w).grown hg1 (Nat.le_refl _) (fun k hk => by simp [Value.ownBlock] at hk))
    clear hown hg1
    go_wp2
    go_ret
    exact ⟨_, rfl, by simpa using HO.out, HB.out⟩
  · have h0 : e = [] := List.length_eq_zero_iff.1 (by omega)
    subst h0
    clear hA
    cases A with
    | none =>
      have hc : c = 0 := hnil c rfl
      subst hc
      go_enter Try.func26, Try.ntmps26
      go_wp2_with (at_builtin; refine wpList_append_own_none rfl _ (.tmp 3) 23 rfl w.heap.size 30 i1 6 Try.underlying23 hi' (.slice none 0 0) 0 [] rfl (World.ownsRow_nil _ _ _ _) rfl ?_)
      go_wp2
      go_ret
      exact nodes_none _ _ (Below.refl _ _)
    | some ad =>
      go_enter Try.func26, Try.ntmps26
      go_wp2_with (at_builtin; refine wpList_append_own _ rfl _ (.tmp 3) 23 rfl w.heap.size 30 i1 _ 6 56 Try.underlying23 hi' hz0' hz1' hz2' rfl (by decide) (.slice none 0 0) 0 [] rfl (World.ownsRow_nil _ _ _ _) ad 0 c [] rfl rfl (by simp) (by simp) (by unfold maxLen; omega) (by omega) (Nat.le_refl _) ?_)
      intro v' w1 hown hg1 _
      have HO := Lib.hid hown
      have HB := Lib.hid ((Below.refl w.heap.size w).grown hg1 (Nat.le_refl _) (fun k hk => by simp [Value.ownBlock] at hk))
      clear hown hg1
      go_wp2
      go_ret
      exact ⟨_, rfl, HO.out, HB.out⟩
end Go.Proofs.Ytmggedjolocgdaa.Tr
