/- The document's waits. Conditions: slices are read as lists. -/
import Derived.Test.YtdebhngpgabglaaGreatCdB
set_option linter.unusedVariables false
set_option linter.unusedSimpArgs false
namespace Go.Proofs.YtdebhngpgabglaaGreat.Ca
open Go.ChangeShapes Go.WideShapes Go.ChangeAt Go.RowKit Go.Maps Go.WideMaps Go.Proofs.YtdebhngpgabglaaGreat.Tr
open Go.Proofs.YtdebhngpgabglaaGreat.Pg (Eqn)
def TkB (n : Nat) (t : List Nat) : List Bool := (List.range n).map fun j => t.contains j
theorem tk_len (n : Nat) (t : List Nat) : (TkB n t).length = n := by unfold TkB; simp
theorem tk_get {n : Nat} {t : List Nat} {j : Nat} (h : j < n) : (TkB n t)[j]? = some (t.contains j) := by
 unfold TkB; rw [List.getElem?_map, List.getElem?_range h]; rfl
theorem tk_set {n : Nat} {t : List Nat} {i : Nat} (h : i < n) : (TkB n t).set i true = TkB n (t ++ [i]) := by
 apply List.ext_getElem?
 intro j
 rw [List.getElem?_set, tk_len]
 by_cases hj : j < n
 · rw [tk_get hj, tk_get hj]
   by_cases e : i = j
   · subst e; rw [if_pos rfl, if_pos hj]; simp
   · rw [if_neg e]
     congr 1
     simp [List.contains_eq_mem, Ne.symm e]
 · rw [if_neg (by omega), List.getElem?_eq_none_iff.2 (by rw [tk_len]; omega), List.getElem?_eq_none_iff.2 (by rw [tk_len]; omega)]
theorem tk_nil (n : Nat) : TkB n [] = List.replicate n false := by
 apply List.ext_getElem?
 intro j
 by_cases hj : j < n
 · rw [tk_get hj, List.getElem?_replicate, if_pos hj]; rfl
 · rw [List.getElem?_eq_none_iff.2 (by rw [tk_len]; omega), List.getElem?_eq_none_iff.2 (by simp; omega)]
def waitB (Q : Qs) (t : List Nat) (ns : List Bytes) : Bool := ns.any (leftB Q t)
theorem wait_yes {Q : Qs} {t : List Nat} {ns : List Bytes} {j : Nat} (hj : j < Q.length) (ht : t.contains j = false) (hn : ns.contains (nmQ Q j) = true) : waitB Q t ns = true := by
 unfold waitB
 rw [List.any_eq_true]
 exact ⟨nmQ Q j, by simpa using hn, left_iff.2 ⟨j, hj, by simpa using ht, rfl⟩⟩
theorem wait_no {Q : Qs} {t : List Nat} {ns : List Bytes} (h : ∀ j, j < Q.length → t.contains j = false → ns.contains (nmQ Q j) = false) : waitB Q t ns = false := by
 unfold waitB
 rw [List.any_eq_false]
 intro s hs hl
 obtain ⟨j, hj, ht, rfl⟩ := left_iff.1 hl
 have := h j hj (by simpa using ht)
 simp [hs] at this
set_option maxRecDepth 100000 in
set_option maxHeartbeats 4000000 in
theorem rwaits_any (v tv nv : Value) (l : List Eqn) (t : List Nat) (ns : List Bytes) (B n : Nat) (w : World) (hln : l.length = n) (hv : EqsAt w v l) (ht : w.ownsRow B 4 1 tv n (boolsOf (TkB n t))) (hn : Strs w nv ns) :
 Calls Tryz.prog 27 #[v, tv, nv] w (fun e w' => e = .returned (.bool (waitB (qsOf l) t ns)) ∧ w = w') := by
 have HV := Lib.hid hv
 have HT := Lib.hid ht
 have HQL := Lib.hid (qs_len l)
 have HHA := Lib.hid (fun s => rhas_any nv ns s w hn)
 obtain ⟨A, c, rfl, h1, h2, h3⟩ := hv
 unfold maxLen at h2
 obtain ⟨At, ct, rfl⟩ : ∃ At ct, tv = .slice At n ct := by
  obtain ⟨-, ⟨e5, h0⟩ | ⟨g, cap, cur, e5, -⟩⟩ := ht
  · exact ⟨none, 0, by rw [e5, h0]⟩
  · exact ⟨_, _, e5⟩
 have HA := Lib.hid h3
 have HLN := Lib.hid hln
 rw [hln] at h1 ⊢
 clear h3 ht hn hln
 go_enter Tryz.func27, Tryz.ntmps27
 go_wp2_with fail
 go_loop [7] (fun i => ∃ k : Nat, k ≤ n ∧ i = .int .i64 k ∧ Hid (∀ j, j < k → t.contains j = false → ns.contains (nmQ (qsOf l) j) = false)) (fun i => n - (intOf i).toNat)
 case atStart => exact ⟨0, Nat.zero_le _, rfl, fun j hj => by omega⟩
 case round =>
  obtain ⟨k, hk, rfl, hn⟩ := hrel
  by_cases hlt : k < n
  · obtain ⟨q, hq⟩ : ∃ q, l[k]? = some q := ⟨_, List.getElem?_eq_getElem (by rw [HLN.out]; exact hlt)⟩
    obtain ⟨g, o, ev, rfl, hg, a0, -⟩ := HA.out k q hq
    have hnm := (qs_at hq).1
    obtain ⟨gt, rfl⟩ : ∃ gt, At = some ⟨gt, 0, none⟩ := by
     obtain ⟨-, ⟨e5, h0⟩ | ⟨g, cap, cur, e5, -⟩⟩ := HT.out
     · omega
     · simp only [Value.slice.injEq, true_and] at e5
       exact ⟨g, e5.1⟩
    have ct := (HT.out.cellAt k (by omega)).trans (bools_get (tk_get hlt))
    clear hq
    cases htk : t.contains k with
    | true =>
     have HN : Hid (∀ j, j < k + 1 → t.contains j = false → ns.contains (nmQ (qsOf l) j) = false) := Lib.hid (fun j hj => by
      by_cases e : j = k
      · subst e; intro h; rw [htk] at h; cases h
      · exact hn.out j (by omega))
     rw [htk] at ct
     clear htk hnm
     go_wp2
     refine ⟨⟨k + 1, by omega, by go_num, HN.out⟩, by simp [intOf]; omega⟩
    | false =>
     rw [htk] at ct
     have HC := Lib.hid (HHA.out q.name)
     cases hc : ns.contains q.name with
     | true =>
      have HR := Lib.hid (wait_yes (Q := qsOf l) (t := t) (ns := ns) (j := k) (by rw [HQL.out, HLN.out]; exact hlt) htk (by rw [hnm]; exact hc))
      rw [hc] at HC
      clear hc hnm htk
      go_wp2_with fail
      refine HC.out.mono ?_
      rintro r w3 ⟨rfl, rfl⟩
      go_wp2
      go_ret
      exact ⟨by rw [HR.out]; rfl, rfl⟩
     | false =>
      have HN : Hid (∀ j, j < k + 1 → t.contains j = false → ns.contains (nmQ (qsOf l) j) = false) := Lib.hid (fun j hj => by
       by_cases e : j = k
       · subst e; intro _; rw [hnm]; exact hc
       · exact hn.out j (by omega))
      rw [hc] at HC
      clear hc hnm htk
      go_wp2_with fail
      refine HC.out.mono ?_
      rintro r w3 ⟨rfl, rfl⟩
      go_wp2
      refine ⟨⟨k + 1, by omega, by go_num, HN.out⟩, by simp [intOf]; omega⟩
  · have HR := Lib.hid (wait_no (Q := qsOf l) (t := t) (ns := ns) (fun j hj => hn.out j (by rw [HQL.out, HLN.out] at hj; omega)))
    go_wp2
    go_ret
    exact ⟨by rw [HR.out]; rfl, rfl⟩
end Go.Proofs.YtdebhngpgabglaaGreat.Ca
