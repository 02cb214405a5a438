/- The document's tables: counted, compared. Conditions: at most 1048576 rows. -/
import Derived.Test.YtfohjlepknnleaaBdOb
import Derived.BigQuiet
namespace Go.Proofs.Ytfohjlepknnleaa.Bd
open Go.ChangeShapes Go.WideShapes Go.ChangeAt Go.RowKit Go.IntWalk
set_option linter.unusedVariables false
set_option linter.unusedSimpArgs false

theorem count_take {l : List Bool} {i : Nat} (h : i < l.length) : (l.take (i + 1)).count true = (l.take i).count true + if l.getD i false then 1 else 0 := by
  rw [List.take_add_one, List.count_append, List.getD_eq_getElem?_getD, List.getElem?_eq_getElem h]
  cases l[i] <;> rfl
theorem BoolsAt.cell {w : World} {A : Option Addr} {c : Nat} {l : List Bool} {n i : Nat} (h : BoolsAt w (.slice A n c) l) (hn : l.length = n) (hi : i < n) : ∃ g o, A = some ⟨g, o, none⟩ ∧ w.cell? ⟨g, o + i, none⟩ = some (.bool (l.getD i false)) := by
  obtain ⟨g, o, _, h1, h2⟩ := h.get hn hi
  injection h1 with h1
  exact ⟨g, o, h1, h2⟩
theorem take_same {l1 l2 : List Bool} {i : Nat} (h : l1.take i = l2.take i) (h1 : i < l1.length) (h2 : i < l2.length) (hx : l1.getD i false = l2.getD i false) : l1.take (i + 1) = l2.take (i + 1) := by
  rw [List.getD_eq_getElem?_getD, List.getD_eq_getElem?_getD, List.getElem?_eq_getElem h1, List.getElem?_eq_getElem h2] at hx
  have hx : l1[i] = l2[i] := hx
  rw [List.take_add_one, List.take_add_one, h, List.getElem?_eq_getElem h1, List.getElem?_eq_getElem h2, hx]
set_option maxRecDepth 100000 in
set_option maxHeartbeats 1600000 in
theorem rcount_any (w : World) (v : Value) (l : List Bool) (n : Nat) (hn20 : n ≤ 1048576) (a : BoolsAt w v l) (e1 : l.length = n) :
    Calls Try.prog 31 #[v] w (fun e w' => e = .returned (.int .i64 (l.count true : Nat)) ∧ w' = w) := by
  have HA := Lib.hid a
  obtain ⟨A, c, rfl⟩ := a.form
  have HL := Lib.hid e1
  rw [e1] at HA ⊢
  clear a e1
  go_enter Try.func31, Try.ntmps31
  go_wp2_with fail
  go_loopw [3, 4] (fun ci vi wr => ∃ i : Nat, i ≤ n ∧ vi = .int .i64 (i : Int) ∧ ci = .int .i64 (((l.take i).count true : Nat) : Int) ∧ wr = w) (fun _ vi _ => n - intV vi)
  case atStart => exact ⟨0, Nat.zero_le _, rfl, rfl, rfl⟩
  case round =>
    obtain ⟨i, hi, rfl, rfl, rfl⟩ := hrel
    by_cases hin : i < n
    · obtain ⟨g, o, rfl, q1⟩ := HA.out.cell HL.out hin
      have hct := count_take (l := l) (i := i) (by rw [HL.out]; exact hin)
      obtain ⟨x, hx⟩ : ∃ x, l.getD i false = x := ⟨_, rfl⟩
      obtain ⟨k, hk⟩ : ∃ k, (l.take i).count true = k := ⟨_, rfl⟩
      have hkn : k ≤ n := by rw [← hk, ← HL.out]; exact Nat.le_trans List.count_le_length (by rw [List.length_take]; omega)
      rw [hx] at q1 hct
      rw [hk] at hct ⊢
      have HCT := Lib.hid hct
      clear hct hx hk
      cases x
      · go_wp2_with fail
        go_roundw
        case rel => exact ⟨i + 1, by omega, by go_num, by rw [HCT.out]; rfl, trivial⟩
        case measure => simp [intV]; omega
      · go_wp2_with fail
        go_roundw
        case rel => exact ⟨i + 1, by omega, by go_num, by rw [HCT.out]; go_num, trivial⟩
        case measure => simp [intV]; omega
    · obtain rfl : i = n := by omega
      have HE : Hid (l.take i = l) := Lib.hid (by rw [← HL.out, List.take_length])
      go_wp2_with fail
      refine bodyPost_ret (v := .int .i64 (((l.take i).count true : Nat) : Int)) (by simp [results, Try.results31, go_sem]) rfl ⟨by rw [HE.out], rfl⟩

set_option maxRecDepth 100000 in
set_option maxHeartbeats 1600000 in
theorem rsame_any (w : World) (v1 v2 : Value) (l1 l2 : List Bool) (h1 : l1.length ≤ 1048576) (h2 : l2.length ≤ 1048576) (a1 : BoolsAt w v1 l1) (a2 : BoolsAt w v2 l2) :
    Calls Try.prog 23 #[v1, v2] w (fun e w' => e = .returned (.bool (decide (l1 = l2))) ∧ Below w.heap.size w w') := by
  have HA1 := Lib.hid a1
  have HA2 := Lib.hid a2
  obtain ⟨A1, c1, rfl⟩ := a1.form
  obtain ⟨A2, c2, rfl⟩ := a2.form
  obtain ⟨n, hn⟩ : ∃ n, l1.length = n := ⟨_, rfl⟩
  obtain ⟨m, hm⟩ : ∃ n, l2.length = n := ⟨_, rfl⟩
  have HL1 := Lib.hid hn
  have HL2 := Lib.hid hm
  rw [hn] at h1 HA1
  rw [hm] at h2 HA2
  rw [hn, hm]
  clear a1 a2 hn hm
  by_cases hnm : n = m
  · subst hnm
    go_enter Try.func23, Try.ntmps23
    go_wp2_with fail
    go_loopw [5] (fun vi wr => ∃ i : Nat, i ≤ n ∧ vi = .int .i64 (i : Int) ∧ l1.take i = l2.take i ∧ Below w.heap.size w wr) (fun vi _ => n - intV vi)
    case atStart => exact ⟨0, Nat.zero_le _, rfl, rfl, Below.refl _ _⟩
    case round =>
      obtain ⟨i, hi, rfl, ht, hb⟩ := hrel
      have HT := Lib.hid ht
      have HB := Lib.hid hb
      by_cases hin : i < n
      · obtain ⟨g1, o1, rfl, q1⟩ := (HA1.out.below hb).cell HL1.out hin
        obtain ⟨g2, o2, rfl, q2⟩ := (HA2.out.below hb).cell HL2.out hin
        obtain ⟨x1, hx1⟩ : ∃ x, l1.getD i false = x := ⟨_, rfl⟩
        obtain ⟨x2, hx2⟩ : ∃ x, l2.getD i false = x := ⟨_, rfl⟩
        rw [hx1] at q1
        rw [hx2] at q2
        have HX := Lib.hid (And.intro hx1 hx2)
        clear hx1 hx2 ht hb
        have HBD : Hid (Below w.heap.size w wr.drew) := Lib.hid HB.out.drew
        cases x1 <;> cases x2
        · have HTT : Hid (l1.take (i + 1) = l2.take (i + 1)) := Lib.hid (take_same HT.out (by rw [HL1.out]; exact hin) (by rw [HL2.out]; exact hin) (by rw [HX.out.1, HX.out.2]))
          go_wp2_with fail
          go_region
          go_wp2_with fail
          exact ⟨⟨i + 1, by omega, by go_num, HTT.out, HBD.out⟩, by simp [intV]; omega⟩
        · have hne : decide (l1 = l2) = false := decide_eq_false (fun e => by have h1 := HX.out.1; have h2 := HX.out.2; rw [e] at h1; rw [h1] at h2; cases h2)
          have HNE := Lib.hid hne
          clear hne
          go_wp2_with fail
          go_region
          go_wp2_with fail
          refine bodyPost_ret (v := .bool false) (by simp [results, Try.results23, go_sem]) rfl ⟨by rw [HNE.out], HBD.out⟩
        · have hne : decide (l1 = l2) = false := decide_eq_false (fun e => by have h1 := HX.out.1; have h2 := HX.out.2; rw [e] at h1; rw [h1] at h2; cases h2)
          have HNE := Lib.hid hne
          clear hne
          go_wp2_with fail
          go_region
          go_wp2_with fail
          refine bodyPost_ret (v := .bool false) (by simp [results, Try.results23, go_sem]) rfl ⟨by rw [HNE.out], HBD.out⟩
        · have HTT : Hid (l1.take (i + 1) = l2.take (i + 1)) := Lib.hid (take_same HT.out (by rw [HL1.out]; exact hin) (by rw [HL2.out]; exact hin) (by rw [HX.out.1, HX.out.2]))
          go_wp2_with fail
          go_region
          go_wp2_with fail
          exact ⟨⟨i + 1, by omega, by go_num, HTT.out, HBD.out⟩, by simp [intV]; omega⟩
      · obtain rfl : i = n := by omega
        have heq : decide (l1 = l2) = true := decide_eq_true (by rw [← List.take_length (l := l1), ← List.take_length (l := l2), HL1.out, HL2.out]; exact ht)
        have HEQ := Lib.hid heq
        clear ht hb heq
        go_wp2_with fail
        refine bodyPost_ret (v := .bool true) (by simp [results, Try.results23, go_sem]) rfl ⟨by rw [HEQ.out], HB.out⟩
  · have hne : decide (l1 = l2) = false := decide_eq_false (fun e => hnm (by rw [← HL1.out, ← HL2.out, e]))
    have hnb : ¬ ((n : Int) = (m : Int)) := by omega
    rw [hne]
    go_enter Try.func23, Try.ntmps23
    go_wp2_with fail
    refine bodyPost_ret (v := .bool false) (by simp [results, Try.results23, go_sem]) rfl ⟨rfl, Below.refl _ _⟩
end Go.Proofs.Ytfohjlepknnleaa.Bd
