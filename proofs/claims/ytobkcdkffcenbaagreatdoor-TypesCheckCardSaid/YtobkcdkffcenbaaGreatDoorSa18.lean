/- The document's function node of layer types, its other operators. Conditions: the expression may be. -/
import Derived.Test.YtobkcdkffcenbaaGreatDoorSa17
import Derived.Test.YtobkcdkffcenbaaGreatDoorSa05
import Derived.Test.YtobkcdkffcenbaaGreatDoorSa16
import Derived.Test.YtobkcdkffcenbaaGreatDoorSa04
set_option linter.unusedVariables false
set_option linter.unusedSimpArgs false
namespace Go.Proofs.YtobkcdkffcenbaaGreatDoor.Ty
open Go.ChangeShapes Go.WideShapes Go.ChangeAt Go.RowKit
open Go.Proofs.YtobkcdkffcenbaaGreatDoor.Tr
open Go.Proofs.YtobkcdkffcenbaaGreatDoor.Pg (Prm Unt)
open Go.Proofs.YtobkcdkffcenbaaGreatDoor.Ow (PrmN UntN RowN rown_at rown_form)
theorem ints_base {w : World} {A : Option Addr} {L : List Int} (h : ∀ (i : Nat) (x : Int), L[i]? = some x → ∃ g o, A = some ⟨g, o, none⟩ ∧ g < w.heap.size ∧ w.cell? ⟨g, o + i, none⟩ = some (.int .i64 x)) (hL : 0 < L.length) :
    ∃ g o, A = some ⟨g, o, none⟩ ∧ g < w.heap.size ∧ ∀ (m : Nat) (x : Int), L[m]? = some x → w.cell? ⟨g, o + m, none⟩ = some (.int .i64 x) := by
  obtain ⟨g, o, rfl, hg, _⟩ := h 0 L[0] (List.getElem?_eq_getElem hL)
  refine ⟨g, o, rfl, hg, fun m x hm => ?_⟩
  obtain ⟨g', o', he, _, hc⟩ := h m x hm
  cases he
  exact hc
set_option maxRecDepth 100000 in
set_option maxHeartbeats 80000000 in
theorem rnode_any (v tv pv uv : Value) (l : List Prm) (us : List Unt) (e : List Nd) (L : List Int) (i : Nat) (x : Nd) (w : World) (hp : RowN 2 PrmN w l pv) (hu : RowN 8 UntN w us uv) (hv : Nodes w v e) (hl : Ints w tv L) (hx : e[i]? = some x) (he : e.length ≤ 5000) (hLl : L.length = e.length)
    (hg : ∀ i x, e[i]? = some x → Tr.Good e i x) (hs : x.name.length ≤ maxLen) : Calls Tryz.prog 86 #[v, .int .i64 (i : Int), tv, pv, uv] w (TwoPost w (nodeD (envOf l us) e L x)) := by
  have hil := (List.getElem?_eq_some_iff.1 hx).1
  have hgx := hg i x hx
  obtain ⟨R, hR⟩ : ∃ R, nodeD (envOf l us) e L x = R := ⟨_, rfl⟩
  rw [hR]
  obtain ⟨w1, hw1⟩ : ∃ W, w.alloc (.cells (ndC x) 70) = W := ⟨_, rfl⟩
  have hb1 : Below w.heap.size w w1 := hw1 ▸ below_new w _
  have hX : w1.heap[w.heap.size]? = some (.cells (ndC x) 70 (0, 0)) := hw1 ▸ heap_alloc_new w _
  have q0 : w1.cell? ⟨w.heap.size, 0, none⟩ = some (.int .i64 x.op) := (cells_at hX 0).trans rfl
  have q1 : w1.cell? ⟨w.heap.size, 1, none⟩ = some (.int .i64 x.a) := (cells_at hX 1).trans rfl
  have q2 : w1.cell? ⟨w.heap.size, 2, none⟩ = some (.int .i64 x.b) := (cells_at hX 2).trans rfl
  have q3 : w1.cell? ⟨w.heap.size, 3, none⟩ = some (.int .i64 x.c) := (cells_at hX 3).trans rfl
  have q5 : w1.cell? ⟨w.heap.size, 5, none⟩ = some (.string (str x.name)) := (cells_at hX 5).trans rfl
  have HB1 := Lib.hid hb1
  have HW1 := Lib.hid hw1
  have hv1 := hv.below hb1 (Nat.le_refl _)
  have hl1 := hl.below hb1 (Nat.le_refl _)
  have hp1 := hp.below hb1 (PrmN.below hb1)
  have hu1 := hu.below hb1 (UntN.below hb1)
  obtain ⟨A, c, hve, y1, y2, hA⟩ := hv
  subst hve
  obtain ⟨B, d, hte, y3, y4, hB⟩ := hl
  subst hte
  obtain ⟨C, f, hpe, y5, y6, -⟩ := rown_form hp
  subst hpe
  obtain ⟨D, k, hue, y7, y8, -⟩ := rown_form hu
  subst hue
  unfold maxLen at y2 y4 y6 y8
  obtain ⟨g, o, rfl, hgl, a0, a1, a2, a3, a4, a5⟩ := hA i x hx
  have lz : w.heap.size < w1.heap.size := lt_of_block hX
  have hili : (i : Int) < (e.length : Int) := by omega
  have hr : 1 ≤ x.op ∧ x.op ≤ 28 := by
    have h := hgx.plain
    rw [plain_range] at h
    simp only [Bool.and_eq_true, decide_eq_true_eq] at h
    exact h.1
  by_cases h : x.op = 1
  · clear hr
    have HE : Hid (R = (2, 0)) := Lib.hid (by rw [← hR]; unfold nodeD; rw [h]; rfl)
    clear hLl hR hgx hg hx hv1 hl1 hp1 hu1 hp hu hA hB hb1 hw1 hX
    obtain ⟨op, a, b, cc, n, nm⟩ := x
    simp only at h q0 q1 q2 q3 q5 a0 a1 a2 a3 a4 a5 HW1
    subst h
    go_enter Tryz.func86, Tryz.ntmps86
    go_wp2_with fail
    rw [HW1.out]
    go_wp2
    go_ret2
    exact two_of HE.out HB1.out
  have g0 := h
  clear h
  by_cases h : x.op = 2
  · clear hr g0
    have HE : Hid (R = (1, 0)) := Lib.hid (by rw [← hR]; unfold nodeD; rw [h]; rfl)
    clear hLl hR hgx hg hx hv1 hl1 hp1 hu1 hp hu hA hB hb1 hw1 hX
    obtain ⟨op, a, b, cc, n, nm⟩ := x
    simp only at h q0 q1 q2 q3 q5 a0 a1 a2 a3 a4 a5 HW1
    subst h
    go_enter Tryz.func86, Tryz.ntmps86
    go_wp2_with fail
    rw [HW1.out]
    go_wp2
    go_ret2
    exact two_of HE.out HB1.out
  have g1 := h
  clear h
  by_cases h : x.op = 28
  · clear hr g0 g1
    have HE : Hid (R = (0, 0)) := Lib.hid (by rw [← hR]; unfold nodeD; rw [h]; rfl)
    clear hLl hR hgx hg hx hv1 hl1 hp1 hu1 hp hu hA hB hb1 hw1 hX
    obtain ⟨op, a, b, cc, n, nm⟩ := x
    simp only at h q0 q1 q2 q3 q5 a0 a1 a2 a3 a4 a5 HW1
    subst h
    go_enter Tryz.func86, Tryz.ntmps86
    go_wp2_with fail
    rw [HW1.out]
    go_wp2
    go_ret2
    exact two_of HE.out HB1.out
  have g2 := h
  clear h
  by_cases h : x.op = 3
  · clear hr g0 g1 g2
    have HE : Hid (R = strR (strOf l x.name)) := Lib.hid (by rw [← hR]; unfold nodeD; rw [h]; rfl)
    have HC := Lib.hid (rstream_any _ l x.name w1 hp1)
    clear hLl hR hgx hg hx hv1 hl1 hp1 hu1 hp hu hA hB hb1 hw1 hX
    obtain ⟨op, a, b, cc, n, nm⟩ := x
    simp only at h HE HC q0 q1 q2 q3 q5 a0 a1 a2 a3 a4 a5 HW1
    subst h
    cases hst : strOf l nm with
    | none =>
      rw [hst] at HC HE
      simp only [strB, strR] at HC HE
      clear hst
      go_enter Tryz.func86, Tryz.ntmps86
      go_wp2_with fail
      rw [HW1.out]
      go_wp2_with fail
      refine HC.out.mono ?_
      rintro r w2 ⟨rfl, rfl⟩
      go_wp2
      go_ret2
      exact two_of HE.out HB1.out
    | some t =>
      rw [hst] at HC HE
      simp only [strB, strR] at HC HE
      clear hst
      go_enter Tryz.func86, Tryz.ntmps86
      go_wp2_with fail
      rw [HW1.out]
      go_wp2_with fail
      refine HC.out.mono ?_
      rintro r w2 ⟨rfl, rfl⟩
      go_wp2
      go_ret2
      exact two_of HE.out HB1.out
  have g3 := h
  clear h
  by_cases h : x.op = 27
  · clear hr g0 g1 g2 g3
    have HC := Lib.hid (rcall_any _ _ _ e L us i x w1 hv1 hl1 hu1 he (by omega) hg hx h hs)
    rw [show callR (nodOf us x.name) (pickM L (argsAt e x.a)) = R by rw [← hR]; unfold nodeD; rw [h]; rfl] at HC
    obtain ⟨r1, r2⟩ := R
    clear hLl hR hgx hg hx hv1 hl1 hp1 hu1 hp hu hA hB hb1 hw1 hX
    obtain ⟨op, a, b, cc, n, nm⟩ := x
    simp only at h HC q0 q1 q2 q3 q5 a0 a1 a2 a3 a4 a5 HW1
    subst h
    go_enter Tryz.func86, Tryz.ntmps86
    go_wp2_with fail
    rw [HW1.out]
    go_wp2_with fail
    refine HC.out.mono ?_
    rintro r w2 ⟨rfl, hb2⟩
    have HB2 : Hid (Below w.heap.size w w2) := Lib.hid (HB1.out.trans (hb2.mono HB1.out.size))
    clear hb2
    go_wp2
    go_ret2
    exact ⟨rfl, HB2.out⟩
  have g4 := h
  clear h
  by_cases h : x.op = 5 ∨ x.op = 14 ∨ x.op = 15 ∨ x.op = 16 ∨ x.op = 17 ∨ x.op = 18
  · clear hr g0 g1 g2 g3 g4
    have HE : Hid (R = oneR (allW L (kidsM x) 2) 2) := Lib.hid (by
      rw [← hR, ← shR_arith h]
      unfold nodeD
      rw [if_neg (by omega), if_neg (by omega), if_neg (by omega), if_neg (by omega), if_neg (by omega)])
    have HC := Lib.hid (both_any _ _ e L i x 2 w1 hv1 hl1 hx (fun k hk => by have := hgx.ahead k hk; omega))
    obtain ⟨bb, hbb⟩ : ∃ b, allW L (kidsM x) 2 = b := ⟨_, rfl⟩
    rw [hbb] at HE HC
    have HBB := Lib.hid hbb
    clear hbb
    clear hLl hR hgx hg hx hv1 hl1 hp1 hu1 hp hu hA hB hb1 hw1 hX
    obtain ⟨op, a, b, cc, n, nm⟩ := x
    simp only at h HC q0 q1 q2 q3 q5 a0 a1 a2 a3 a4 a5 HW1
    rcases h with rfl | rfl | rfl | rfl | rfl | rfl
    all_goals
      go_enter Tryz.func86, Tryz.ntmps86
      go_wp2_with fail
      rw [HW1.out]
      go_wp2_with fail
      refine HC.out.mono ?_
      rintro r w2 ⟨rfl, hb2⟩
      have HB2 : Hid (Below w.heap.size w w2) := Lib.hid (HB1.out.trans (hb2.mono HB1.out.size))
      clear hb2
      go_wp2_with fail
      refine (one_any bb 2 w2).mono ?_
      rintro r w3 ⟨rfl, rfl⟩
      go_wp2
      go_ret2
      exact two_of HE.out HB2.out
  have g5 := h
  clear h
  by_cases h : x.op = 12 ∨ x.op = 13
  · clear hr g0 g1 g2 g3 g4 g5
    have HE : Hid (R = oneR (allW L (kidsM x) 2) 1) := Lib.hid (by
      rw [← hR, ← shR_less h]
      unfold nodeD
      rw [if_neg (by omega), if_neg (by omega), if_neg (by omega), if_neg (by omega), if_neg (by omega)])
    have HC := Lib.hid (both_any _ _ e L i x 2 w1 hv1 hl1 hx (fun k hk => by have := hgx.ahead k hk; omega))
    obtain ⟨bb, hbb⟩ : ∃ b, allW L (kidsM x) 2 = b := ⟨_, rfl⟩
    rw [hbb] at HE HC
    have HBB := Lib.hid hbb
    clear hbb
    clear hLl hR hgx hg hx hv1 hl1 hp1 hu1 hp hu hA hB hb1 hw1 hX
    obtain ⟨op, a, b, cc, n, nm⟩ := x
    simp only at h HC q0 q1 q2 q3 q5 a0 a1 a2 a3 a4 a5 HW1
    rcases h with rfl | rfl
    all_goals
      go_enter Tryz.func86, Tryz.ntmps86
      go_wp2_with fail
      rw [HW1.out]
      go_wp2_with fail
      refine HC.out.mono ?_
      rintro r w2 ⟨rfl, hb2⟩
      have HB2 : Hid (Below w.heap.size w w2) := Lib.hid (HB1.out.trans (hb2.mono HB1.out.size))
      clear hb2
      go_wp2_with fail
      refine (one_any bb 1 w2).mono ?_
      rintro r w3 ⟨rfl, rfl⟩
      go_wp2
      go_ret2
      exact two_of HE.out HB2.out
  have g6 := h
  clear h
  by_cases h : x.op = 10 ∨ x.op = 11
  · clear hr g0 g1 g2 g3 g4 g5 g6
    have hkk : kidsM x = [x.a, x.b] := by exact kidsM_bin x (by rcases h with h | h <;> rw [h] <;> decide)
    obtain ⟨gB, oB, rfl, hgB, hBB⟩ := ints_base hB (by omega)
    have hka := hgx.ahead x.a (by rw [hkk]; simp)
    obtain ⟨ma, hma⟩ := Int.eq_ofNat_of_zero_le hka.1
    obtain ⟨yu, hu⟩ : ∃ y, L[ma]? = some y := ⟨_, List.getElem?_eq_getElem (by omega)⟩
    have da := (hb1.cell (p := ⟨gB, oB + ma, none⟩) hgB).trans (hBB ma yu hu)
    have haia : (ma : Int) < (L.length : Int) := by omega
    have hkb := hgx.ahead x.b (by rw [hkk]; simp)
    obtain ⟨mb, hmb⟩ := Int.eq_ofNat_of_zero_le hkb.1
    obtain ⟨yv, hv⟩ : ∃ y, L[mb]? = some y := ⟨_, List.getElem?_eq_getElem (by omega)⟩
    have db := (hb1.cell (p := ⟨gB, oB + mb, none⟩) hgB).trans (hBB mb yv hv)
    have haib : (mb : Int) < (L.length : Int) := by omega
    have hgB' : gB < w1.heap.size := by omega
    have HE : Hid (R = oneR (yu == yv) 1) := Lib.hid (by
      rw [← hR, ← shR_same h]
      have hp : pickM L (kidsM x) = [yu, yv] := by
        rw [hkk]
        unfold pickM
        simp [List.getD, hma, hmb, hu, hv]
      rw [← hp]
      unfold nodeD
      rw [if_neg (by omega), if_neg (by omega), if_neg (by omega), if_neg (by omega), if_neg (by omega)])
    clear hu hka hv hkb hBB hkk
    clear hLl hR hgx hg hx hv1 hl1 hp1 hu1 hp hu hA hB hb1 hw1 hX
    obtain ⟨op, a, b, cc, n, nm⟩ := x
    simp only at h hma  hmb q0 q1 q2 q3 q5 a0 a1 a2 a3 a4 a5 HW1
    subst hma
    subst hmb
    rcases h with rfl | rfl
    all_goals
      go_enter Tryz.func86, Tryz.ntmps86
      go_wp2_with fail
      rw [HW1.out]
      go_wp2_with fail
      go_quiet ((go_at_call 101; exact Calls.quiet_of_same (one_any _ _ _)))
      go_wp2
      go_ret2
      exact two_of HE.out (Tr.below_drewN HB1.out _)
  have g7 := h
  clear h
  by_cases h : x.op = 19
  · clear hr g0 g1 g2 g3 g4 g5 g6 g7
    have hkk : kidsM x = [x.a, x.b] := by exact kidsM_bin x (by rw [h]; decide)
    obtain ⟨gB, oB, rfl, hgB, hBB⟩ := ints_base hB (by omega)
    have hka := hgx.ahead x.a (by rw [hkk]; simp)
    obtain ⟨ma, hma⟩ := Int.eq_ofNat_of_zero_le hka.1
    obtain ⟨yu, hu⟩ : ∃ y, L[ma]? = some y := ⟨_, List.getElem?_eq_getElem (by omega)⟩
    have da := (hb1.cell (p := ⟨gB, oB + ma, none⟩) hgB).trans (hBB ma yu hu)
    have haia : (ma : Int) < (L.length : Int) := by omega
    have hkb := hgx.ahead x.b (by rw [hkk]; simp)
    obtain ⟨mb, hmb⟩ := Int.eq_ofNat_of_zero_le hkb.1
    obtain ⟨yv, hv⟩ : ∃ y, L[mb]? = some y := ⟨_, List.getElem?_eq_getElem (by omega)⟩
    have db := (hb1.cell (p := ⟨gB, oB + mb, none⟩) hgB).trans (hBB mb yv hv)
    have haib : (mb : Int) < (L.length : Int) := by omega
    have hgB' : gB < w1.heap.size := by omega
    have HE : Hid (R = oneR (yu == yv) yu) := Lib.hid (by
      rw [← hR, ← shR_arrow yu yv, ← h]
      have hp : pickM L (kidsM x) = [yu, yv] := by
        rw [hkk]
        unfold pickM
        simp [List.getD, hma, hmb, hu, hv]
      rw [← hp]
      unfold nodeD
      rw [if_neg (by omega), if_neg (by omega), if_neg (by omega), if_neg (by omega), if_neg (by omega)])
    clear hu hka hv hkb hBB hkk
    clear hLl hR hgx hg hx hv1 hl1 hp1 hu1 hp hu hA hB hb1 hw1 hX
    obtain ⟨op, a, b, cc, n, nm⟩ := x
    simp only at h hma  hmb q0 q1 q2 q3 q5 a0 a1 a2 a3 a4 a5 HW1
    subst hma
    subst hmb
    subst h
    go_enter Tryz.func86, Tryz.ntmps86
    go_wp2_with fail
    rw [HW1.out]
    go_wp2_with fail
    go_quiet ((go_at_call 101; exact Calls.quiet_of_same (one_any _ _ _)))
    go_wp2
    go_ret2
    exact two_of HE.out (Tr.below_drewN HB1.out _)
  have g8 := h
  clear h
  by_cases h : x.op = 21
  · clear hr g0 g1 g2 g3 g4 g5 g6 g7 g8
    have hkk : kidsM x = [x.a] := by exact kids_unary x (by rw [h]; decide)
    obtain ⟨gB, oB, rfl, hgB, hBB⟩ := ints_base hB (by omega)
    have hka := hgx.ahead x.a (by rw [hkk]; simp)
    obtain ⟨ma, hma⟩ := Int.eq_ofNat_of_zero_le hka.1
    obtain ⟨yu, hu⟩ : ∃ y, L[ma]? = some y := ⟨_, List.getElem?_eq_getElem (by omega)⟩
    have da := (hb1.cell (p := ⟨gB, oB + ma, none⟩) hgB).trans (hBB ma yu hu)
    have haia : (ma : Int) < (L.length : Int) := by omega
    have hgB' : gB < w1.heap.size := by omega
    have HE : Hid (R = (yu, 0)) := Lib.hid (by
      rw [← hR, ← shR_pre yu, ← h]
      have hp : pickM L (kidsM x) = [yu] := by
        rw [hkk]
        unfold pickM
        simp [List.getD, hma, hu]
      rw [← hp]
      unfold nodeD
      rw [if_neg (by omega), if_neg (by omega), if_neg (by omega), if_neg (by omega), if_neg (by omega)])
    clear hu hka hBB hkk
    clear hLl hR hgx hg hx hv1 hl1 hp1 hu1 hp hu hA hB hb1 hw1 hX
    obtain ⟨op, a, b, cc, n, nm⟩ := x
    simp only at h hma q0 q1 q2 q3 q5 a0 a1 a2 a3 a4 a5 HW1
    subst hma
    subst h
    have da2 := da
    rw [← HW1.out] at da2
    simp only [ndC] at da2
    go_enter Tryz.func86, Tryz.ntmps86
    go_wp2
    first
      | (go_ret2; exact two_of HE.out (by have h := HB1.out; rw [← HW1.out] at h; exact h))
      | (go_quiet (fail); go_wp2; go_ret2; exact two_of HE.out (Tr.below_drewN (by have h := HB1.out; rw [← HW1.out] at h; exact h) _))
  have g9 := h
  clear h
  by_cases h : x.op = 26
  · clear hr g0 g1 g2 g3 g4 g5 g6 g7 g8 g9
    have hkk : kidsM x = [x.a, x.b, x.c] := by unfold kidsM; rw [h]; rfl
    obtain ⟨gB, oB, rfl, hgB, hBB⟩ := ints_base hB (by omega)
    have hka := hgx.ahead x.a (by rw [hkk]; simp)
    obtain ⟨ma, hma⟩ := Int.eq_ofNat_of_zero_le hka.1
    obtain ⟨yu, hu⟩ : ∃ y, L[ma]? = some y := ⟨_, List.getElem?_eq_getElem (by omega)⟩
    have da := (hb1.cell (p := ⟨gB, oB + ma, none⟩) hgB).trans (hBB ma yu hu)
    have haia : (ma : Int) < (L.length : Int) := by omega
    have hkb := hgx.ahead x.b (by rw [hkk]; simp)
    obtain ⟨mb, hmb⟩ := Int.eq_ofNat_of_zero_le hkb.1
    obtain ⟨yv, hv⟩ : ∃ y, L[mb]? = some y := ⟨_, List.getElem?_eq_getElem (by omega)⟩
    have db := (hb1.cell (p := ⟨gB, oB + mb, none⟩) hgB).trans (hBB mb yv hv)
    have haib : (mb : Int) < (L.length : Int) := by omega
    have hkc := hgx.ahead x.c (by rw [hkk]; simp)
    obtain ⟨mc, hmc⟩ := Int.eq_ofNat_of_zero_le hkc.1
    obtain ⟨yz, hz⟩ : ∃ y, L[mc]? = some y := ⟨_, List.getElem?_eq_getElem (by omega)⟩
    have dc := (hb1.cell (p := ⟨gB, oB + mc, none⟩) hgB).trans (hBB mc yz hz)
    have haic : (mc : Int) < (L.length : Int) := by omega
    have hgB' : gB < w1.heap.size := by omega
    have HE : Hid (R = oneR (yu == 1 && yv == yz) yv) := Lib.hid (by
      rw [← hR, ← shR_if yu yv yz, ← h]
      have hp : pickM L (kidsM x) = [yu, yv, yz] := by
        rw [hkk]
        unfold pickM
        simp [List.getD, hma, hmb, hmc, hu, hv, hz]
      rw [← hp]
      unfold nodeD
      rw [if_neg (by omega), if_neg (by omega), if_neg (by omega), if_neg (by omega), if_neg (by omega)])
    clear hu hka hv hkb hz hkc hBB hkk
    clear hLl hR hgx hg hx hv1 hl1 hp1 hu1 hp hu hA hB hb1 hw1 hX
    obtain ⟨op, a, b, cc, n, nm⟩ := x
    simp only at h hma  hmb  hmc q0 q1 q2 q3 q5 a0 a1 a2 a3 a4 a5 HW1
    subst hma
    subst hmb
    subst hmc
    subst h
    by_cases hu : yu = 1
    · have hub : (yu == 1) = true := by simp [hu]
      rw [hub] at HE
      clear hu
      simp only [Bool.true_and] at HE
      go_enter Tryz.func86, Tryz.ntmps86
      go_wp2_with fail
      rw [HW1.out]
      go_wp2_with fail
      go_quiet ((go_at_call 101; exact Calls.quiet_of_same (one_any _ _ _)))
      go_wp2
      go_ret2
      exact two_of HE.out (Tr.below_drewN HB1.out _)
    · have hub : (yu == 1) = false := by simp [hu]
      rw [hub] at HE
      clear hu
      simp only [Bool.false_and] at HE
      go_enter Tryz.func86, Tryz.ntmps86
      go_wp2_with fail
      rw [HW1.out]
      go_wp2_with fail
      go_quiet ((go_at_call 101; exact Calls.quiet_of_same (one_any _ _ _)))
      go_wp2
      go_ret2
      exact two_of HE.out (Tr.below_drewN HB1.out _)
  have g10 := h
  clear h
  have h : x.op = 4 ∨ x.op = 6 ∨ x.op = 7 ∨ x.op = 8 ∨ x.op = 9 ∨ x.op = 20 ∨ x.op = 22 ∨ x.op = 23 ∨ x.op = 24 ∨ x.op = 25 := by omega
  clear hr g0 g1 g2 g3 g4 g5 g6 g7 g8 g9 g10
  have HE : Hid (R = oneR (allW L (kidsM x) 1) 1) := Lib.hid (by
    rw [← hR, ← shR_truth h]
    unfold nodeD
    rw [if_neg (by omega), if_neg (by omega), if_neg (by omega), if_neg (by omega), if_neg (by omega)])
  have HC := Lib.hid (both_any _ _ e L i x 1 w1 hv1 hl1 hx (fun k hk => by have := hgx.ahead k hk; omega))
  obtain ⟨bb, hbb⟩ : ∃ b, allW L (kidsM x) 1 = b := ⟨_, rfl⟩
  rw [hbb] at HE HC
  have HBB := Lib.hid hbb
  clear hbb
  clear hLl hR hgx hg hx hv1 hl1 hp1 hu1 hp hu hA hB hb1 hw1 hX
  obtain ⟨op, a, b, cc, n, nm⟩ := x
  simp only at h HC q0 q1 q2 q3 q5 a0 a1 a2 a3 a4 a5 HW1
  rcases h with rfl | rfl | rfl | rfl | rfl | rfl | rfl | rfl | rfl | rfl
  all_goals
    go_enter Tryz.func86, Tryz.ntmps86
    go_wp2_with fail
    rw [HW1.out]
    go_wp2_with fail
    refine HC.out.mono ?_
    rintro r w2 ⟨rfl, hb2⟩
    have HB2 : Hid (Below w.heap.size w w2) := Lib.hid (HB1.out.trans (hb2.mono HB1.out.size))
    clear hb2
    go_wp2_with fail
    refine (one_any bb 1 w2).mono ?_
    rintro r w3 ⟨rfl, rfl⟩
    go_wp2
    go_ret2
    exact two_of HE.out HB2.out
end Go.Proofs.YtobkcdkffcenbaaGreatDoor.Ty

/- The document's Types and Of of layer types. Conditions: the streams, the units and the expression lie in memory. -/
namespace Go.Proofs.YtobkcdkffcenbaaGreatDoor.Ty
open Go.ChangeShapes Go.WideShapes Go.ChangeAt Go.RowKit
open Go.Proofs.YtobkcdkffcenbaaGreatDoor.Tr
open Go.Proofs.YtobkcdkffcenbaaGreatDoor.Pg (Prm Unt)
open Go.Proofs.YtobkcdkffcenbaaGreatDoor.Ow (PrmN UntN RowN rown_at rown_form)
def IntsErr (w : World) (l : List Nd) (E : Env) (e : Ending) (w' : World) : Prop :=
  (∃ (c : Int), e = .returned (.tuple #[.slice none 0 0, .int .i64 c]) ∧ c ≠ 0 ∧ tyM E l = (0, c) ∧ Below w.heap.size w w') ∨
  (∃ (v : Value) (L : List Int) (u : Int), e = .returned (.tuple #[v, .int .i64 0]) ∧ Ints w' v L ∧ L.length = l.length ∧ L[l.length - 1]? = some u ∧ tyM E l = (u, 0) ∧ Below w.heap.size w w')
set_option maxRecDepth 100000 in
set_option maxHeartbeats 8000000 in
theorem rtypes_any (v pv uv : Value) (l : List Nd) (ps : List Prm) (us : List Unt) (w : World) (hp : RowN 2 PrmN w ps pv) (hu : RowN 8 UntN w us uv) (hv : Nodes w v l) (hs : Short l) (hm : Tr.May l) (hnorm : normM l = l) :
    Calls Tryz.prog 65 #[v, pv, uv] w (IntsErr w l (envOf ps us)) := by
  have HP := Lib.hid hp
  have HU := Lib.hid hu
  have HNV := Lib.hid hv
  have HSH := Lib.hid hs
  have HNM := Lib.hid hm
  have HBAD : Hid (∀ (V : Nat → Ty) (k : Nat) (c : Int), k < l.length → OkTo (envOf ps us) l V k → tyT (envOf ps us) (tree l k) = .error c → tyM (envOf ps us) l = (0, c)) := Lib.hid (fun V k c h1 h2 h3 => by
    have h2' := h2
    rw [← hnorm] at h1 h2 h3
    exact of_bad (envOf ps us) hm V h1 h2 h3)
  have HGOOD : Hid (∀ (V : Nat → Ty), OkTo (envOf ps us) l V l.length → tyM (envOf ps us) l = ((V (l.length - 1)).1, 0)) := Lib.hid (fun V h => by
    have h' := of_good (envOf ps us) hm V (by rw [hnorm]; exact h)
    rw [hnorm] at h'
    exact h')
  obtain ⟨A1, c1, rfl, y1, y2, hA1⟩ := hv
  unfold maxLen at y2
  have HA1 := Lib.hid hA1
  obtain ⟨C, f, rfl, y5, y6, -⟩ := rown_form hp
  obtain ⟨D, d, rfl, y7, y8, -⟩ := rown_form hu
  unfold maxLen at y6 y8
  obtain ⟨i0, hi, hz0, hz1, hz2⟩ := info_parts info3
  have hn := hm.le
  have hpos := hm.pos
  obtain ⟨E, hE⟩ : ∃ E, envOf ps us = E := ⟨_, rfl⟩
  have HE0 := Lib.hid hE
  rw [hE] at HBAD HGOOD
  rw [hE]
  clear hp hu hA1 hs hm hnorm hE
  go_enter Tryz.func65, Tryz.ntmps65
  go_wp2_with (at_make; refine wpList_make_full _ rfl _ _ 72 rfl w.heap.size 3 i0 _ 1 Tryz.underlying72 hi hz0 hz1 _ _ _ _ l.length rfl rfl rfl rfl (by rw [hz2]; omega) (by unfold maxLen; omega) (Nat.le_refl _) ?_)
  intro w2 hown hgrow
  have hb2 : Below w.heap.size w w2 := (Below.refl _ _).grown hgrow (Nat.le_refl _) (fun k hk => by simp at hk)
  have hown0 : w2.ownsRow w.heap.size 3 1 (.slice (some ⟨w.heap.size, 0, none⟩) l.length l.length) l.length (intsOf (tyRow (fun _ => (0, [])) 0 l.length)) := by
    rw [tyRow_zero, ← made_ints]; exact hown
  have hz := (hown0.lt _ rfl).2
  have HO2 := Lib.hid hown0
  have HB2 := Lib.hid hb2
  clear hown hgrow hown0 hb2
  go_wp2
  go_loopw [9] (fun i wr => ∃ (k : Nat) (V : Nat → Ty), k ≤ l.length ∧ i = .int .i64 k ∧ wr.ownsRow w.heap.size 3 1 (.slice (some ⟨w.heap.size, 0, none⟩) l.length l.length) l.length (intsOf (tyRow V k l.length)) ∧ Below w.heap.size w wr ∧ w.heap.size < wr.heap.size ∧ OkTo E l V k) (fun i _ => l.length - (intOf i).toNat)
  case atStart => exact ⟨0, _, Nat.zero_le _, rfl, HO2.out, HB2.out, hz, fun j hj => by omega⟩
  case round =>
    obtain ⟨k, V, hk, rfl, hown, hb, hzr, hV⟩ := hrel
    have HV2 := Lib.hid hV
    have HBr := Lib.hid hb
    have HOr := Lib.hid hown
    by_cases hlt : k < l.length
    · obtain ⟨x, hx⟩ : ∃ x, l[k]? = some x := ⟨_, List.getElem?_eq_getElem hlt⟩
      have HC := Lib.hid (rnode_any (.slice A1 l.length c1) (.slice (some ⟨w.heap.size, 0, none⟩) l.length l.length) _ _ ps us l (tyRow V k l.length) k x wr (HP.out.below hb (PrmN.below hb)) (HU.out.below hb (UntN.below hb))
        (HNV.out.below hb (Nat.le_refl _)) (ints_own (tyRow_len _ _ _) hown) hx hn (tyRow_len _ _ _) HNM.out.node (HSH.out x (List.mem_of_getElem? hx)))
      rw [HE0.out, nodeD_tree E HNM.out V hx hV] at HC
      cases ht : tyT E (tree l k) with
      | error c0 =>
        rw [ht] at HC
        have hc0 : c0 = 8 ∨ c0 = 10 ∨ c0 = 14 := tyT_err E _ _ ht
        have hcb : (c0 != 0) = true := by simp; omega
        have hcz : c0 ≠ 0 := by omega
        have HE := Lib.hid (HBAD.out V k c0 hlt hV ht)
        simp only [ansY] at HC
        clear hx hown hb hV ht hc0
        go_wp2_with fail
        refine HC.out.mono ?_
        rintro r w4 ⟨rfl, hb4⟩
        have HB4 : Hid (Below w.heap.size w w4) := Lib.hid (HBr.out.trans (hb4.mono HBr.out.size))
        clear hb4
        go_wp2
        go_ret2
        exact Or.inl ⟨c0, rfl, hcz, HE.out, HB4.out⟩
      | ok t =>
        rw [ht] at HC
        simp only [ansY] at HC
        have HVN := Lib.hid (hV.next ht)
        obtain ⟨t1, ht1⟩ : ∃ t1, t.1 = t1 := ⟨_, rfl⟩
        have HNX := Lib.hid (tyRow_next V k l.length t hlt)
        rw [ht1] at HC HNX
        clear hx hown hb hV ht ht1
        go_wp2_with fail
        refine HC.out.mono ?_
        rintro r w4 ⟨rfl, hb4⟩
        have HB4 : Hid (Below w.heap.size w w4) := Lib.hid (HBr.out.trans (hb4.mono HBr.out.size))
        have ho4 := own_below HOr.out hb4
        have hs4 := hb4.size
        obtain ⟨z, hzz⟩ : ∃ z, (tyRow V k l.length)[k]? = some z := ⟨_, tyRow_get hlt⟩
        have e1 := (ho4.cellAt k (by omega)).trans (intsOf_get _ k z hzz)
        have f1 := ho4.frozenAt k
        have HO4 : Hid ((w4.setCell ⟨w.heap.size, k, none⟩ (.int .i64 t1)).ownsRow w.heap.size 3 1 (.slice (some ⟨w.heap.size, 0, none⟩) l.length l.length) l.length (intsOf (tyRow (upd V k t) (k + 1) l.length))) := Lib.hid (by
          rw [← HNX.out, intsOf_set]
          exact (ho4.stored k (.int .i64 t1)).1)
        clear hb4 ho4 hzz
        go_wp2
        refine ⟨⟨k + 1, upd V k t, by omega, by go_num, HO4.out, HB4.out.setCell (by simp) _, by simp [World.setCell]; omega, HVN.out⟩, by simp [intOf]; omega⟩
    · have hkl : k = l.length := by omega
      subst hkl
      have hll : l.length - 1 < l.length := by omega
      have hget : (tyRow V l.length l.length)[l.length - 1]? = some (V (l.length - 1)).1 := by rw [tyRow_get hll, if_pos hll]
      have HE := Lib.hid (HGOOD.out V hV)
      have HI := Lib.hid (ints_own (tyRow_len V l.length l.length) hown)
      have HG := Lib.hid hget
      clear hV hown hb hget
      go_wp2
      go_ret2
      exact Or.inr ⟨_, _, _, rfl, HI.out, tyRow_len _ _ _, HG.out, HE.out, HBr.out⟩
set_option maxRecDepth 100000 in
set_option maxHeartbeats 8000000 in
theorem rOf_any (v pv uv : Value) (e : List Nd) (ps : List Prm) (us : List Unt) (w : World) (hp : RowN 2 PrmN w ps pv) (hu : RowN 8 UntN w us uv) (hv : Nodes w v e) (hs : Short e) :
    Calls Tryz.prog 47 #[v, pv, uv] w (TwoPost w (tyM (envOf ps us) e)) := by
  have HV := Lib.hid hv
  have HP := Lib.hid hp
  have HU := Lib.hid hu
  obtain ⟨A, c, rfl, h1, h2, -⟩ := hv
  obtain ⟨C, f, rfl, y5, y6, -⟩ := rown_form hp
  obtain ⟨D, d, rfl, y7, y8, -⟩ := rown_form hu
  unfold maxLen at h2 y6 y8
  obtain ⟨B, hB⟩ : ∃ B, mayB e = B := ⟨_, rfl⟩
  have HM := Lib.hid hB
  have HE0 : Hid (B = false → tyM (envOf ps us) e = (0, 1)) := Lib.hid (fun h => of_not _ (by rw [hB, h]))
  have HN : Hid (B = true → Tr.May (normM e) ∧ normM (normM e) = normM e ∧ tyM (envOf ps us) (normM e) = tyM (envOf ps us) e ∧ Short (normM e) ∧ normB e = normM e) := Lib.hid (fun h => by
    have hmay := may_of (by rw [hB, h])
    exact ⟨hmay.norm, by unfold normM; rw [root_flat _ hmay.root_ok], tyM_normM _ hmay, short_normM hmay hs, sub_norm hmay⟩)
  obtain ⟨R, hR⟩ : ∃ R, tyM (envOf ps us) e = R := ⟨_, rfl⟩
  rw [hR] at HE0 HN
  rw [hR]
  clear hB hR hs hp hu
  cases B with
  | false =>
    have HE := Lib.hid (HE0.out rfl)
    clear HE0 HN
    go_enter Tryz.func47, Tryz.ntmps47
    go_wp2_with fail
    refine (rmay_lit _ e false _ HV.out HM.out).mono ?_
    rintro r w1 ⟨rfl, hb1⟩
    have HB1 := Lib.hid hb1
    clear hb1
    go_wp2
    go_ret2
    exact two_of HE.out HB1.out
  | true =>
    obtain ⟨n1, n2, n3, n4, n5⟩ := HN.out rfl
    have N1 := Lib.hid n1
    have N2 := Lib.hid n2
    have N3 := Lib.hid n3
    have N4 := Lib.hid n4
    have hpos := n1.pos
    have HNB : Hid (∀ W, Below w.heap.size w W → Calls Tryz.prog 27 #[.slice A e.length c] W (NodesPost W (normM e))) := Lib.hid (fun W h => by
      rw [← n5]; exact rnorm_any _ e W (HV.out.below h (Nat.le_refl _)))
    obtain ⟨l, hl⟩ : ∃ l, normM e = l := ⟨_, rfl⟩
    rw [hl] at N1 N2 N3 N4 HNB hpos
    clear HE0 HN n1 n2 n3 n4 n5 hl
    go_enter Tryz.func47, Tryz.ntmps47
    go_wp2_with fail
    refine (rmay_lit _ e true _ HV.out HM.out).mono ?_
    rintro r w1 ⟨rfl, hb1⟩
    have HB1 := Lib.hid hb1
    clear hb1
    go_wp2_with fail
    refine (HNB.out w1 HB1.out).mono ?_
    rintro r w2 ⟨ov, rfl, hown, hb2⟩
    have HB2 : Hid (Below w.heap.size w w2) := Lib.hid (HB1.out.trans (hb2.mono HB1.out.size))
    have HC := Lib.hid (rtypes_any ov (.slice C ps.length f) (.slice D us.length d) l ps us w2 (HP.out.below HB2.out (PrmN.below HB2.out)) (HU.out.below HB2.out (UntN.below HB2.out)) (Nodes.of_own hown) N4.out N1.out N2.out)
    obtain ⟨A2, c2, rfl, -⟩ := Nodes.of_own hown
    clear hown hb2
    go_wp2_with fail
    refine HC.out.mono ?_
    rintro r w3 h3
    rcases h3 with ⟨c0, rfl, hc0, ht, hb3⟩ | ⟨tv, L, u, rfl, hI, hL, hLu, ht, hb3⟩
    · have HB3 : Hid (Below w.heap.size w w3) := Lib.hid (HB2.out.trans (hb3.mono HB2.out.size))
      have HE : Hid (R = (0, c0)) := Lib.hid (by rw [← N3.out]; exact ht)
      have hcb : (c0 != 0) = true := by simpa using hc0
      clear hc0 ht hb3
      go_wp2
      go_ret2
      exact two_of HE.out HB3.out
    · have HB3 : Hid (Below w.heap.size w w3) := Lib.hid (HB2.out.trans (hb3.mono HB2.out.size))
      have HE : Hid (R = (u, 0)) := Lib.hid (by rw [← N3.out]; exact ht)
      obtain ⟨T, k, rfl, z1, z2, hT⟩ := hI
      obtain ⟨g, o, rfl, hg, d0⟩ := hT (l.length - 1) u hLu
      have e2 : (L.length : Int) - 1 = ((l.length - 1 : Nat) : Int) := by omega
      have e3 : (l.length : Int) - 1 < (L.length : Int) := by omega
      unfold maxLen at z2
      clear hT hLu ht hb3
      go_wp2
      go_ret2
      exact two_of HE.out HB3.out
end Go.Proofs.YtobkcdkffcenbaaGreatDoor.Ty

/- The document's want of layer types. Conditions: the streams, the units and the expression lie in memory. -/
namespace Go.Proofs.YtobkcdkffcenbaaGreatDoor.Ty
open Go.ChangeShapes Go.WideShapes Go.ChangeAt Go.RowKit
open Go.Proofs.YtobkcdkffcenbaaGreatDoor.Tr
open Go.Proofs.YtobkcdkffcenbaaGreatDoor.Pg (Prm Unt)
open Go.Proofs.YtobkcdkffcenbaaGreatDoor.Ow (PrmN UntN RowN rown_at rown_form)
noncomputable def wantM (E : Env) (e : List Nd) (t : Int) : Int := if (tyM E e).2 = 0 then (if (tyM E e).1 = t then 0 else 10) else (tyM E e).2
def OnePost (w : World) (c : Int) (e : Ending) (w' : World) : Prop := e = .returned (.int .i64 c) ∧ Below w.heap.size w w'
theorem one_of {w w' : World} {a c : Int} (h : c = a) (hb : Below w.heap.size w w') : OnePost w c (.returned (.int .i64 a)) w' := by subst h; exact ⟨rfl, hb⟩
set_option maxRecDepth 100000 in
set_option maxHeartbeats 4000000 in
theorem rwant_any (v pv uv : Value) (e : List Nd) (ps : List Prm) (us : List Unt) (t : Int) (w : World) (hp : RowN 2 PrmN w ps pv) (hu : RowN 8 UntN w us uv) (hv : Nodes w v e) (hs : Short e) :
    Calls Tryz.prog 20 #[v, pv, uv, .int .i64 t] w (OnePost w (wantM (envOf ps us) e t)) := by
  have HC := Lib.hid (rOf_any v pv uv e ps us w hp hu hv hs)
  obtain ⟨A, c, rfl, h1, h2, -⟩ := hv
  obtain ⟨C, f, rfl, y5, y6, -⟩ := rown_form hp
  obtain ⟨D, d, rfl, y7, y8, -⟩ := rown_form hu
  unfold maxLen at h2 y6 y8
  obtain ⟨R, hR⟩ : ∃ R, wantM (envOf ps us) e t = R := ⟨_, rfl⟩
  have HR := Lib.hid hR
  unfold wantM at HR
  rw [hR]
  obtain ⟨⟨a, b⟩, hab⟩ : ∃ y, tyM (envOf ps us) e = y := ⟨_, rfl⟩
  rw [hab] at HC HR
  simp only at HC HR
  clear hR hab hp hu hs
  go_enter Tryz.func20, Tryz.ntmps20
  go_wp2_with fail
  refine HC.out.mono ?_
  rintro r w1 ⟨rfl, hb1⟩
  have HB1 := Lib.hid hb1
  clear hb1
  by_cases hb : b = 0
  · subst hb
    by_cases ha : a = t
    · have e1 : (a != t) = false := by simp [ha]
      have HE : Hid (R = 0) := Lib.hid (by rw [← HR.out, if_pos rfl, if_pos ha])
      clear ha
      go_wp2
      go_ret
      exact one_of HE.out HB1.out
    · have e1 : (a != t) = true := by simpa using ha
      have HE : Hid (R = 10) := Lib.hid (by rw [← HR.out, if_pos rfl, if_neg ha])
      clear ha
      go_wp2
      go_ret
      exact one_of HE.out HB1.out
  · have e1 : (b == 0) = false := by simpa using hb
    have HE : Hid (R = b) := Lib.hid (by rw [← HR.out, if_neg hb])
    clear hb
    go_wp2
    go_ret
    exact one_of HE.out HB1.out
end Go.Proofs.YtobkcdkffcenbaaGreatDoor.Ty

/- Rows of streams put one behind the other; what a call of Of answers in a law. Conditions: the rows lie in memory. -/
namespace Go.Proofs.YtobkcdkffcenbaaGreatDoor.Ty
open Go.ChangeShapes Go.WideShapes Go.ChangeAt Go.RowKit
open Go.Proofs.YtobkcdkffcenbaaGreatDoor.Tr
open Go.Proofs.YtobkcdkffcenbaaGreatDoor.Pg (Prm Unt)
open Go.Proofs.YtobkcdkffcenbaaGreatDoor.Ow (PrmN UntN RowN rown_at rown_form)
theorem append_prms {w : World} {ops : Array Oper} {rest : List Oper} {o : Oper} {a : Act} {Q : Exit → Act → World → Prop} (hgd : o.guard = none) (s x : Operand)
    (ho : o.op = .call { callee := .builtin .append, args := #[s, x], argTypes := #[33, 33] })
    (base : Nat) (v : Value) (l0 l : List Prm) (A : Option Addr) (c : Nat) (hs : a.eval s = v) (hown : w.ownsRow base 45 2 v l0.length (prmsOf l0)) (hx : a.eval x = .slice A l.length c) (hrow : RowN 2 PrmN w l (.slice A l.length c)) (hn : l0.length + l.length ≤ 100000) (hb : base ≤ w.heap.size)
    (h : ∀ v' w', w'.ownsRow base 45 2 v' (l0 ++ l).length (prmsOf (l0 ++ l)) → Below base w w' → wpList Tryz.prog ops Q rest (a.put o.dst v') w') : wpList Tryz.prog ops Q (o :: rest) a w := by
  obtain ⟨i0, hi, hz0, hz1, hz2⟩ := info_parts infoPrm
  cases A with
  | none =>
    have hl0 : l = [] := by
      cases hl : l with
      | nil => rfl
      | cons p r =>
        obtain ⟨g, o, c', x, hv, -⟩ := rown_at hrow (i := 0) (a := p) (by rw [hl]; rfl)
        simp at hv
    subst hl0
    exact append_none hgd s x 33 ho base 45 i0 2 Tryz.underlying33 hi v l0.length _ hs hown c hx (h v w (by rw [List.append_nil]; exact hown) (Below.refl _ _))
  | some ad =>
    refine wpList_append_own w hgd s x 33 ho base 45 i0 _ 2 24 Tryz.underlying33 hi hz0 hz1 hz2 rfl (by decide) v l0.length (prmsOf l0) hs hown ad l.length c (prmsOf l) hx (prms_len l) (prm_news hrow) (prms_one l) (by unfold maxLen; omega) (by omega) hb ?_
    intro v' w' ho' hg _
    exact h v' w' (by rw [List.length_append, prms_app]; exact ho') ((Below.refl _ _).grown hg hb (fun j hj => (hown.lt j hj).1))
theorem rown_zero {α : Type} (K : Nat) (R : World → α → List Value → Prop) (w : World) : RowN K R w [] (.slice none 0 0) := ⟨none, 0, rfl, Nat.le_refl _, by unfold maxLen; omega, fun i a h => by simp at h⟩
end Go.Proofs.YtobkcdkffcenbaaGreatDoor.Ty

/- The document's streams of a unit. Conditions: the unit lies in memory. -/
namespace Go.Proofs.YtobkcdkffcenbaaGreatDoor.Ty
open Go.ChangeShapes Go.WideShapes Go.ChangeAt Go.RowKit
open Go.Proofs.YtobkcdkffcenbaaGreatDoor.Tr
open Go.Proofs.YtobkcdkffcenbaaGreatDoor.Pg (Prm Unt)
open Go.Proofs.YtobkcdkffcenbaaGreatDoor.Ow (PrmN UntN RowN rown_at rown_form)
theorem one_row {w : World} {g : Nat} {p : Prm} (hX : w.heap[g]? = some (.cells #[.string (str p.name), .int .i64 p.ty] 45 (0, 0))) (hs : p.name.length ≤ maxLen) : RowN 2 PrmN w [p] (.slice (some ⟨g, 0, none⟩) 1 1) := by
  refine ⟨some ⟨g, 0, none⟩, 1, rfl, by simp, by unfold maxLen; omega, fun i a ha => ?_⟩
  match i, ha with
  | 0, ha =>
    simp at ha; subst ha
    refine ⟨g, 0, _, rfl, lt_of_block hX, ⟨rfl, hs⟩, rfl, fun k hk => ?_⟩
    rw [cells_at hX]
    match k, hk with
    | 0, _ => rfl
    | 1, _ => rfl
  | i + 1, ha => simp at ha
theorem own_form {w : World} {b T k n : Nat} {v : Value} {cs : List Value} (h : w.ownsRow b T k v n cs) : ∃ A c, v = .slice A n c := by
  rcases h.2 with ⟨rfl, h0⟩ | ⟨g, c, cur, rfl, -⟩
  · exact ⟨none, 0, by rw [h0]⟩
  · exact ⟨_, _, rfl⟩
def OwnPost (w : World) (l : List Prm) (e : Ending) (w' : World) : Prop := ∃ v, e = .returned v ∧ w'.ownsRow w.heap.size 45 2 v l.length (prmsOf l) ∧ Below w.heap.size w w'
set_option maxRecDepth 100000 in
set_option maxHeartbeats 8000000 in
theorem rstreams_any (u : Unt) (x : List Value) (w : World) (hu : UntN w u x) (h1 : u.ins.length ≤ 1000) (h2 : u.vars.length ≤ 1000) : Calls Tryz.prog 18 #[.agg x.toArray] w (OwnPost w (streamsM u)) := by
  obtain ⟨iv, vv, qv, lv, rfl, u1, u2, u3, u4, hs, hso⟩ := hu
  have U1 := Lib.hid u1
  have U2 := Lib.hid u2
  obtain ⟨Ai, ci, rfl, i1, i2, -⟩ := rown_form u1
  obtain ⟨Av, cv, rfl, -, -, -⟩ := rown_form u2
  obtain ⟨Aq, cq, rfl, -, -, -⟩ := rown_form u3
  obtain ⟨Al, cl, rfl, -, -, -⟩ := rown_form u4
  clear u1 u2 u3 u4
  obtain ⟨w1, hw1⟩ : ∃ W, w.alloc (.cells #[.bool u.contract, .string (str u.name), .slice Ai u.ins.length ci, .string (str u.out.name), .int .i64 u.out.ty, .slice Av u.vars.length cv, .slice Aq u.eqs.length cq, .slice Al u.items.length cl] 49) = W := ⟨_, rfl⟩
  have hb1 : Below w.heap.size w w1 := hw1 ▸ below_new w _
  have n1 : w1.heap.size = w.heap.size + 1 := by rw [← hw1]; simp
  have hX : w1.heap[w.heap.size]? = some (.cells #[.bool u.contract, .string (str u.name), .slice Ai u.ins.length ci, .string (str u.out.name), .int .i64 u.out.ty, .slice Av u.vars.length cv, .slice Aq u.eqs.length cq, .slice Al u.items.length cl] 49 (0, 0)) := by rw [← hw1]; exact heap_alloc_new w _
  have HX := Lib.hid hX
  have q0 : w1.cell? ⟨w.heap.size, 2, none⟩ = some (.slice Ai u.ins.length ci) := (cells_at hX 2).trans rfl
  have HB1 := Lib.hid hb1
  have HU1 := Lib.hid (U1.out.below hb1 (Ow.PrmN.below hb1))
  have HOWN : Hid (w1.ownsRow w1.heap.size 45 2 (.slice none 0 0) ([] : List Prm).length (prmsOf [])) := Lib.hid (World.ownsRow_nil _ _ _ _)
  have HSH : Hid (∀ p ∈ u.ins ++ [u.out] ++ u.vars, p.name.length ≤ maxLen) := Lib.hid (fun p hp => by
    simp at hp
    rcases hp with hp | rfl | hp
    · exact names_short U1.out p hp
    · exact hso
    · exact names_short U2.out p hp)
  have HSO := Lib.hid hso
  have lX : w.heap.size < w1.heap.size := by omega
  obtain ⟨B, hB⟩ : ∃ B, u.contract = B := ⟨_, rfl⟩
  have HE : Hid (streamsM u = if B = true then u.ins else u.ins ++ [u.out] ++ u.vars) := Lib.hid (by unfold streamsM; rw [hB])
  rw [hB] at hw1 HX hX
  obtain ⟨R, hR⟩ : ∃ R, streamsM u = R := ⟨_, rfl⟩
  rw [hR] at HE
  rw [hR, hB]
  clear hX hb1 hso hB hR n1
  go_enter Tryz.func18, Tryz.ntmps18
  go_wp2_with (at_builtin; refine append_prms rfl (.tmp 4) (.tmp 6) rfl w1.heap.size _ [] u.ins Ai ci rfl HOWN.out rfl HU1.out (by simp; omega) (Nat.le_refl _) ?_)
  intro v2 w2 ho2 hb2
  have HO2 : Hid (w2.ownsRow w1.heap.size 45 2 v2 u.ins.length (prmsOf u.ins)) := Lib.hid (by simpa using ho2)
  have HB2 := Lib.hid hb2
  have hX2 := (hb2.block _ lX).trans HX.out
  have q1 : w2.cell? ⟨w.heap.size, 0, none⟩ = some (.bool B) := (cells_at hX2 0).trans rfl
  have q2 : w2.cell? ⟨w.heap.size, 3, none⟩ = some (.string (str u.out.name)) := (cells_at hX2 3).trans rfl
  have q3 : w2.cell? ⟨w.heap.size, 4, none⟩ = some (.int .i64 u.out.ty) := (cells_at hX2 4).trans rfl
  have HX2 := Lib.hid hX2
  have hs2 := hb2.size
  clear ho2 hb2 hX2 hw1
  obtain ⟨A2, c2, rfl⟩ := own_form HO2.out
  by_cases hBB : B = true
  · have hnb : (!B) = false := by simp [hBB]
    have HRR : Hid (R = u.ins) := Lib.hid (by rw [HE.out, if_pos hBB])
    clear hBB
    go_wp2
    go_ret
    rw [HRR.out]
    exact ⟨_, rfl, own_base HO2.out HB1.out.size, HB1.out.trans (HB2.out.mono HB1.out.size)⟩
  · have hnb : (!B) = true := by simpa using hBB
    have HRR : Hid (R = u.ins ++ [u.out] ++ u.vars) := Lib.hid (by rw [HE.out, if_neg hBB])
    clear hBB
    obtain ⟨w3, hw3⟩ : ∃ W, w2.alloc (.cells #[.string (str u.out.name), .int .i64 u.out.ty] 45) = W := ⟨_, rfl⟩
    have hb3 : Below w2.heap.size w2 w3 := hw3 ▸ below_new w2 _
    have HONE := Lib.hid (one_row (p := u.out) (w := w3) (g := w2.heap.size) (by rw [← hw3]; exact heap_alloc_new w2 _) HSO.out)
    have HO3 : Hid (w3.ownsRow w1.heap.size 45 2 (.slice A2 u.ins.length c2) u.ins.length (prmsOf u.ins)) := Lib.hid (own_below HO2.out hb3)
    have HB3 : Hid (Below w1.heap.size w1 w3) := Lib.hid (HB2.out.trans (hb3.mono hs2))
    have hs3 : w1.heap.size ≤ w3.heap.size := by have := hb3.size; omega
    have HU3 := Lib.hid (U2.out.below (HB1.out.trans (HB3.out.mono HB1.out.size)) (Ow.PrmN.below (HB1.out.trans (HB3.out.mono HB1.out.size))))
    have HX3 := Lib.hid ((hb3.block _ (by omega)).trans HX2.out)
    clear hb3
    go_wp2_with (at_builtin; refine append_prms rfl (.tmp 11) (.tmp 14) rfl w1.heap.size _ u.ins [u.out] (some ⟨w2.heap.size, 0, none⟩) 1 rfl HO3.out rfl HONE.out (by simp; omega) hs3 ?_)
    intro v4 w4 ho4 hb4
    obtain ⟨l1, hl1⟩ : ∃ l, u.ins ++ [u.out] = l := ⟨_, rfl⟩
    have HLEN : Hid (l1.length = u.ins.length + 1) := Lib.hid (by rw [← hl1]; simp)
    rw [hl1] at ho4
    have HL1 := Lib.hid hl1
    obtain ⟨A4, c4, rfl⟩ := own_form ho4
    have HO4 : Hid (w4.ownsRow w1.heap.size 45 2 (.slice A4 (u.ins.length + 1) c4) l1.length (prmsOf l1)) := Lib.hid (by rw [HLEN.out]; exact ho4)
    have HB4 : Hid (Below w1.heap.size w1 w4) := Lib.hid (HB3.out.trans hb4)
    have hX4 := (hb4.block _ lX).trans HX3.out
    have q5 : w4.cell? ⟨w.heap.size, 5, none⟩ = some (.slice Av u.vars.length cv) := (cells_at hX4 5).trans rfl
    have hbw4 : Below w.heap.size w w4 := HB1.out.trans (HB4.out.mono HB1.out.size)
    have HU4 := Lib.hid (U2.out.below hbw4 (Ow.PrmN.below hbw4))
    have hs4 := HB4.out.size
    clear ho4 hb4 hX4 hbw4 hw3 hl1
    go_wp2_with (at_builtin; refine append_prms rfl (.tmp 16) (.tmp 18) rfl w1.heap.size _ l1 u.vars Av cv rfl HO4.out rfl HU4.out (by have := HLEN.out; omega) hs4 ?_)
    intro v5 w5 ho5 hb5
    obtain ⟨l2, hl2⟩ : ∃ l, l1 ++ u.vars = l := ⟨_, rfl⟩
    rw [hl2] at ho5
    have HL2 := Lib.hid hl2
    have HL5 : Hid (l2.length = l1.length + u.vars.length) := Lib.hid (by rw [← hl2, List.length_append])
    obtain ⟨A5, c5, rfl⟩ := own_form ho5
    have HO5 : Hid (w5.ownsRow w1.heap.size 45 2 (.slice A5 (l1.length + u.vars.length) c5) l2.length (prmsOf l2)) := Lib.hid (by rw [HL5.out]; exact ho5)
    have HB5 : Hid (Below w1.heap.size w1 w5) := Lib.hid (HB4.out.trans hb5)
    clear ho5 hb5 hl2
    go_wp2
    go_ret
    rw [HRR.out, HL1.out, HL2.out]
    exact ⟨.slice A5 (l1.length + u.vars.length) c5, rfl, own_base HO5.out HB1.out.size, HB1.out.trans (HB5.out.mono HB1.out.size)⟩
end Go.Proofs.YtobkcdkffcenbaaGreatDoor.Ty

/- The document's want is the program's is; one more stream behind. Conditions: none. -/
namespace Go.Proofs.YtobkcdkffcenbaaGreatDoor.Ty
open Go.Proofs.YtobkcdkffcenbaaGreatDoor.Tr
open Go.Proofs.YtobkcdkffcenbaaGreatDoor.Pg (Prm Unt)
theorem want_is (E : Env) (e : List Nd) (t : Int) : wantM E e t = isM E e t := by
  unfold wantM isM
  by_cases h : (tyM E e).2 = 0 <;> by_cases h2 : (tyM E e).1 = t <;> simp [h, h2]
theorem str_snoc (l : List Prm) (p : Prm) : strOf (l ++ [p]) = addF (strOf l) p := by
  have h := strOf_next (l ++ [p]) l.length p (by simp)
  rw [List.take_of_length_le (by simp), List.take_left] at h
  exact h
end Go.Proofs.YtobkcdkffcenbaaGreatDoor.Ty

