/- The document's function node of layer types, its other operators. Conditions: the expression may be. -/
import Derived.Test.YtlhcajhgbkgjbaaGreatDoorSa19
import Derived.Test.YtlhcajhgbkgjbaaGreatDoorSa05
set_option linter.unusedVariables false
set_option linter.unusedSimpArgs false
namespace Go.Proofs.YtlhcajhgbkgjbaaGreatDoor.Ty
open Go.ChangeShapes Go.WideShapes Go.ChangeAt Go.RowKit
open Tr
open Pg (Prm Unt)
open Go.Proofs.YtlhcajhgbkgjbaaGreatDoor.Ow (PrmN UntN RowN kav rown_form)
theorem keb {w : World} {A : Option Addr} {L : List Int} (h : ∀ (i : Nat) (x : Int), L[i]? = some x -> ∃ g o, A = some ⟨g, o, none⟩ /\ g < w.heap.size /\ w.cell? ⟨g, o + i, none⟩ = some (.int .i64 x)) (hL : 0 < L.length) :
 ∃ g o, A = some ⟨g, o, none⟩ /\ g < w.heap.size /\ ∀ (m : Nat) (x : Int), L[m]? = some x -> w.cell? ⟨g, o + m, none⟩ = some (.int .i64 x) := by
 obtain ⟨g, o, rfl, hg, _⟩ := h 0 L[0] (List.getElem?_eq_getElem hL)
 refine ⟨g, o, rfl, hg, fun m x hm => ?_⟩
 obtain ⟨g', o', he, _, hc⟩ := h m x hm
 cases he
 exact hc
set_option maxRecDepth 100000 in
set_option maxHeartbeats 80000000 in
theorem kl4 (v tv pv uv : Value) (l : List Prm) (us : List Unt) (e : List Nd) (L : List Int) (i : Nat) (x : Nd) (w : World) (hp : RowN 2 PrmN w l pv) (hu : RowN 8 UntN w us uv) (hv : Nodes w v e) (hl : Ints w tv L) (hx : e[i]? = some x) (he : e.length <= 5000) (hLl : L.length = e.length)
 (hg : ∀ i x, e[i]? = some x -> Tr.Good e i x) (hs : x.name.length <= maxLen) : Calls Tryz.prog 51 #[v, .int .i64 (i : Int), tv, pv, uv] w (kbt w (kdx (kcp l us) e L x)) := by
 have hil := (List.getElem?_eq_some_iff.1 hx).1
 have hgx := hg i x hx
 obtain ⟨R, hR⟩ : ∃ R, kdx (kcp l us) e L x = R := ⟨_, rfl⟩
 rw [hR]
 obtain ⟨w1, hw1⟩ : ∃ W, w.alloc (.cells (ndC x) 39) = W := ⟨_, rfl⟩
 have hb1 : Below w.heap.size w w1 := hw1 ▸ below_new w _
 have hX : w1.heap[w.heap.size]? = some (.cells (ndC x) 39 (0, 0)) := hw1 ▸ heap_alloc_new w _
 have q0 : w1.cell? ⟨w.heap.size, 0, none⟩ = some (.int .i64 x.op) := (ka3 hX 0).trans rfl
 have q1 : w1.cell? ⟨w.heap.size, 1, none⟩ = some (.int .i64 x.a) := (ka3 hX 1).trans rfl
 have q2 : w1.cell? ⟨w.heap.size, 2, none⟩ = some (.int .i64 x.b) := (ka3 hX 2).trans rfl
 have q3 : w1.cell? ⟨w.heap.size, 3, none⟩ = some (.int .i64 x.c) := (ka3 hX 3).trans rfl
 have q5 : w1.cell? ⟨w.heap.size, 5, none⟩ = some (.string (str x.name)) := (ka3 hX 5).trans rfl
 have HB1 := Lib.hid hb1
 have HW1 := Lib.hid hw1
 have hv1 := hv.below hb1 (Nat.le_refl _)
 have hl1 := hl.below hb1 (Nat.le_refl _)
 have hp1 := hp.below hb1 (PrmN.below hb1)
 have hu1 := hu.below hb1 (UntN.below hb1)
 obtain ⟨A, c, hve, y1, y2, hA⟩ := hv
 subst hve
 obtain ⟨B, d, hte, y3, y4, hB⟩ := hl
 subst hte
 obtain ⟨C, f, hpe, y5, y6, -⟩ := rown_form hp
 subst hpe
 obtain ⟨D, k, hue, y7, y8, -⟩ := rown_form hu
 subst hue
 unfold maxLen at y2 y4 y6 y8
 obtain ⟨g, o, rfl, hgl, a0, a1, a2, a3, a4, a5⟩ := hA i x hx
 have lz : w.heap.size < w1.heap.size := lt_of_block hX
 have hili : (i : Int) < (e.length : Int) := by omega
 have hr : 1 <= x.op /\ x.op <= 28 := by
  have h := hgx.plain
  rw [kci] at h
  simp only [Bool.and_eq_true, decide_eq_true_eq] at h
  exact h.1
 by_cases h : x.op = 1
 · clear hr
   have HE : Hid (R = (2, 0)) := Lib.hid (by rw [<- hR]; unfold kdx; rw [h]; rfl)
   clear hLl hR hgx hg hx hv1 hl1 hp1 hu1 hp hu hA hB hb1 hw1 hX
   obtain ⟨op, a, b, cc, n, nm⟩ := x
   simp only at h q0 q1 q2 q3 q5 a0 a1 a2 a3 a4 a5 HW1
   subst h
   go_enter Tryz.func51, Tryz.ntmps51
   go_wp2_with fail
   rw [HW1.out]
   go_wp2
   go_ret2
   exact kaQ HE.out HB1.out
 have g0 := h
 clear h
 by_cases h : x.op = 2
 · clear hr g0
   have HE : Hid (R = (1, 0)) := Lib.hid (by rw [<- hR]; unfold kdx; rw [h]; rfl)
   clear hLl hR hgx hg hx hv1 hl1 hp1 hu1 hp hu hA hB hb1 hw1 hX
   obtain ⟨op, a, b, cc, n, nm⟩ := x
   simp only at h q0 q1 q2 q3 q5 a0 a1 a2 a3 a4 a5 HW1
   subst h
   go_enter Tryz.func51, Tryz.ntmps51
   go_wp2_with fail
   rw [HW1.out]
   go_wp2
   go_ret2
   exact kaQ HE.out HB1.out
 have g1 := h
 clear h
 by_cases h : x.op = 28
 · clear hr g0 g1
   have HE : Hid (R = (0, 0)) := Lib.hid (by rw [<- hR]; unfold kdx; rw [h]; rfl)
   clear hLl hR hgx hg hx hv1 hl1 hp1 hu1 hp hu hA hB hb1 hw1 hX
   obtain ⟨op, a, b, cc, n, nm⟩ := x
   simp only at h q0 q1 q2 q3 q5 a0 a1 a2 a3 a4 a5 HW1
   subst h
   go_enter Tryz.func51, Tryz.ntmps51
   go_wp2_with fail
   rw [HW1.out]
   go_wp2
   go_ret2
   exact kaQ HE.out HB1.out
 have g2 := h
 clear h
 by_cases h : x.op = 3
 · clear hr g0 g1 g2
   have HE : Hid (R = strR (strOf l x.name)) := Lib.hid (by rw [<- hR]; unfold kdx; rw [h]; rfl)
   have HC := Lib.hid (ki7 _ l x.name w1 hp1)
   clear hLl hR hgx hg hx hv1 hl1 hp1 hu1 hp hu hA hB hb1 hw1 hX
   obtain ⟨op, a, b, cc, n, nm⟩ := x
   simp only at h HE HC q0 q1 q2 q3 q5 a0 a1 a2 a3 a4 a5 HW1
   subst h
   cases hst : strOf l nm with
   | none =>
    rw [hst] at HC HE
    simp only [strB, strR] at HC HE
    clear hst
    go_enter Tryz.func51, Tryz.ntmps51
    go_wp2_with fail
    rw [HW1.out]
    go_wp2_with fail
    refine HC.out.mono ?_
    rintro r w2 ⟨rfl, rfl⟩
    go_wp2
    go_ret2
    exact kaQ HE.out HB1.out
   | some t =>
    rw [hst] at HC HE
    simp only [strB, strR] at HC HE
    clear hst
    go_enter Tryz.func51, Tryz.ntmps51
    go_wp2_with fail
    rw [HW1.out]
    go_wp2_with fail
    refine HC.out.mono ?_
    rintro r w2 ⟨rfl, rfl⟩
    go_wp2
    go_ret2
    exact kaQ HE.out HB1.out
 have g3 := h
 clear h
 by_cases h : x.op = 27
 · clear hr g0 g1 g2 g3
   have HC := Lib.hid (klh _ _ _ e L us i x w1 hv1 hl1 hu1 he (by omega) hg hx h hs)
   rw [show keh (kcK us x.name) (kaN L (kaI e x.a)) = R by rw [<- hR]; unfold kdx; rw [h]; rfl] at HC
   obtain ⟨r1, r2⟩ := R
   clear hLl hR hgx hg hx hv1 hl1 hp1 hu1 hp hu hA hB hb1 hw1 hX
   obtain ⟨op, a, b, cc, n, nm⟩ := x
   simp only at h HC q0 q1 q2 q3 q5 a0 a1 a2 a3 a4 a5 HW1
   subst h
   go_enter Tryz.func51, Tryz.ntmps51
   go_wp2_with fail
   rw [HW1.out]
   go_wp2_with fail
   refine HC.out.mono ?_
   rintro r w2 ⟨rfl, hb2⟩
   have HB2 : Hid (Below w.heap.size w w2) := Lib.hid (HB1.out.trans (hb2.mono HB1.out.size))
   clear hb2
   go_wp2
   go_ret2
   exact ⟨rfl, HB2.out⟩
 have g4 := h
 clear h
 by_cases h : x.op = 5 ∨ x.op = 14 ∨ x.op = 15 ∨ x.op = 16 ∨ x.op = 17 ∨ x.op = 18
 · clear hr g0 g1 g2 g3 g4
   have HE : Hid (R = oneR (allW L (ka5 x) 2) 2) := Lib.hid (by
    rw [<- hR, <- kl1 h]
    unfold kdx
    rw [if_neg (by omega), if_neg (by omega), if_neg (by omega), if_neg (by omega), if_neg (by omega)])
   have HC := Lib.hid (kgL _ _ e L i x 2 w1 hv1 hl1 hx (fun k hk => by have := hgx.ahead k hk; omega))
   obtain ⟨bb, hbb⟩ : ∃ b, allW L (ka5 x) 2 = b := ⟨_, rfl⟩
   rw [hbb] at HE HC
   have HBB := Lib.hid hbb
   clear hbb
   clear hLl hR hgx hg hx hv1 hl1 hp1 hu1 hp hu hA hB hb1 hw1 hX
   obtain ⟨op, a, b, cc, n, nm⟩ := x
   simp only at h HC q0 q1 q2 q3 q5 a0 a1 a2 a3 a4 a5 HW1
   rcases h with rfl | rfl | rfl | rfl | rfl | rfl
   all_goals
    go_enter Tryz.func51, Tryz.ntmps51
    go_wp2_with fail
    rw [HW1.out]
    go_wp2_with fail
    refine HC.out.mono ?_
    rintro r w2 ⟨rfl, hb2⟩
    have HB2 : Hid (Below w.heap.size w w2) := Lib.hid (HB1.out.trans (hb2.mono HB1.out.size))
    clear hb2
    go_wp2_with fail
    refine (kdI bb 2 w2).mono ?_
    rintro r w3 ⟨rfl, rfl⟩
    go_wp2
    go_ret2
    exact kaQ HE.out HB2.out
 have g5 := h
 clear h
 by_cases h : x.op = 12 ∨ x.op = 13
 · clear hr g0 g1 g2 g3 g4 g5
   have HE : Hid (R = oneR (allW L (ka5 x) 2) 1) := Lib.hid (by
    rw [<- hR, <- kn0 h]
    unfold kdx
    rw [if_neg (by omega), if_neg (by omega), if_neg (by omega), if_neg (by omega), if_neg (by omega)])
   have HC := Lib.hid (kgL _ _ e L i x 2 w1 hv1 hl1 hx (fun k hk => by have := hgx.ahead k hk; omega))
   obtain ⟨bb, hbb⟩ : ∃ b, allW L (ka5 x) 2 = b := ⟨_, rfl⟩
   rw [hbb] at HE HC
   have HBB := Lib.hid hbb
   clear hbb
   clear hLl hR hgx hg hx hv1 hl1 hp1 hu1 hp hu hA hB hb1 hw1 hX
   obtain ⟨op, a, b, cc, n, nm⟩ := x
   simp only at h HC q0 q1 q2 q3 q5 a0 a1 a2 a3 a4 a5 HW1
   rcases h with rfl | rfl
   all_goals
    go_enter Tryz.func51, Tryz.ntmps51
    go_wp2_with fail
    rw [HW1.out]
    go_wp2_with fail
    refine HC.out.mono ?_
    rintro r w2 ⟨rfl, hb2⟩
    have HB2 : Hid (Below w.heap.size w w2) := Lib.hid (HB1.out.trans (hb2.mono HB1.out.size))
    clear hb2
    go_wp2_with fail
    refine (kdI bb 1 w2).mono ?_
    rintro r w3 ⟨rfl, rfl⟩
    go_wp2
    go_ret2
    exact kaQ HE.out HB2.out
 have g6 := h
 clear h
 by_cases h : x.op = 10 ∨ x.op = 11
 · clear hr g0 g1 g2 g3 g4 g5 g6
   have hkk : ka5 x = [x.a, x.b] := by exact kdg x (by rcases h with h | h <;> rw [h] <;> decide)
   obtain ⟨gB, oB, rfl, hgB, hBB⟩ := keb hB (by omega)
   have hka := hgx.ahead x.a (by rw [hkk]; simp)
   obtain ⟨ma, hma⟩ := Int.eq_ofNat_of_zero_le hka.1
   obtain ⟨yu, hu⟩ : ∃ y, L[ma]? = some y := ⟨_, List.getElem?_eq_getElem (by omega)⟩
   have da := (hb1.cell (p := ⟨gB, oB + ma, none⟩) hgB).trans (hBB ma yu hu)
   have haia : (ma : Int) < (L.length : Int) := by omega
   have hkb := hgx.ahead x.b (by rw [hkk]; simp)
   obtain ⟨mb, hmb⟩ := Int.eq_ofNat_of_zero_le hkb.1
   obtain ⟨yv, hv⟩ : ∃ y, L[mb]? = some y := ⟨_, List.getElem?_eq_getElem (by omega)⟩
   have db := (hb1.cell (p := ⟨gB, oB + mb, none⟩) hgB).trans (hBB mb yv hv)
   have haib : (mb : Int) < (L.length : Int) := by omega
   have hgB' : gB < w1.heap.size := by omega
   have HE : Hid (R = oneR (yu == yv) 1) := Lib.hid (by
    rw [<- hR, <- kmZ h]
    have hp : kaN L (ka5 x) = [yu, yv] := by
     rw [hkk]
     unfold kaN
     simp [List.getD, hma, hmb, hu, hv]
    rw [<- hp]
    unfold kdx
    rw [if_neg (by omega), if_neg (by omega), if_neg (by omega), if_neg (by omega), if_neg (by omega)])
   clear hu hka hv hkb hBB hkk
   clear hLl hR hgx hg hx hv1 hl1 hp1 hu1 hp hu hA hB hb1 hw1 hX
   obtain ⟨op, a, b, cc, n, nm⟩ := x
   simp only at h hma  hmb q0 q1 q2 q3 q5 a0 a1 a2 a3 a4 a5 HW1
   subst hma
   subst hmb
   rcases h with rfl | rfl
   all_goals
    go_enter Tryz.func51, Tryz.ntmps51
    go_wp2_with fail
    rw [HW1.out]
    go_wp2_with fail
    go_quiet ((go_at_call 77; exact Calls.quiet_of_same (kdI _ _ _)))
    go_wp2
    go_ret2
    exact kaQ HE.out (Tr.below_drewN HB1.out _)
 have g7 := h
 clear h
 by_cases h : x.op = 19
 · clear hr g0 g1 g2 g3 g4 g5 g6 g7
   have hkk : ka5 x = [x.a, x.b] := by exact kdg x (by rw [h]; decide)
   obtain ⟨gB, oB, rfl, hgB, hBB⟩ := keb hB (by omega)
   have hka := hgx.ahead x.a (by rw [hkk]; simp)
   obtain ⟨ma, hma⟩ := Int.eq_ofNat_of_zero_le hka.1
   obtain ⟨yu, hu⟩ : ∃ y, L[ma]? = some y := ⟨_, List.getElem?_eq_getElem (by omega)⟩
   have da := (hb1.cell (p := ⟨gB, oB + ma, none⟩) hgB).trans (hBB ma yu hu)
   have haia : (ma : Int) < (L.length : Int) := by omega
   have hkb := hgx.ahead x.b (by rw [hkk]; simp)
   obtain ⟨mb, hmb⟩ := Int.eq_ofNat_of_zero_le hkb.1
   obtain ⟨yv, hv⟩ : ∃ y, L[mb]? = some y := ⟨_, List.getElem?_eq_getElem (by omega)⟩
   have db := (hb1.cell (p := ⟨gB, oB + mb, none⟩) hgB).trans (hBB mb yv hv)
   have haib : (mb : Int) < (L.length : Int) := by omega
   have hgB' : gB < w1.heap.size := by omega
   have HE : Hid (R = oneR (yu == yv) yu) := Lib.hid (by
    rw [<- hR, <- kl0 yu yv, <- h]
    have hp : kaN L (ka5 x) = [yu, yv] := by
     rw [hkk]
     unfold kaN
     simp [List.getD, hma, hmb, hu, hv]
    rw [<- hp]
    unfold kdx
    rw [if_neg (by omega), if_neg (by omega), if_neg (by omega), if_neg (by omega), if_neg (by omega)])
   clear hu hka hv hkb hBB hkk
   clear hLl hR hgx hg hx hv1 hl1 hp1 hu1 hp hu hA hB hb1 hw1 hX
   obtain ⟨op, a, b, cc, n, nm⟩ := x
   simp only at h hma  hmb q0 q1 q2 q3 q5 a0 a1 a2 a3 a4 a5 HW1
   subst hma
   subst hmb
   subst h
   go_enter Tryz.func51, Tryz.ntmps51
   go_wp2_with fail
   rw [HW1.out]
   go_wp2_with fail
   go_quiet ((go_at_call 77; exact Calls.quiet_of_same (kdI _ _ _)))
   go_wp2
   go_ret2
   exact kaQ HE.out (Tr.below_drewN HB1.out _)
 have g8 := h
 clear h
 by_cases h : x.op = 21
 · clear hr g0 g1 g2 g3 g4 g5 g6 g7 g8
   have hkk : ka5 x = [x.a] := by exact kfT x (by rw [h]; decide)
   obtain ⟨gB, oB, rfl, hgB, hBB⟩ := keb hB (by omega)
   have hka := hgx.ahead x.a (by rw [hkk]; simp)
   obtain ⟨ma, hma⟩ := Int.eq_ofNat_of_zero_le hka.1
   obtain ⟨yu, hu⟩ : ∃ y, L[ma]? = some y := ⟨_, List.getElem?_eq_getElem (by omega)⟩
   have da := (hb1.cell (p := ⟨gB, oB + ma, none⟩) hgB).trans (hBB ma yu hu)
   have haia : (ma : Int) < (L.length : Int) := by omega
   have hgB' : gB < w1.heap.size := by omega
   have HE : Hid (R = (yu, 0)) := Lib.hid (by
    rw [<- hR, <- koW yu, <- h]
    have hp : kaN L (ka5 x) = [yu] := by
     rw [hkk]
     unfold kaN
     simp [List.getD, hma, hu]
    rw [<- hp]
    unfold kdx
    rw [if_neg (by omega), if_neg (by omega), if_neg (by omega), if_neg (by omega), if_neg (by omega)])
   clear hu hka hBB hkk
   clear hLl hR hgx hg hx hv1 hl1 hp1 hu1 hp hu hA hB hb1 hw1 hX
   obtain ⟨op, a, b, cc, n, nm⟩ := x
   simp only at h hma q0 q1 q2 q3 q5 a0 a1 a2 a3 a4 a5 HW1
   subst hma
   subst h
   have da2 := da
   rw [<- HW1.out] at da2
   simp only [ndC] at da2
   go_enter Tryz.func51, Tryz.ntmps51
   go_wp2
   first
    | (go_ret2; exact kaQ HE.out (by have h := HB1.out; rw [<- HW1.out] at h; exact h))
    | (go_quiet (fail); go_wp2; go_ret2; exact kaQ HE.out (Tr.below_drewN (by have h := HB1.out; rw [<- HW1.out] at h; exact h) _))
 have g9 := h
 clear h
 by_cases h : x.op = 26
 · clear hr g0 g1 g2 g3 g4 g5 g6 g7 g8 g9
   have hkk : ka5 x = [x.a, x.b, x.c] := by unfold ka5; rw [h]; rfl
   obtain ⟨gB, oB, rfl, hgB, hBB⟩ := keb hB (by omega)
   have hka := hgx.ahead x.a (by rw [hkk]; simp)
   obtain ⟨ma, hma⟩ := Int.eq_ofNat_of_zero_le hka.1
   obtain ⟨yu, hu⟩ : ∃ y, L[ma]? = some y := ⟨_, List.getElem?_eq_getElem (by omega)⟩
   have da := (hb1.cell (p := ⟨gB, oB + ma, none⟩) hgB).trans (hBB ma yu hu)
   have haia : (ma : Int) < (L.length : Int) := by omega
   have hkb := hgx.ahead x.b (by rw [hkk]; simp)
   obtain ⟨mb, hmb⟩ := Int.eq_ofNat_of_zero_le hkb.1
   obtain ⟨yv, hv⟩ : ∃ y, L[mb]? = some y := ⟨_, List.getElem?_eq_getElem (by omega)⟩
   have db := (hb1.cell (p := ⟨gB, oB + mb, none⟩) hgB).trans (hBB mb yv hv)
   have haib : (mb : Int) < (L.length : Int) := by omega
   have hkc := hgx.ahead x.c (by rw [hkk]; simp)
   obtain ⟨mc, hmc⟩ := Int.eq_ofNat_of_zero_le hkc.1
   obtain ⟨yz, hz⟩ : ∃ y, L[mc]? = some y := ⟨_, List.getElem?_eq_getElem (by omega)⟩
   have dc := (hb1.cell (p := ⟨gB, oB + mc, none⟩) hgB).trans (hBB mc yz hz)
   have haic : (mc : Int) < (L.length : Int) := by omega
   have hgB' : gB < w1.heap.size := by omega
   have HE : Hid (R = oneR (yu == 1 && yv == yz) yv) := Lib.hid (by
    rw [<- hR, <- kq8 yu yv yz, <- h]
    have hp : kaN L (ka5 x) = [yu, yv, yz] := by
     rw [hkk]
     unfold kaN
     simp [List.getD, hma, hmb, hmc, hu, hv, hz]
    rw [<- hp]
    unfold kdx
    rw [if_neg (by omega), if_neg (by omega), if_neg (by omega), if_neg (by omega), if_neg (by omega)])
   clear hu hka hv hkb hz hkc hBB hkk
   clear hLl hR hgx hg hx hv1 hl1 hp1 hu1 hp hu hA hB hb1 hw1 hX
   obtain ⟨op, a, b, cc, n, nm⟩ := x
   simp only at h hma  hmb  hmc q0 q1 q2 q3 q5 a0 a1 a2 a3 a4 a5 HW1
   subst hma
   subst hmb
   subst hmc
   subst h
   by_cases hu : yu = 1
   · have hub : (yu == 1) = true := by simp [hu]
     rw [hub] at HE
     clear hu
     simp only [Bool.true_and] at HE
     go_enter Tryz.func51, Tryz.ntmps51
     go_wp2_with fail
     rw [HW1.out]
     go_wp2_with fail
     go_quiet ((go_at_call 77; exact Calls.quiet_of_same (kdI _ _ _)))
     go_wp2
     go_ret2
     exact kaQ HE.out (Tr.below_drewN HB1.out _)
   · have hub : (yu == 1) = false := by simp [hu]
     rw [hub] at HE
     clear hu
     simp only [Bool.false_and] at HE
     go_enter Tryz.func51, Tryz.ntmps51
     go_wp2_with fail
     rw [HW1.out]
     go_wp2_with fail
     go_quiet ((go_at_call 77; exact Calls.quiet_of_same (kdI _ _ _)))
     go_wp2
     go_ret2
     exact kaQ HE.out (Tr.below_drewN HB1.out _)
 have g10 := h
 clear h
 have h : x.op = 4 ∨ x.op = 6 ∨ x.op = 7 ∨ x.op = 8 ∨ x.op = 9 ∨ x.op = 20 ∨ x.op = 22 ∨ x.op = 23 ∨ x.op = 24 ∨ x.op = 25 := by omega
 clear hr g0 g1 g2 g3 g4 g5 g6 g7 g8 g9 g10
 have HE : Hid (R = oneR (allW L (ka5 x) 1) 1) := Lib.hid (by
  rw [<- hR, <- kkZ h]
  unfold kdx
  rw [if_neg (by omega), if_neg (by omega), if_neg (by omega), if_neg (by omega), if_neg (by omega)])
 have HC := Lib.hid (kgL _ _ e L i x 1 w1 hv1 hl1 hx (fun k hk => by have := hgx.ahead k hk; omega))
 obtain ⟨bb, hbb⟩ : ∃ b, allW L (ka5 x) 1 = b := ⟨_, rfl⟩
 rw [hbb] at HE HC
 have HBB := Lib.hid hbb
 clear hbb
 clear hLl hR hgx hg hx hv1 hl1 hp1 hu1 hp hu hA hB hb1 hw1 hX
 obtain ⟨op, a, b, cc, n, nm⟩ := x
 simp only at h HC q0 q1 q2 q3 q5 a0 a1 a2 a3 a4 a5 HW1
 rcases h with rfl | rfl | rfl | rfl | rfl | rfl | rfl | rfl | rfl | rfl
 all_goals
  go_enter Tryz.func51, Tryz.ntmps51
  go_wp2_with fail
  rw [HW1.out]
  go_wp2_with fail
  refine HC.out.mono ?_
  rintro r w2 ⟨rfl, hb2⟩
  have HB2 : Hid (Below w.heap.size w w2) := Lib.hid (HB1.out.trans (hb2.mono HB1.out.size))
  clear hb2
  go_wp2_with fail
  refine (kdI bb 1 w2).mono ?_
  rintro r w3 ⟨rfl, rfl⟩
  go_wp2
  go_ret2
  exact kaQ HE.out HB2.out
end Go.Proofs.YtlhcajhgbkgjbaaGreatDoor.Ty

/- The document's Types and Of of layer types. Conditions: the streams, the units and the expression lie in memory. -/
namespace Go.Proofs.YtlhcajhgbkgjbaaGreatDoor.Ty
open Go.ChangeShapes Go.WideShapes Go.ChangeAt Go.RowKit
open Tr
open Pg (Prm Unt)
open Go.Proofs.YtlhcajhgbkgjbaaGreatDoor.Ow (PrmN UntN RowN kav rown_form)
def kpV (w : World) (l : List Nd) (E : Env) (e : Ending) (w' : World) : Prop :=
 (∃ (c : Int), e = .returned (.tuple #[.slice none 0 0, .int .i64 c]) /\ c ≠ 0 /\ tyM E l = (0, c) /\ Below w.heap.size w w') ∨
 (∃ (v : Value) (L : List Int) (u : Int), e = .returned (.tuple #[v, .int .i64 0]) /\ Ints w' v L /\ L.length = l.length /\ L[l.length - 1]? = some u /\ tyM E l = (u, 0) /\ Below w.heap.size w w')
set_option maxRecDepth 100000 in
set_option maxHeartbeats 8000000 in
theorem kjN (v pv uv : Value) (l : List Nd) (ps : List Prm) (us : List Unt) (w : World) (hp : RowN 2 PrmN w ps pv) (hu : RowN 8 UntN w us uv) (hv : Nodes w v l) (hs : Short l) (hm : Tr.May l) (hnorm : kbn l = l) :
 Calls Tryz.prog 23 #[v, pv, uv] w (kpV w l (kcp ps us)) := by
 have HP := Lib.hid hp
 have HU := Lib.hid hu
 have HNV := Lib.hid hv
 have HSH := Lib.hid hs
 have HNM := Lib.hid hm
 have HBAD : Hid (∀ (V : Nat -> Ty) (k : Nat) (c : Int), k < l.length -> OkTo (kcp ps us) l V k -> tyT (kcp ps us) (tree l k) = .error c -> tyM (kcp ps us) l = (0, c)) := Lib.hid (fun V k c h1 h2 h3 => by
  have h2' := h2
  rw [<- hnorm] at h1 h2 h3
  exact kou (kcp ps us) hm V h1 h2 h3)
 have HGOOD : Hid (∀ (V : Nat -> Ty), OkTo (kcp ps us) l V l.length -> tyM (kcp ps us) l = ((V (l.length - 1)).1, 0)) := Lib.hid (fun V h => by
  have h' := kly (kcp ps us) hm V (by rw [hnorm]; exact h)
  rw [hnorm] at h'
  exact h')
 obtain ⟨A1, c1, rfl, y1, y2, hA1⟩ := hv
 unfold maxLen at y2
 have HA1 := Lib.hid hA1
 obtain ⟨C, f, rfl, y5, y6, -⟩ := rown_form hp
 obtain ⟨D, d, rfl, y7, y8, -⟩ := rown_form hu
 unfold maxLen at y6 y8
 obtain ⟨i0, hi, hz0, hz1, hz2⟩ := info_parts info3
 have hn := hm.le
 have hpos := hm.pos
 obtain ⟨E, hE⟩ : ∃ E, kcp ps us = E := ⟨_, rfl⟩
 have HE0 := Lib.hid hE
 rw [hE] at HBAD HGOOD
 rw [hE]
 clear hp hu hA1 hs hm hnorm hE
 go_enter Tryz.func23, Tryz.ntmps23
 go_wp2_with (at_make; refine wpList_make_full _ rfl _ _ 69 rfl w.heap.size 3 i0 _ 1 Tryz.underlying69 hi hz0 hz1 _ _ _ _ l.length rfl rfl rfl rfl (by rw [hz2]; omega) (by unfold maxLen; omega) (Nat.le_refl _) ?_)
 intro w2 hown hgrow
 have hb2 : Below w.heap.size w w2 := (Below.refl _ _).grown hgrow (Nat.le_refl _) (fun k hk => by simp at hk)
 have hown0 : w2.ownsRow w.heap.size 3 1 (.slice (some ⟨w.heap.size, 0, none⟩) l.length l.length) l.length (intsOf (kce (fun _ => (0, [])) 0 l.length)) := by
  rw [kfH, <- kbF]; exact hown
 have hz := (hown0.lt _ rfl).2
 have HO2 := Lib.hid hown0
 have HB2 := Lib.hid hb2
 clear hown hgrow hown0 hb2
 go_wp2
 go_loopw [9] (fun i wr => ∃ (k : Nat) (V : Nat -> Ty), k <= l.length /\ i = .int .i64 k /\ wr.ownsRow w.heap.size 3 1 (.slice (some ⟨w.heap.size, 0, none⟩) l.length l.length) l.length (intsOf (kce V k l.length)) /\ Below w.heap.size w wr /\ w.heap.size < wr.heap.size /\ OkTo E l V k) (fun i _ => l.length - (intOf i).toNat)
 case atStart => exact ⟨0, _, Nat.zero_le _, rfl, HO2.out, HB2.out, hz, fun j hj => by omega⟩
 case round =>
  obtain ⟨k, V, hk, rfl, hown, hb, hzr, hV⟩ := hrel
  have HV2 := Lib.hid hV
  have HBr := Lib.hid hb
  have HOr := Lib.hid hown
  by_cases hlt : k < l.length
  · obtain ⟨x, hx⟩ : ∃ x, l[k]? = some x := ⟨_, List.getElem?_eq_getElem hlt⟩
    have HC := Lib.hid (kl4 (.slice A1 l.length c1) (.slice (some ⟨w.heap.size, 0, none⟩) l.length l.length) _ _ ps us l (kce V k l.length) k x wr (HP.out.below hb (PrmN.below hb)) (HU.out.below hb (UntN.below hb))
     (HNV.out.below hb (Nat.le_refl _)) (kgw (kbq _ _ _) hown) hx hn (kbq _ _ _) HNM.out.node (HSH.out x (List.mem_of_getElem? hx)))
    rw [HE0.out, kke E HNM.out V hx hV] at HC
    cases ht : tyT E (tree l k) with
    | error c0 =>
     rw [ht] at HC
     have hc0 : c0 = 8 ∨ c0 = 10 ∨ c0 = 14 := kda E _ _ ht
     have hcb : (c0 != 0) = true := by simp; omega
     have hcz : c0 ≠ 0 := by omega
     have HE := Lib.hid (HBAD.out V k c0 hlt hV ht)
     simp only [ansY] at HC
     clear hx hown hb hV ht hc0
     go_wp2_with fail
     refine HC.out.mono ?_
     rintro r w4 ⟨rfl, hb4⟩
     have HB4 : Hid (Below w.heap.size w w4) := Lib.hid (HBr.out.trans (hb4.mono HBr.out.size))
     clear hb4
     go_wp2
     go_ret2
     exact Or.inl ⟨c0, rfl, hcz, HE.out, HB4.out⟩
    | ok t =>
     rw [ht] at HC
     simp only [ansY] at HC
     have HVN := Lib.hid (hV.next ht)
     obtain ⟨t1, ht1⟩ : ∃ t1, t.1 = t1 := ⟨_, rfl⟩
     have HNX := Lib.hid (kfI V k l.length t hlt)
     rw [ht1] at HC HNX
     clear hx hown hb hV ht ht1
     go_wp2_with fail
     refine HC.out.mono ?_
     rintro r w4 ⟨rfl, hb4⟩
     have HB4 : Hid (Below w.heap.size w w4) := Lib.hid (HBr.out.trans (hb4.mono HBr.out.size))
     have ho4 := own_below HOr.out hb4
     have hs4 := hb4.size
     obtain ⟨z, hzz⟩ : ∃ z, (kce V k l.length)[k]? = some z := ⟨_, kbX hlt⟩
     have e1 := (ho4.cellAt k (by omega)).trans (kaB _ k z hzz)
     have f1 := ho4.frozenAt k
     have HO4 : Hid ((w4.setCell ⟨w.heap.size, k, none⟩ (.int .i64 t1)).ownsRow w.heap.size 3 1 (.slice (some ⟨w.heap.size, 0, none⟩) l.length l.length) l.length (intsOf (kce (upd V k t) (k + 1) l.length))) := Lib.hid (by
      rw [<- HNX.out, kb3]
      exact (ho4.stored k (.int .i64 t1)).1)
     clear hb4 ho4 hzz
     go_wp2
     refine ⟨⟨k + 1, upd V k t, by omega, by go_num, HO4.out, HB4.out.setCell (by simp) _, by simp [World.setCell]; omega, HVN.out⟩, by simp [intOf]; omega⟩
  · have hkl : k = l.length := by omega
    subst hkl
    have hll : l.length - 1 < l.length := by omega
    have hget : (kce V l.length l.length)[l.length - 1]? = some (V (l.length - 1)).1 := by rw [kbX hll, if_pos hll]
    have HE := Lib.hid (HGOOD.out V hV)
    have HI := Lib.hid (kgw (kbq V l.length l.length) hown)
    have HG := Lib.hid hget
    clear hV hown hb hget
    go_wp2
    go_ret2
    exact Or.inr ⟨_, _, _, rfl, HI.out, kbq _ _ _, HG.out, HE.out, HBr.out⟩
set_option maxRecDepth 100000 in
set_option maxHeartbeats 8000000 in
theorem kp2 (v pv uv : Value) (e : List Nd) (ps : List Prm) (us : List Unt) (w : World) (hp : RowN 2 PrmN w ps pv) (hu : RowN 8 UntN w us uv) (hv : Nodes w v e) (hs : Short e) :
 Calls Tryz.prog 10 #[v, pv, uv] w (kbt w (tyM (kcp ps us) e)) := by
 have HV := Lib.hid hv
 have HP := Lib.hid hp
 have HU := Lib.hid hu
 obtain ⟨A, c, rfl, h1, h2, -⟩ := hv
 obtain ⟨C, f, rfl, y5, y6, -⟩ := rown_form hp
 obtain ⟨D, d, rfl, y7, y8, -⟩ := rown_form hu
 unfold maxLen at h2 y6 y8
 obtain ⟨B, hB⟩ : ∃ B, mayB e = B := ⟨_, rfl⟩
 have HM := Lib.hid hB
 have HE0 : Hid (B = false -> tyM (kcp ps us) e = (0, 1)) := Lib.hid (fun h => klx _ (by rw [hB, h]))
 have HN : Hid (B = true -> Tr.May (kbn e) /\ kbn (kbn e) = kbn e /\ tyM (kcp ps us) (kbn e) = tyM (kcp ps us) e /\ Short (kbn e) /\ klz e = kbn e) := Lib.hid (fun h => by
  have hmay := kjj (by rw [hB, h])
  exact ⟨hmay.norm, by unfold kbn; rw [root_flat _ hmay.root_ok], keY _ hmay, kf4 hmay hs, kj8 hmay⟩)
 obtain ⟨R, hR⟩ : ∃ R, tyM (kcp ps us) e = R := ⟨_, rfl⟩
 rw [hR] at HE0 HN
 rw [hR]
 clear hB hR hs hp hu
 cases B with
 | false =>
  have HE := Lib.hid (HE0.out rfl)
  clear HE0 HN
  go_enter Tryz.func10, Tryz.ntmps10
  go_wp2_with fail
  refine (kdp _ e false _ HV.out HM.out).mono ?_
  rintro r w1 ⟨rfl, hb1⟩
  have HB1 := Lib.hid hb1
  clear hb1
  go_wp2
  go_ret2
  exact kaQ HE.out HB1.out
 | true =>
  obtain ⟨n1, n2, n3, n4, n5⟩ := HN.out rfl
  have N1 := Lib.hid n1
  have N2 := Lib.hid n2
  have N3 := Lib.hid n3
  have N4 := Lib.hid n4
  have hpos := n1.pos
  have HNB : Hid (∀ W, Below w.heap.size w W -> Calls Tryz.prog 14 #[.slice A e.length c] W (NodesPost W (kbn e))) := Lib.hid (fun W h => by
   rw [<- n5]; exact kl3 _ e W (HV.out.below h (Nat.le_refl _)))
  obtain ⟨l, hl⟩ : ∃ l, kbn e = l := ⟨_, rfl⟩
  rw [hl] at N1 N2 N3 N4 HNB hpos
  clear HE0 HN n1 n2 n3 n4 n5 hl
  go_enter Tryz.func10, Tryz.ntmps10
  go_wp2_with fail
  refine (kdp _ e true _ HV.out HM.out).mono ?_
  rintro r w1 ⟨rfl, hb1⟩
  have HB1 := Lib.hid hb1
  clear hb1
  go_wp2_with fail
  refine (HNB.out w1 HB1.out).mono ?_
  rintro r w2 ⟨ov, rfl, hown, hb2⟩
  have HB2 : Hid (Below w.heap.size w w2) := Lib.hid (HB1.out.trans (hb2.mono HB1.out.size))
  have HC := Lib.hid (kjN ov (.slice C ps.length f) (.slice D us.length d) l ps us w2 (HP.out.below HB2.out (PrmN.below HB2.out)) (HU.out.below HB2.out (UntN.below HB2.out)) (Nodes.of_own hown) N4.out N1.out N2.out)
  obtain ⟨A2, c2, rfl, -⟩ := Nodes.of_own hown
  clear hown hb2
  go_wp2_with fail
  refine HC.out.mono ?_
  rintro r w3 h3
  rcases h3 with ⟨c0, rfl, hc0, ht, hb3⟩ | ⟨tv, L, u, rfl, hI, hL, hLu, ht, hb3⟩
  · have HB3 : Hid (Below w.heap.size w w3) := Lib.hid (HB2.out.trans (hb3.mono HB2.out.size))
    have HE : Hid (R = (0, c0)) := Lib.hid (by rw [<- N3.out]; exact ht)
    have hcb : (c0 != 0) = true := by simpa using hc0
    clear hc0 ht hb3
    go_wp2
    go_ret2
    exact kaQ HE.out HB3.out
  · have HB3 : Hid (Below w.heap.size w w3) := Lib.hid (HB2.out.trans (hb3.mono HB2.out.size))
    have HE : Hid (R = (u, 0)) := Lib.hid (by rw [<- N3.out]; exact ht)
    obtain ⟨T, k, rfl, z1, z2, hT⟩ := hI
    obtain ⟨g, o, rfl, hg, d0⟩ := hT (l.length - 1) u hLu
    have e2 : (L.length : Int) - 1 = ((l.length - 1 : Nat) : Int) := by omega
    have e3 : (l.length : Int) - 1 < (L.length : Int) := by omega
    unfold maxLen at z2
    clear hT hLu ht hb3
    go_wp2
    go_ret2
    exact kaQ HE.out HB3.out
end Go.Proofs.YtlhcajhgbkgjbaaGreatDoor.Ty

