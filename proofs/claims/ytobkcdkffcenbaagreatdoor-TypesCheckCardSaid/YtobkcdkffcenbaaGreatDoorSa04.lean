/- Layer types: the type of a node by those ahead. Conditions: the maps and the table lie in memory, the expression may be. -/
import Derived.Test.YtobkcdkffcenbaaGreatDoorSa03
import Derived.Deep.RegionHeld3
import Derived.Test.YtobkcdkffcenbaaGreatDoorCa01
import Derived.Laws.CopyOwn
import Derived.Test.YtobkcdkffcenbaaGreatDoorCa07
import Derived.Test.YtobkcdkffcenbaaGreatDoorCa10
import Derived.Deep.RegionLaw
import Derived.Deep.AppendLies
set_option linter.unusedVariables false
set_option linter.unusedSimpArgs false
namespace Go.Proofs.YtobkcdkffcenbaaGreatDoor.Ty
open Go.ChangeShapes Go.WideShapes Go.ChangeAt Go.RowKit
open Go.Proofs.YtobkcdkffcenbaaGreatDoor.Tr
set_option maxRecDepth 100000 in
set_option maxHeartbeats 8000000 in
theorem node_27 (sv nv tv wv : Value) (n1 n2 : Nat) (E : Env) (e : List Nd) (L : List Int) (i : Nat) (x : Nd) (w : World) (hS : StrAt w sv n1 E.str) (hN : NodAt w nv n2 E.nod) (hT : ShAt w) (hv : Nodes w wv e) (hl : Ints w tv L) (hx : e[i]? = some x) (he : e.length ≤ 5000) (hLl : L.length = e.length)
    (hg : ∀ i x, e[i]? = some x → Tr.Good e i x) (hs : x.name.length ≤ maxLen) (h3 : x.op ≠ 3) (h27 : x.op = 27) : Calls Tryz.prog 49 #[.agg #[sv, nv], .agg (ndC x), wv, tv] w (TwoPost w (nodeR E e L x)) := by
  have hil := (List.getElem?_eq_some_iff.1 hx).1
  have hgx := hg i x hx
  obtain ⟨R, hR⟩ : ∃ R, nodeR E e L x = R := ⟨_, rfl⟩
  rw [hR]
  have hop : 1 ≤ x.op ∧ x.op ≤ 28 := by
    have := hgx.plain
    unfold plainB at this
    simp at this
    exact this.1.1.1
  obtain ⟨w1, hw1⟩ : ∃ W, (w.alloc (.cells #[sv, nv] 60)).alloc (.cells (ndC x) 70) = W := ⟨_, rfl⟩
  have N := news_two w (.cells #[sv, nv] 60) (.cells (ndC x) 70)
  rw [hw1] at N
  have hb1 := N.1
  have lt1 := lt_of_block N.2.1
  have lt2 := lt_of_block N.2.2
  have HX : Hid (∀ W, Below w1.heap.size w1 W → (W.cell? ⟨w.heap.size, 0, none⟩ = some sv ∧ W.cell? ⟨w.heap.size, 1, none⟩ = some nv ∧ W.cell? ⟨w.heap.size + 1, 0, none⟩ = some (.int .i64 x.op) ∧ W.cell? ⟨w.heap.size + 1, 1, none⟩ = some (.int .i64 x.a) ∧ W.cell? ⟨w.heap.size + 1, 2, none⟩ = some (.int .i64 x.b) ∧ W.cell? ⟨w.heap.size + 1, 3, none⟩ = some (.int .i64 x.c) ∧ W.cell? ⟨w.heap.size + 1, 4, none⟩ = some (.int .i64 x.n) ∧ W.cell? ⟨w.heap.size + 1, 5, none⟩ = some (.string (str x.name)))) := Lib.hid (fun W h => by
    have h1 := (h.block _ lt1).trans N.2.1
    have h2 := (h.block _ lt2).trans N.2.2
    exact ⟨(cells_at h1 0).trans rfl, (cells_at h1 1).trans rfl, (cells_at h2 0).trans rfl, (cells_at h2 1).trans rfl, (cells_at h2 2).trans rfl, (cells_at h2 3).trans rfl, (cells_at h2 4).trans rfl, (cells_at h2 5).trans rfl⟩)
  have HBW : Hid (∀ W, Below w1.heap.size w1 W → Below w.heap.size w W) := Lib.hid (fun W h => hb1.trans (h.mono hb1.size))
  have HP : Hid (∀ W kv N, Below w1.heap.size w1 W → Ints W kv N → (∀ k ∈ N, 0 ≤ k ∧ k < (L.length : Int)) → N.length ≤ 5000 → Calls Tryz.prog 72 #[tv, kv] W (IntsP w1 (pickM L N))) := Lib.hid (fun W kv N h hk h2 h3 => (picked_any tv kv L N W (hl.below (HBW.out W h) (Nat.le_refl _)) hk h2 (by omega)).mono (fun r W' hh => ints_p h hh))
  obtain ⟨AW, cW, hwe, y1, y2, -⟩ := id hv
  obtain ⟨AT, cT, hte, y3, y4, -⟩ := id hl
  unfold maxLen at y2 y4
  have HW1 := Lib.hid hw1
  have HB1 := Lib.hid hb1
  obtain ⟨q0, q1, q2, q3, q4, q5, q6, q7⟩ := HX.out w1 (Below.refl _ _)
  have b3 : (x.op == 3) = false := by simpa using h3
  have hia := call_args hgx h27
  have HA : Hid (∀ W, Below w1.heap.size w1 W → Calls Tryz.prog 73 #[wv, .agg (ndC x)] W (IntsP w1 (argsAt e x.a))) := Lib.hid (fun W h => (arguments_any wv e x i W (hv.below (HBW.out W h) (Nat.le_refl _)) he hg (by omega) hia).mono (fun r W' hh => ints_p h hh))
  have HAL := Lib.hid (argsAt_len hg i x.a (by omega) hia)
  have HAK := Lib.hid (argsAt_lt hg i x.a (by omega) hia)
  have HC : Hid (∀ W ov, Below w1.heap.size w1 W → Ints W ov (pickM L (argsAt e x.a)) → Calls Tryz.prog 71 #[.agg #[sv, nv], .string (str x.name), ov] W (TwoP w1 R)) := Lib.hid (fun W ov h hk => by
    have := call_any sv nv ov n2 E.nod x.name _ W (hN.below (HBW.out W h)) hs hk
    rw [show callR (E.nod x.name) (pickM L (argsAt e x.a)) = R by rw [← hR]; unfold nodeR; rw [if_neg h3, if_pos h27]] at this
    exact this.mono (fun r W' hh => two_p h hh))
  obtain ⟨AA, hAA⟩ : ∃ AA, argsAt e x.a = AA := ⟨_, rfl⟩
  rw [hAA] at HA HAL HAK HC
  have HAK2 : Hid (∀ k ∈ AA, 0 ≤ k ∧ k < (L.length : Int)) := Lib.hid (fun k hk => by have := HAK.out k hk; omega)
  have HAL2 : Hid (AA.length ≤ 5000) := Lib.hid (by have := HAL.out; omega)
  obtain ⟨r1, r2⟩ := R
  subst hwe hte
  obtain ⟨op, a, b, cc, n, nm⟩ := x
  simp only at h27 q2 q3 q4 q5 q6 q7 HX HC HA b3
  subst h27
  clear hLl hR hgx hg hx hS hN hT hv hl N hw1 hb1 hia hAA HAK HAL h3
  go_enter Tryz.func49, Tryz.ntmps49
  go_wp2_with fail
  rw [HW1.out]
  go_wp2_with fail
  go_region_held3 (fun W => W.cell? ⟨w.heap.size, 0, none⟩ = some sv ∧ W.cell? ⟨w.heap.size, 1, none⟩ = some nv ∧ W.cell? ⟨w.heap.size + 1, 0, none⟩ = some (.int .i64 27) ∧ W.cell? ⟨w.heap.size + 1, 1, none⟩ = some (.int .i64 a) ∧ W.cell? ⟨w.heap.size + 1, 2, none⟩ = some (.int .i64 b) ∧ W.cell? ⟨w.heap.size + 1, 3, none⟩ = some (.int .i64 cc) ∧ W.cell? ⟨w.heap.size + 1, 4, none⟩ = some (.int .i64 n) ∧ W.cell? ⟨w.heap.size + 1, 5, none⟩ = some (.string (str nm)))
    (first | exact ⟨q0, q1, q2, q3, q4, q5, q6, q7⟩ | exact HX.out _ HB3.out | exact HX.out _ HB4.out | exact HX.out _ HB5.out | (go_keep; done))
    (first
      | (go_at_call 73; with_reducible refine (HA.out _ (by first | with_reducible exact Below.refl _ _ | with_reducible exact Tr.below_drewN (Below.refl _ _) _ | with_reducible exact Below.drew (Below.refl _ _))).mono ?_; rintro r w3 ⟨kv, rfl, hi3, hb3⟩; have HB3 := Lib.hid hb3; have HI3 := Lib.hid hi3; obtain ⟨A3, c3, rfl, z1, z2⟩ := ints_form hi3; clear hb3)
      | (go_at_call 72; with_reducible refine (HP.out _ _ _ HB3.out HI3.out HAK2.out HAL2.out).mono ?_; rintro r w4 ⟨kv, rfl, hi4, hb4⟩; have HB4 := Lib.hid hb4; have HI4 := Lib.hid hi4; obtain ⟨A4, c4, rfl, z3, z4⟩ := ints_form hi4; clear hb4)
      | (go_at_call 71; with_reducible refine (HC.out _ _ HB4.out HI4.out).mono ?_; rintro r w5 ⟨rfl, hb5⟩; have HB5 := Lib.hid hb5; clear hb5))
  all_goals
    go_wp2
    go_ret2
    exact ⟨rfl, HBW.out _ HB5.out⟩
end Go.Proofs.YtobkcdkffcenbaaGreatDoor.Ty

/- Layer types: the type of a node by those ahead. Conditions: the maps and the table lie in memory, the expression may be. -/
namespace Go.Proofs.YtobkcdkffcenbaaGreatDoor.Ty
open Go.ChangeShapes Go.WideShapes Go.ChangeAt Go.RowKit
open Go.Proofs.YtobkcdkffcenbaaGreatDoor.Tr
set_option maxRecDepth 100000 in
set_option maxHeartbeats 8000000 in
theorem node_else (sv nv tv wv : Value) (n1 n2 : Nat) (E : Env) (e : List Nd) (L : List Int) (i : Nat) (x : Nd) (w : World) (hS : StrAt w sv n1 E.str) (hN : NodAt w nv n2 E.nod) (hT : ShAt w) (hv : Nodes w wv e) (hl : Ints w tv L) (hx : e[i]? = some x) (he : e.length ≤ 5000) (hLl : L.length = e.length)
    (hg : ∀ i x, e[i]? = some x → Tr.Good e i x) (hs : x.name.length ≤ maxLen) (h3 : x.op ≠ 3) (h27 : x.op ≠ 27) (h28 : x.op ≠ 28) : Calls Tryz.prog 49 #[.agg #[sv, nv], .agg (ndC x), wv, tv] w (TwoPost w (nodeR E e L x)) := by
  have hil := (List.getElem?_eq_some_iff.1 hx).1
  have hgx := hg i x hx
  obtain ⟨R, hR⟩ : ∃ R, nodeR E e L x = R := ⟨_, rfl⟩
  rw [hR]
  have hop : 1 ≤ x.op ∧ x.op ≤ 28 := by
    have := hgx.plain
    unfold plainB at this
    simp at this
    exact this.1.1.1
  obtain ⟨w1, hw1⟩ : ∃ W, (w.alloc (.cells #[sv, nv] 60)).alloc (.cells (ndC x) 70) = W := ⟨_, rfl⟩
  have N := news_two w (.cells #[sv, nv] 60) (.cells (ndC x) 70)
  rw [hw1] at N
  have hb1 := N.1
  have lt1 := lt_of_block N.2.1
  have lt2 := lt_of_block N.2.2
  have HX : Hid (∀ W, Below w1.heap.size w1 W → (W.cell? ⟨w.heap.size, 0, none⟩ = some sv ∧ W.cell? ⟨w.heap.size, 1, none⟩ = some nv ∧ W.cell? ⟨w.heap.size + 1, 0, none⟩ = some (.int .i64 x.op) ∧ W.cell? ⟨w.heap.size + 1, 1, none⟩ = some (.int .i64 x.a) ∧ W.cell? ⟨w.heap.size + 1, 2, none⟩ = some (.int .i64 x.b) ∧ W.cell? ⟨w.heap.size + 1, 3, none⟩ = some (.int .i64 x.c) ∧ W.cell? ⟨w.heap.size + 1, 4, none⟩ = some (.int .i64 x.n) ∧ W.cell? ⟨w.heap.size + 1, 5, none⟩ = some (.string (str x.name)))) := Lib.hid (fun W h => by
    have h1 := (h.block _ lt1).trans N.2.1
    have h2 := (h.block _ lt2).trans N.2.2
    exact ⟨(cells_at h1 0).trans rfl, (cells_at h1 1).trans rfl, (cells_at h2 0).trans rfl, (cells_at h2 1).trans rfl, (cells_at h2 2).trans rfl, (cells_at h2 3).trans rfl, (cells_at h2 4).trans rfl, (cells_at h2 5).trans rfl⟩)
  have HBW : Hid (∀ W, Below w1.heap.size w1 W → Below w.heap.size w W) := Lib.hid (fun W h => hb1.trans (h.mono hb1.size))
  have HP : Hid (∀ W kv N, Below w1.heap.size w1 W → Ints W kv N → (∀ k ∈ N, 0 ≤ k ∧ k < (L.length : Int)) → N.length ≤ 5000 → Calls Tryz.prog 72 #[tv, kv] W (IntsP w1 (pickM L N))) := Lib.hid (fun W kv N h hk h2 h3 => (picked_any tv kv L N W (hl.below (HBW.out W h) (Nat.le_refl _)) hk h2 (by omega)).mono (fun r W' hh => ints_p h hh))
  obtain ⟨AW, cW, hwe, y1, y2, -⟩ := id hv
  obtain ⟨AT, cT, hte, y3, y4, -⟩ := id hl
  unfold maxLen at y2 y4
  have HW1 := Lib.hid hw1
  have HB1 := Lib.hid hb1
  obtain ⟨q0, q1, q2, q3, q4, q5, q6, q7⟩ := HX.out w1 (Below.refl _ _)
  have b3 : (x.op == 3) = false := by simpa using h3
  have b27 : (x.op == 27) = false := by simpa using h27
  have b28 : (x.op == 28) = false := by simpa using h28
  obtain ⟨k, hk⟩ : ∃ k : Nat, x.op = (k : Int) := ⟨x.op.toNat, by omega⟩
  have hk27 : k < 27 := by omega
  have hki : (k : Int) < 27 := by omega
  have hk0 : (0 : Int) ≤ (k : Int) := by omega
  have HK : Hid (∀ W, Below w1.heap.size w1 W → Calls Tryz.prog 68 #[.agg (ndC x)] W (IntsP w1 (kidsM x))) := Lib.hid (fun W h => (kids_any x W).mono (fun r W' hh => ints_p h hh))
  have HAK2 : Hid (∀ k ∈ kidsM x, 0 ≤ k ∧ k < (L.length : Int)) := Lib.hid (fun k hk => by have := hgx.ahead k hk; omega)
  have HAL2 : Hid ((kidsM x).length ≤ 3) := Lib.hid (kids_small x)
  have hsh := shapeAt k
  obtain ⟨t0, t1, t2, is⟩ : Int × Int × Int × Int := shapeAt k
  have HE : Hid (R = madeM (shapeAt k) (pickM L (kidsM x))) := Lib.hid (by rw [← hR]; unfold nodeR; rw [if_neg h3, if_neg h27, if_neg h28, hk]; rfl)
  have HIS : Hid ((shapeAt k).2.2.2 = 3 → pickM L (kidsM x) ≠ []) := Lib.hid (fun h0 h1 => by
    have hf := fits_kids x
    have hz : (kidsM x).length = 0 := by
      have := congrArg List.length h1
      unfold pickM at this
      simpa using this
    rw [hz, hk] at hf
    have hkk : k = 19 ∨ k = 21 ∨ k = 26 := by
      have : ∀ j : Fin 27, (shapeAt j.val).2.2.2 = 3 → j.val = 19 ∨ j.val = 21 ∨ j.val = 26 := by decide
      exact this ⟨k, hk27⟩ h0
    rcases hkk with rfl | rfl | rfl <;> exact absurd hf (by decide))
  have HC : Hid (∀ W ov, Below w1.heap.size w1 W → Ints W ov (pickM L (kidsM x)) → Calls Tryz.prog 74 #[.agg #[.int .i64 (shapeAt k).1, .int .i64 (shapeAt k).2.1, .int .i64 (shapeAt k).2.2.1, .int .i64 (shapeAt k).2.2.2], ov] W (TwoP w1 R)) := Lib.hid (fun W ov h hi => by
    rw [HE.out]
    exact (made_any (shapeAt k) ov _ W hi (by unfold pickM; rw [List.length_map]; exact HAL2.out) HIS.out).mono (fun r W' hh => two_p h hh))
  have HTB : Hid (∀ W, Below w1.heap.size w1 W → ShAt W) := Lib.hid (fun W h => hT.below (HBW.out W h) hT.1)
  obtain ⟨s0, s1, s2, s3⟩ := (HTB.out w1 (Below.refl _ _)).2 k hk27
  have hgl : 0 < w.heap.size := hT.1
  have HST : Hid (∀ W, Below w1.heap.size w1 W → (W.cell? ⟨0, k * 4, none⟩ = some (.int .i64 (shapeAt k).1) ∧ W.cell? ⟨0, k * 4 + 1, none⟩ = some (.int .i64 (shapeAt k).2.1) ∧ W.cell? ⟨0, k * 4 + 2, none⟩ = some (.int .i64 (shapeAt k).2.2.1) ∧ W.cell? ⟨0, k * 4 + 3, none⟩ = some (.int .i64 (shapeAt k).2.2.2))) := Lib.hid (fun W h => (HTB.out W h).2 k hk27)
  obtain ⟨u0, hu0⟩ : ∃ u, (shapeAt k).1 = u := ⟨_, rfl⟩
  obtain ⟨u1, hu1⟩ : ∃ u, (shapeAt k).2.1 = u := ⟨_, rfl⟩
  obtain ⟨u2, hu2⟩ : ∃ u, (shapeAt k).2.2.1 = u := ⟨_, rfl⟩
  obtain ⟨u3, hu3⟩ : ∃ u, (shapeAt k).2.2.2 = u := ⟨_, rfl⟩
  rw [hu0] at s0 HC HST
  rw [hu1] at s1 HC HST
  rw [hu2] at s2 HC HST
  rw [hu3] at s3 HC HST
  obtain ⟨KK, hKK⟩ : ∃ K, kidsM x = K := ⟨_, rfl⟩
  rw [hKK] at HK HAK2 HAL2 HC
  have HAL3 : Hid (KK.length ≤ 5000) := Lib.hid (by have := HAL2.out; omega)
  obtain ⟨r1, r2⟩ := R
  subst hwe hte
  obtain ⟨op, a, b, cc, n, nm⟩ := x
  simp only at hk q2 q3 q4 q5 q6 q7 HX HK b3 b27 b28
  subst hk
  clear hLl hR hgx hg hx hS hN hT hv hl N hw1 hb1 hKK h3 h27 h28 HE HIS hu0 hu1 hu2 hu3 hsh hop HTB
  go_enter Tryz.func49, Tryz.ntmps49
  go_wp2_with fail
  rw [HW1.out]
  go_wp2_with fail
  go_region_held3 (fun W => W.cell? ⟨w.heap.size + 1, 0, none⟩ = some (.int .i64 (k : Int)) ∧ W.cell? ⟨w.heap.size + 1, 1, none⟩ = some (.int .i64 a) ∧ W.cell? ⟨w.heap.size + 1, 2, none⟩ = some (.int .i64 b) ∧ W.cell? ⟨w.heap.size + 1, 3, none⟩ = some (.int .i64 cc) ∧ W.cell? ⟨w.heap.size + 1, 4, none⟩ = some (.int .i64 n) ∧ W.cell? ⟨w.heap.size + 1, 5, none⟩ = some (.string (str nm)) ∧ W.cell? ⟨0, k * 4, none⟩ = some (.int .i64 u0) ∧ W.cell? ⟨0, k * 4 + 1, none⟩ = some (.int .i64 u1) ∧ W.cell? ⟨0, k * 4 + 2, none⟩ = some (.int .i64 u2) ∧ W.cell? ⟨0, k * 4 + 3, none⟩ = some (.int .i64 u3))
    (first | exact ⟨q2, q3, q4, q5, q6, q7, s0, s1, s2, s3⟩ | exact ⟨(HX.out _ HB3.out).2.2.1, (HX.out _ HB3.out).2.2.2.1, (HX.out _ HB3.out).2.2.2.2.1, (HX.out _ HB3.out).2.2.2.2.2.1, (HX.out _ HB3.out).2.2.2.2.2.2.1, (HX.out _ HB3.out).2.2.2.2.2.2.2, HST.out _ HB3.out⟩ | exact ⟨(HX.out _ HB4.out).2.2.1, (HX.out _ HB4.out).2.2.2.1, (HX.out _ HB4.out).2.2.2.2.1, (HX.out _ HB4.out).2.2.2.2.2.1, (HX.out _ HB4.out).2.2.2.2.2.2.1, (HX.out _ HB4.out).2.2.2.2.2.2.2, HST.out _ HB4.out⟩ | exact ⟨(HX.out _ HB5.out).2.2.1, (HX.out _ HB5.out).2.2.2.1, (HX.out _ HB5.out).2.2.2.2.1, (HX.out _ HB5.out).2.2.2.2.2.1, (HX.out _ HB5.out).2.2.2.2.2.2.1, (HX.out _ HB5.out).2.2.2.2.2.2.2, HST.out _ HB5.out⟩ | (go_keep; done))
    (first
      | (go_at_call 68; with_reducible refine (HK.out _ (by first | with_reducible exact Below.refl _ _ | with_reducible exact Tr.below_drewN (Below.refl _ _) _ | with_reducible exact Below.drew (Below.refl _ _))).mono ?_; rintro r w3 ⟨kv, rfl, hi3, hb3⟩; have HB3 := Lib.hid hb3; have HI3 := Lib.hid hi3; obtain ⟨A3, c3, rfl, z1, z2⟩ := ints_form hi3; clear hb3)
      | (go_at_call 72; with_reducible refine (HP.out _ _ _ HB3.out HI3.out HAK2.out HAL3.out).mono ?_; rintro r w4 ⟨kv, rfl, hi4, hb4⟩; have HB4 := Lib.hid hb4; have HI4 := Lib.hid hi4; obtain ⟨A4, c4, rfl, z3, z4⟩ := ints_form hi4; clear hb4)
      | (go_at_call 74; with_reducible refine (HC.out _ _ HB4.out HI4.out).mono ?_; rintro r w5 ⟨rfl, hb5⟩; have HB5 := Lib.hid hb5; clear hb5))
  all_goals
    go_wp2
    go_ret2
    exact ⟨rfl, HBW.out _ HB5.out⟩
end Go.Proofs.YtobkcdkffcenbaaGreatDoor.Ty

/- Layer types: the type of a node by those ahead. Conditions: the maps and the table lie in memory, the expression may be. -/
namespace Go.Proofs.YtobkcdkffcenbaaGreatDoor.Ty
open Go.ChangeShapes Go.WideShapes Go.ChangeAt Go.RowKit
open Go.Proofs.YtobkcdkffcenbaaGreatDoor.Tr
theorem node_any (sv nv tv wv : Value) (n1 n2 : Nat) (E : Env) (e : List Nd) (L : List Int) (i : Nat) (x : Nd) (w : World) (hS : StrAt w sv n1 E.str) (hN : NodAt w nv n2 E.nod) (hT : ShAt w) (hv : Nodes w wv e) (hl : Ints w tv L) (hx : e[i]? = some x) (he : e.length ≤ 5000) (hLl : L.length = e.length)
    (hg : ∀ i x, e[i]? = some x → Tr.Good e i x) (hs : x.name.length ≤ maxLen) : Calls Tryz.prog 49 #[.agg #[sv, nv], .agg (ndC x), wv, tv] w (TwoPost w (nodeR E e L x)) := by
  by_cases h3 : x.op = 3
  · exact node_3 sv nv tv wv n1 n2 E e L i x w hS hN hT hv hl hx he hLl hg hs h3
  by_cases h27 : x.op = 27
  · exact node_27 sv nv tv wv n1 n2 E e L i x w hS hN hT hv hl hx he hLl hg hs h3 h27
  by_cases h28 : x.op = 28
  · exact node_28 sv nv tv wv n1 n2 E e L i x w hS hN hT hv hl hx he hLl hg hs h3 h27 h28
  exact node_else sv nv tv wv n1 n2 E e L i x w hS hN hT hv hl hx he hLl hg hs h3 h27 h28
end Go.Proofs.YtobkcdkffcenbaaGreatDoor.Ty

/- What an expression in order is, its names, and a row of types under way. Conditions: the expression may be. -/
namespace Go.Proofs.YtobkcdkffcenbaaGreatDoor.Ty
open Go.RowKit Go.Proofs.YtobkcdkffcenbaaGreatDoor.Tr
theorem sub_norm {e : List Nd} (h : Tr.May e) : subM e ((e.length : Int) - 1) = normM e := by
  have hp := h.pos
  unfold subM
  rw [if_pos ⟨may_yes h, by omega, by omega⟩, show ((e.length : Int) - 1).toNat = e.length - 1 by omega]; rfl
theorem sub_nil {e : List Nd} (h : mayB e = false) : subM e ((e.length : Int) - 1) = [] := by
  unfold subM
  rw [if_neg (by rw [h]; simp)]
theorem flats_labs (t : T) : ∀ b, (t.flat b).map Nd.lab = t.labs := by
  induction t with
  | l0 x => intro b; simp [T.flat, T.labs, mkL_lab]
  | l1 x p ih => intro b; simp [T.flat, T.labs, mkL_lab, ih]
  | l2 x p q ih1 ih2 => intro b; simp [T.flat, T.labs, mkL_lab, ih1, ih2]
  | l3 x p q r ih1 ih2 ih3 => intro b; simp [T.flat, T.labs, mkL_lab, ih1, ih2, ih3]
theorem short_normM {e : List Nd} (hm : Tr.May e) (h : Short e) : Short (normM e) := by
  intro x hx
  have hl : x.lab ∈ (root e).labs := by rw [← flats_labs (root e) 0]; exact List.mem_map_of_mem hx
  have hp := hm.pos
  unfold root at hl
  rw [tree_labs hm.ahead _ (by omega), List.mem_map] at hl
  obtain ⟨j, hj, hjl⟩ := hl
  have := desc_le hm.ahead _ (by omega) j hj
  have hjl2 : j < e.length := by omega
  have hn : x.name = (e.getD j default).name := (congrArg Lab.name hjl).symm
  rw [hn]
  have hmem : e.getD j default ∈ e := by
    have : e.getD j default = e[j] := by simp [List.getD, List.getElem?_eq_getElem hjl2]
    rw [this]; exact List.getElem_mem hjl2
  exact h _ hmem
def tyRow (V : Nat → Ty) (k n : Nat) : List Int := (List.range n).map fun j => if j < k then (V j).1 else 0
theorem tyRow_len (V : Nat → Ty) (k n : Nat) : (tyRow V k n).length = n := by unfold tyRow; simp
theorem tyRow_get {V : Nat → Ty} {k n j : Nat} (h : j < n) : (tyRow V k n)[j]? = some (if j < k then (V j).1 else 0) := by
  unfold tyRow; rw [List.getElem?_map, List.getElem?_range h]; rfl
theorem tyRow_zero (V : Nat → Ty) (n : Nat) : tyRow V 0 n = List.replicate n 0 := by
  apply List.ext_getElem?
  intro j
  by_cases h : j < n
  · rw [tyRow_get h, if_neg (by omega), List.getElem?_replicate, if_pos h]
  · rw [List.getElem?_eq_none (by rw [tyRow_len]; omega), List.getElem?_eq_none (by simp; omega)]
def upd (V : Nat → Ty) (k : Nat) (t : Ty) : Nat → Ty := fun j => if j = k then t else V j
theorem tyRow_next (V : Nat → Ty) (k n : Nat) (t : Ty) (h : k < n) : (tyRow V k n).set k t.1 = tyRow (upd V k t) (k + 1) n := by
  apply List.ext_getElem?
  intro j
  by_cases hj : j < n
  · rw [tyRow_get hj]
    by_cases hk : k = j
    · subst hk
      rw [List.getElem?_set_self (by rw [tyRow_len]; exact h), if_pos (by omega)]
      unfold upd; rw [if_pos rfl]
    · rw [List.getElem?_set_ne hk, tyRow_get hj]
      by_cases hl : j < k
      · rw [if_pos hl, if_pos (by omega)]; unfold upd; rw [if_neg (fun h => hk h.symm)]
      · rw [if_neg hl, if_neg (by omega)]
  · rw [List.getElem?_eq_none (by rw [List.length_set, tyRow_len]; omega), List.getElem?_eq_none (by rw [tyRow_len]; omega)]
def OkTo (E : Env) (l : List Nd) (V : Nat → Ty) (k : Nat) : Prop := ∀ j, j < k → tyT E (tree l j) = .ok (V j)
theorem OkTo.next {E : Env} {l : List Nd} {V : Nat → Ty} {k : Nat} {t : Ty} (h : OkTo E l V k) (ht : tyT E (tree l k) = .ok t) : OkTo E l (upd V k t) (k + 1) := fun j hj => by
  unfold upd
  by_cases hk : j = k
  · subst hk; rw [if_pos rfl]; exact ht
  · rw [if_neg hk]; exact h j (by omega)
theorem pick_row {V : Nat → Ty} {k n : Nat} {N : List Int} (hn : k ≤ n) (h : ∀ a ∈ N, 0 ≤ a ∧ a < (k : Int)) : pickM (tyRow V k n) N = N.map fun a => (V a.toNat).1 := by
  unfold pickM
  apply List.map_congr_left
  intro a ha
  have := h a ha
  have h2 : (tyRow V k n)[a.toNat]? = some (V a.toNat).1 := by rw [tyRow_get (by omega), if_pos (by omega)]
  simp [List.getD, h2]
theorem node_tree (E : Env) {l : List Nd} (hm : Tr.May l) (V : Nat → Ty) {k : Nat} {x : Nd} (hx : l[k]? = some x) (hV : OkTo E l V k) : nodeR E l (tyRow V k l.length) x = ansY (tyT E (tree l k)) := by
  have hk := (List.getElem?_eq_some_iff.1 hx).1
  have g := hm.node k x hx
  rw [tyT_step E hm.ahead hx V hV]
  unfold nodeR
  by_cases h3 : x.op = 3
  · rw [if_pos h3]
    unfold stepY
    rw [if_neg (by rw [show x.lab.op = 3 from h3]; decide), if_neg (by rw [show x.lab.op = 3 from h3]; decide), if_neg (by rw [show x.lab.op = 3 from h3]; decide), if_pos (show x.lab.op = 3 from h3)]
    show strR (E.str x.name) = ansY (varY (E.str x.name))
    cases E.str x.name <;> rfl
  rw [if_neg h3]
  by_cases h27 : x.op = 27
  · rw [if_pos h27, step_call E hm.node V hx h27 hV, pick_row (by omega) (argsAt_lt hm.node k x.a (by omega) (call_args g h27))]; rfl
  rw [if_neg h27]
  by_cases h28 : x.op = 28
  · rw [if_pos h28]
    unfold stepY
    rw [if_neg (by rw [show x.lab.op = 28 from h28]; decide), if_neg (by rw [show x.lab.op = 28 from h28]; decide), if_pos (show x.lab.op = 28 from h28)]; rfl
  rw [if_neg h28, pick_row (by omega) (fun a ha => by have := g.ahead a ha; omega)]
  have := made_step E x.lab ((kidsM x).map fun k => V k.toNat) g.plain (by rw [List.length_map]; exact fits_kids x) h3 h27 h28
  rw [List.map_map] at this
  exact this
theorem of_bad (E : Env) {e : List Nd} (hm : Tr.May e) (V : Nat → Ty) {k : Nat} {c : Int} (hk : k < (normM e).length) (hV : OkTo E (normM e) V k) (hc : tyT E (tree (normM e) k) = .error c) : tyM E e = (0, c) := by
  have h := tyT_stop E hm.norm (show normM (normM e) = normM e by unfold normM; rw [root_flat _ hm.root_ok]) hk (fun j hj => ⟨_, hV j hj⟩) hc
  rw [← tyM_normM E hm]
  unfold tyM
  rw [if_pos (may_yes hm.norm), h]
theorem of_good (E : Env) {e : List Nd} (hm : Tr.May e) (V : Nat → Ty) (hV : OkTo E (normM e) V (normM e).length) : tyM E e = ((V ((normM e).length - 1)).1, 0) := by
  have hp := hm.norm.pos
  rw [← tyM_normM E hm]
  exact tyM_ok (may_yes hm.norm) (hV ((normM e).length - 1) (by omega))
theorem of_not (E : Env) {e : List Nd} (h : mayB e = false) : tyM E e = (0, 1) := by unfold tyM; rw [h]; rfl
end Go.Proofs.YtobkcdkffcenbaaGreatDoor.Ty

/- The function moved with each of its three closures. Conditions: where a closure looks a number up, there is one. -/
namespace Go.Proofs.YtobkcdkffcenbaaGreatDoor.Tr
open Go.ChangeShapes Go.WideShapes Go.ChangeAt Go.RowKit
theorem cl40 (k x : Int) (p : Addr) (v : Value) (l : List Int) (w : World) (h : w.cell? p = some v) (hv : Ints w v l) (hk : 0 ≤ k) (hx : l[k.toNat]? = some x) : Calls Tryz.prog 70 #[.int .i64 k, .pointer (some p)] w fun e w' => e = .returned (.int .i64 x) ∧ w = w' := by
  obtain ⟨A, c, rfl, h1, h2, hA⟩ := hv
  obtain ⟨g, o, rfl, hg, a0⟩ := hA _ _ hx
  have hl := (List.getElem?_eq_some_iff.1 hx).1
  obtain ⟨j, rfl⟩ := Int.eq_ofNat_of_zero_le hk
  simp only [Int.toNat_natCast] at a0 hl
  clear hA hx
  go_enter Tryz.func70, Tryz.ntmps70
  go_wp2
  go_ret
  exact ⟨rfl, rfl⟩
def toM (tf : Int → Int) (k : Int) : Int := if 0 ≤ k then tf k else k
set_option maxRecDepth 100000 in
set_option maxHeartbeats 3200000 in
theorem moved40 (o a b c n : Int) (s : ByteArray) (p : Addr) (v : Value) (l : List Int) (tf : Int → Int) (w : World) (hp : w.cell? p = some v) (hv : Ints w v l) (ha : 0 ≤ a → l[a.toNat]? = some (tf a)) (hb : 0 ≤ b → l[b.toNat]? = some (tf b)) (hc : 0 ≤ c → l[c.toNat]? = some (tf c)) : Calls Tryz.prog 69 #[.agg #[.int .i64 o, .int .i64 a, .int .i64 b, .int .i64 c, .int .i64 n, .string s], .func (.func 70) #[] #[.pointer (some p)]] w
    fun e w' => e = .returned (.agg #[.int .i64 o, .int .i64 (toM tf a), .int .i64 (toM tf b), .int .i64 (toM tf c), .int .i64 n, .string s]) ∧ Below w.heap.size w w' := by
  have hq := World.block_lt_of_cell? w _ hp
  have HP := Lib.hid hp
  clear hp
  have HV := Lib.hid hv
  have HA := Lib.hid ha
  have HB := Lib.hid hb
  have HC := Lib.hid hc
  clear hv ha hb hc
  by_cases h1 : 0 ≤ a <;> by_cases h2 : 0 ≤ b <;> by_cases h3 : 0 ≤ c
  all_goals
    unfold toM
    first | rw [if_pos h1] | rw [if_neg h1]
    first | rw [if_pos h2] | rw [if_neg h2]
    first | rw [if_pos h3] | rw [if_neg h3]
    go_enter Tryz.func69, Tryz.ntmps69
    repeat (go_wp2_with fail; (with_reducible refine (cl40 _ (tf _) p v l _ (by exact (Below.cell (B := w.heap.size) (w := w) (by (repeat (first | with_reducible refine Below.setCell ?_ (by simp) _ | with_reducible refine Below.alloc ?_ (by simp) _ | exact Below.refl _ _))) hq).trans HP.out) (by exact HV.out.below (B := w.heap.size) (by (repeat (first | with_reducible refine Below.setCell ?_ (by simp) _ | with_reducible refine Below.alloc ?_ (by simp) _ | exact Below.refl _ _))) (Nat.le_refl _)) (by assumption) (by first | exact HA.out (by assumption) | exact HB.out (by assumption) | exact HC.out (by assumption))).mono ?_); rintro e w' ⟨rfl, rfl⟩)
    go_wp2_with fail
    refine bodyPost_ret (v := .agg #[.int .i64 o, .int .i64 _, .int .i64 _, .int .i64 _, .int .i64 n, .string s]) ?_ rfl ⟨rfl, ?_⟩
    · simp [results, Tryz.results69, go_sem]
    · (repeat (first | with_reducible refine Below.setCell ?_ (by simp) _ | with_reducible refine Below.alloc ?_ (by simp) _ | exact Below.refl _ _))
end Go.Proofs.YtobkcdkffcenbaaGreatDoor.Tr

/- What the closure of Sub works on and leaves, and how one operand more and the node itself are laid. Conditions: the expression may be. -/
namespace Go.Proofs.YtobkcdkffcenbaaGreatDoor.Tr
open Go.ChangeShapes Go.WideShapes Go.ChangeAt Go.RowKit
structure Lay (W0 : World) (ev : Value) (e : List Nd) (E X : Nat) (w : World) (ov : Value) (out : List Nd) (pos : List Int) : Prop where
  base : W0.heap.size ≤ E
  hX : X ≤ E
  below : Below W0.heap.size W0 w
  exp : w.heap[X]? = some (.cells #[ev] 32 (0, 0))
  res : w.heap[E + 1]? = some (.cells #[ov] 32 (0, 0))
  row : w.ownsRow (E + 2) 3 1 (.slice (some ⟨E + 2, 0, none⟩) e.length e.length) e.length (intsOf pos)
  lst : w.heap[E + 3]? = some (.cells #[.slice (some ⟨E + 2, 0, none⟩) e.length e.length] 72 (0, 0))
  fn : w.heap[E + 4]? = some (.cells #[.func (.func 67) #[] #[.pointer (some ⟨X, 0, none⟩), .pointer (some ⟨E + 4, 0, none⟩), .pointer (some ⟨E + 1, 0, none⟩), .pointer (some ⟨E + 3, 0, none⟩)]] 90 (0, 0))
  own : w.ownsRow (E + 5) 70 6 ov out.length (ndsOf out)
  len : pos.length = e.length
theorem Lay.kept {W0 w w' : World} {ev ov : Value} {e out : List Nd} {E X : Nat} {pos : List Int} (h : Lay W0 ev e E X w ov out pos) (hb : Below w.heap.size w w') : Lay W0 ev e E X w' ov out pos := by
  have h1 := lt_of_block h.exp
  have h4 := lt_of_block h.fn
  have h0 := h.base
  refine ⟨h.base, h.hX, h.below.trans (hb.mono (by omega)), ?_, ?_, own_below h.row hb, ?_, ?_, own_below h.own hb, h.len⟩
  · rw [hb.block _ h1]; exact h.exp
  · rw [hb.block _ (by omega)]; exact h.res
  · rw [hb.block _ (by omega)]; exact h.lst
  · rw [hb.block _ h4]; exact h.fn
theorem Lay.put {W0 w : World} {ev ov : Value} {e out : List Nd} {E X : Nat} {pos : List Int} (h : Lay W0 ev e E X w ov out pos) (i : Nat) (v : Int) : Lay W0 ev e E X (w.setCell ⟨E + 2, i, none⟩ (.int .i64 v)) ov out (pos.set i v) := by
  have h0 := h.base
  have hx := h.hX
  refine ⟨h.base, h.hX, h.below.setCell (by show _ ≤ E + 2; omega) _, ?_, ?_, ?_, ?_, ?_, ?_, by rw [List.length_set]; exact h.len⟩
  · rw [Below.heap_setCell _ _ _ _ (by show X ≠ E + 2; omega)]; exact h.exp
  · rw [Below.heap_setCell _ _ _ _ (by simp)]; exact h.res
  · rw [intsOf_set]; exact (h.row.stored i (.int .i64 v)).1
  · rw [Below.heap_setCell _ _ _ _ (by simp)]; exact h.lst
  · rw [Below.heap_setCell _ _ _ _ (by simp)]; exact h.fn
  · exact ownsRow_setCell_below h.own (by simp) _
theorem Lay.ints {W0 w : World} {ev ov : Value} {e out : List Nd} {E X : Nat} {pos : List Int} (h : Lay W0 ev e E X w ov out pos) : Ints w (.slice (some ⟨E + 2, 0, none⟩) e.length e.length) pos := by
  have := h.row
  rw [← h.len] at this ⊢
  exact Ints.of_own this
theorem Lay.moved {W0 w w4 : World} {ev ov : Value} {e out : List Nd} {E X : Nat} {pos : List Int} (h : Lay W0 ev e E X w ov out pos) (hb : Below w.heap.size w.drew w4) :
    w.heap.size ≤ w4.heap.size ∧ w4.cell? ⟨E + 1, 0, none⟩ = some ov ∧ w4.heap[E + 1]? = some (.cells #[ov] 32 (0, 0)) ∧ w4.ownsRow (E + 5) 70 6 ov out.length (ndsOf out) ∧ E + 5 ≤ w4.heap.size := by
  have h4 := lt_of_block h.fn
  have hz : w.heap.size ≤ w4.heap.size := hb.size
  have r4 : w4.heap[E + 1]? = some (.cells #[ov] 32 (0, 0)) := (hb.block _ (by omega)).trans h.res
  exact ⟨hz, cell_of_one r4, r4, own_below (w := w) h.own { os := hb.os, tape := hb.tape, output := hb.output, size := hb.size, block := hb.block }, by omega⟩
theorem grown_one {w4 w5 : World} {E : Nat} {ov : Value} {o : Obj} {n : Nat} {xs : List Value} (own4 : w4.ownsRow (E + 5) 70 6 ov n xs) (r4 : w4.heap[E + 1]? = some (.cells #[ov] 32 (0, 0))) (hz : E + 5 ≤ w4.heap.size) (hg : (w4.alloc o).grownBy w5 ov.ownBlock) :
    w5.heap[E + 1]? = some (.cells #[ov] 32 (0, 0)) := by
  have e5 := hg.block (E + 1) (by simp; omega) (fun h => by have := own4.lt _ h.symm; omega)
  rw [Below.heap_alloc _ _ _ (by omega), r4] at e5
  exact e5
def LayPost (W0 : World) (ev : Value) (e : List Nd) (E X : Nat) (w : World) (ov : Value) (out : List Nd) (pos : List Int) (i : Nat) (r : Ending) (w' : World) : Prop :=
  ∃ ov' pos', r = .returned (.tuple #[]) ∧ Lay W0 ev e E X w' ov' (out ++ (tree e i).flat out.length) pos' ∧
    pos'[i]? = some ((out.length + (tree e i).size - 1 : Nat) : Int) ∧ (∀ j : Nat, j ∉ desc e i → pos'[j]? = pos[j]?) ∧
    w.heap.size ≤ w'.heap.size ∧ (∀ b, ov'.ownBlock = some b → ov.ownBlock = some b ∨ w.heap.size ≤ b) ∧
    ∀ p : Addr, p.block < w.heap.size → p.block ≠ E + 1 → p.block ≠ E + 2 → ov.ownBlock ≠ some p.block → w'.cell? p = w.cell? p
theorem moved_mk (x : Nd) (L : List Int) (tf : Int → Int) (h : x = mkL x.lab L) (hL : ∀ k ∈ L, 0 ≤ k) :
    (⟨x.op, toM tf x.a, toM tf x.b, toM tf x.c, x.n, x.name⟩ : Nd) = mkL x.lab (L.map tf) := by
  obtain ⟨o, a, b, c, n, s⟩ := x
  have m1 : toM tf (-1) = -1 := by unfold toM; rw [if_neg (by omega)]
  have m0 : ∀ k, 0 ≤ k → toM tf k = tf k := fun k hk => by unfold toM; rw [if_pos hk]
  simp only [Nd.lab] at h ⊢
  match L with
  | [] =>
    simp only [mkL, Nd.mk.injEq, true_and, and_true] at h
    obtain ⟨rfl, rfl, rfl⟩ := h
    simp [mkL, m1]
  | [i] =>
    simp only [mkL, Nd.mk.injEq, true_and, and_true] at h
    obtain ⟨rfl, rfl, rfl⟩ := h
    simp [mkL, m1, m0 a (hL a (by simp))]
  | [i, j] =>
    simp only [mkL] at h
    by_cases ho : o = 28
    · subst ho
      simp only [if_true, Nd.mk.injEq, true_and, and_true] at h
      obtain ⟨rfl, rfl, rfl⟩ := h
      simp [mkL, m1, m0 a (hL a (by simp)), m0 b (hL b (by simp))]
    · simp only [ho, if_false, Nd.mk.injEq, true_and, and_true] at h
      obtain ⟨rfl, rfl, rfl⟩ := h
      simp [mkL, ho, m1, m0 a (hL a (by simp)), m0 b (hL b (by simp))]
  | i :: j :: k :: r =>
    simp only [mkL, Nd.mk.injEq, true_and, and_true] at h
    obtain ⟨rfl, rfl, rfl⟩ := h
    simp [mkL, m0 a (hL a (by simp)), m0 b (hL b (by simp)), m0 c (hL c (by simp))]
structure LayRel (W0 : World) (ev : Value) (e : List Nd) (E X : Nat) (w w2 : World) (ov : Value) (out : List Nd) (pos : List Int) (L : List Int) (j : Nat) (wr : World) (ov' : Value) (pos' : List Int) : Prop where
  le : j ≤ L.length
  lay : Lay W0 ev e E X wr ov' (out ++ flats e out.length (L.take j)) pos'
  at_ : ∀ t q, t < j → L[t]? = some q → pos'[q.toNat]? = some (posOf e out.length L t)
  same : ∀ m : Nat, (∀ k ∈ L, m ∉ desc e k.toNat) → pos'[m]? = pos[m]?
  size : w2.heap.size ≤ wr.heap.size
  keep : ∀ p : Addr, w.heap.size ≤ p.block → p.block < w2.heap.size → wr.cell? p = w2.cell? p
  blk : ∀ b, ov'.ownBlock = some b → b < w.heap.size ∨ w2.heap.size ≤ b
  blk0 : ∀ b, ov'.ownBlock = some b → ov.ownBlock = some b ∨ w2.heap.size ≤ b
  frame : ∀ p : Addr, p.block < w.heap.size → p.block ≠ E + 1 → p.block ≠ E + 2 → ov.ownBlock ≠ some p.block → wr.cell? p = w.cell? p
theorem fields_in (x : Nd) (L : List Int) (h : x = mkL x.lab L) : (x.a ≠ -1 → x.a ∈ L) ∧ (x.b ≠ -1 → x.b ∈ L) ∧ (x.c ≠ -1 → x.c ∈ L) := by
  obtain ⟨o, a, b, c, n, s⟩ := x
  simp only [Nd.lab] at h ⊢
  match L with
  | [] =>
    simp only [mkL, Nd.mk.injEq, true_and, and_true] at h
    obtain ⟨rfl, rfl, rfl⟩ := h; simp
  | [i] =>
    simp only [mkL, Nd.mk.injEq, true_and, and_true] at h
    obtain ⟨rfl, rfl, rfl⟩ := h; simp
  | [i, j] =>
    simp only [mkL] at h
    by_cases ho : o = 28
    · subst ho
      simp only [if_true, Nd.mk.injEq, true_and, and_true] at h
      obtain ⟨rfl, rfl, rfl⟩ := h; simp
    · simp only [ho, if_false, Nd.mk.injEq, true_and, and_true] at h
      obtain ⟨rfl, rfl, rfl⟩ := h; simp
  | i :: j :: k :: r =>
    simp only [mkL, Nd.mk.injEq, true_and, and_true] at h
    obtain ⟨rfl, rfl, rfl⟩ := h; simp
theorem nodup_two {l : List Int} (h : l.Nodup) {i j : Nat} {a : Int} (hij : i < j) (h1 : l[i]? = some a) (h2 : l[j]? = some a) : False := by
  obtain ⟨hi, e1⟩ := List.getElem?_eq_some_iff.1 h1
  obtain ⟨hj, e2⟩ := List.getElem?_eq_some_iff.1 h2
  exact (List.pairwise_iff_getElem.1 h) i j hi hj hij (e1.trans e2.symm)
theorem rel_step {W0 : World} {ev : Value} {e : List Nd} {E X : Nat} {w w2 : World} {ov : Value} {out : List Nd} {pos : List Int} {L : List Int} {j : Nat} {wr : World} {ov' : Value} {pos' : List Int} {i m : Nat} {x : Nd} {w' : World} {r : Ending}
    (hm : May e) (hx : e[i]? = some x) (hL : kidsM x = L) (hj : L[j]? = some (m : Int)) (hE : E + 4 < w.heap.size) (hw : w.heap.size ≤ w2.heap.size) (h : LayRel W0 ev e E X w w2 ov out pos L j wr ov' pos')
    (hp : LayPost W0 ev e E X wr ov' (out ++ flats e out.length (L.take j)) pos' m r w') :
    ∃ ov'' pos'', r = .returned (.tuple #[]) ∧ LayRel W0 ev e E X w w2 ov out pos L (j + 1) w' ov'' pos'' := by
  obtain ⟨ov'', pos'', hr, hlay, hat, hsame, hsize, hblk, hfr⟩ := hp
  have hjl := (List.getElem?_eq_some_iff.1 hj).1
  have hmem : (m : Int) ∈ kidsM x := by rw [hL]; exact List.mem_of_getElem? hj
  have htk : L.take (j + 1) = L.take j ++ [(m : Int)] := by rw [List.take_add_one, hj]; rfl
  have hlen : (out ++ flats e out.length (L.take j)).length = out.length + upTo e (L.take j) := by rw [List.length_append, flats_len]
  have hmt : ((m : Int)).toNat = m := Int.toNat_natCast m
  refine ⟨ov'', pos'', hr, by omega, ?_, ?_, ?_, by have := h.size; omega, ?_, ?_, ?_, ?_⟩
  · rw [hlen, List.append_assoc] at hlay
    rw [htk, flats_snoc, hmt]; exact hlay
  · intro t q ht hq
    by_cases htj : t = j
    · subst htj
      have : q = (m : Int) := Option.some.inj (hq.symm.trans hj)
      subst this
      rw [hmt, hat, hlen]
      unfold posOf
      rw [htk, upTo_snoc, hmt]
      congr 3
      omega
    · rw [hsame q.toNat ?_]
      · exact h.at_ t q (by omega) hq
      · intro hd
        have hqm : q ∈ kidsM x := by rw [hL]; exact List.mem_of_getElem? hq
        have hql := hm.ahead i x hx q hqm
        have hil := (List.getElem?_eq_some_iff.1 hx).1
        have hne : q ≠ (m : Int) := by
          intro e1
          subst e1
          have hnd := once_nodup hm.once hm.ahead hx
          rw [hL] at hnd
          have htl := (List.getElem?_eq_some_iff.1 hq).1
          exact nodup_two hnd (show t < j by omega) hq hj
        exact apart hm.once hm.ahead hx hqm hmem hne q.toNat (desc_self hm.ahead (by omega)) (by rw [hmt]; exact hd)
  · intro p hp
    rw [hsame p (by have := hp (m : Int) (List.mem_of_getElem? hj); rwa [hmt] at this)]
    exact h.same p hp
  · intro p hp1 hp2
    have hs := h.size
    rw [hfr p (by omega) (by omega) (by omega) (fun hb => by have := h.blk _ hb; omega)]
    exact h.keep p hp1 hp2
  · intro b hb
    rcases hblk b hb with h1 | h1
    · exact h.blk b h1
    · have := h.size; exact .inr (by omega)
  · intro b hb
    rcases hblk b hb with h1 | h1
    · exact h.blk0 b h1
    · have := h.size; exact .inr (by omega)
  · intro p hp1 hp2 hp3 hp4
    have hs := h.size
    rw [hfr p (by omega) hp2 hp3 (fun hb => by
      rcases h.blk0 _ hb with h1 | h1
      · exact hp4 h1
      · omega)]
    exact h.frame p hp1 hp2 hp3 hp4
theorem lay_end {W0 : World} {ev : Value} {e : List Nd} {E X : Nat} {w w2 wr w3 w4 w5 : World} {ov ov' : Value} {out : List Nd} {pos pos' : List Int} {L : List Int} {i N gg cap : Nat} {x : Nd} {tf : Int → Int} {o : Obj} {ov2 : Value}
    (hm : May e) (hx : e[i]? = some x) (hL : kidsM x = L) (hE : E + 4 < w.heap.size) (hw : w.heap.size ≤ w2.heap.size) (hrel : LayRel W0 ev e E X w w2 ov out pos L L.length wr ov' pos')
    (hN : (out ++ flats e out.length L).length = N) (hput : Lay W0 ev e E X w3 ov' (out ++ flats e out.length L) (pos'.set i ((N : Nat) : Int))) (hw3 : w3 = wr.setCell ⟨E + 2, i, none⟩ (.int .i64 (N : Int)))
    (htf : ∀ k ∈ L, (pos'.set i ((N : Nat) : Int))[k.toNat]? = some (tf k)) (hb4 : Below w3.heap.size w3.drew w4) (hov2 : ov2.ownBlock = ov'.ownBlock) (hg : (w4.alloc o).grownBy w5 ov2.ownBlock)
    (hown : w5.ownsRow (E + 5) 70 6 (.slice (some ⟨gg, 0, none⟩) (N + 1) cap) (N + 1) (ndsOf (out ++ flats e out.length L) ++ ndCells ⟨x.op, toM tf x.a, toM tf x.b, toM tf x.c, x.n, x.name⟩))
    (hat : ov2.ownBlock = some gg ∨ gg = w4.heap.size + 1) :
    LayPost W0 ev e E X w ov out pos i (.returned (.tuple #[])) (w5.setCell ⟨E + 1, 0, none⟩ (.slice (some ⟨gg, 0, none⟩) (N + 1) cap)) := by
  rw [hov2] at hg hat
  have hil := (List.getElem?_eq_some_iff.1 hx).1
  have hs3 : w3.heap.size = wr.heap.size := by rw [hw3]; simp
  have hz4 : w3.heap.size ≤ w4.heap.size := hb4.size
  have hz5 := hg.size
  simp at hz5
  have hr2 := hrel.size
  have hE3 := lt_of_block hput.fn
  have K : ∀ b, b < w3.heap.size → ov'.ownBlock ≠ some b → w5.heap[b]? = w3.heap[b]? := fun b hb hn => by
    rw [hg.block b (by simp; omega) (fun h => hn h.symm), Below.heap_alloc _ _ _ (by omega)]
    exact hb4.block b hb
  have low : ∀ b, b < E + 5 → ov'.ownBlock ≠ some b := fun b hb h => by have := hput.own.lt b h; omega
  have hNU : N = out.length + upTo e L := by rw [← hN, List.length_append, flats_len]
  have hsz := tree_size e hm.ahead i x hx
  rw [hL] at hsz
  have hmap : L.map tf = (List.range L.length).map (posOf e out.length L) := by
    apply List.ext_getElem?
    intro t
    rw [List.getElem?_map, List.getElem?_map]
    by_cases ht : t < L.length
    · rw [List.getElem?_range ht]
      have hq : L[t]? = some L[t] := List.getElem?_eq_getElem ht
      rw [hq]
      have hmem := List.mem_of_getElem? hq
      have h1 := htf _ hmem
      have h2 := hm.ahead i x hx L[t] (by rw [hL]; exact hmem)
      rw [List.getElem?_set_ne (by omega), hrel.at_ t _ ht hq] at h1
      exact h1.symm
    · rw [List.getElem?_eq_none (by omega), List.getElem?_eq_none (by simp; omega)]; rfl
  have hnode : (⟨x.op, toM tf x.a, toM tf x.b, toM tf x.c, x.n, x.name⟩ : Nd) = mkL x.lab ((List.range L.length).map (posOf e out.length L)) := by
    rw [moved_mk x L tf (by rw [← hL]; exact (hm.node i x hx).bare) (fun k hk => (hm.ahead i x hx k (by rw [hL]; exact hk)).1), hmap]
  have hflat : out ++ (tree e i).flat out.length = (out ++ flats e out.length L) ++ [⟨x.op, toM tf x.a, toM tf x.b, toM tf x.c, x.n, x.name⟩] := by
    rw [tree_flat e hm.ahead i x hx, hL, hnode, List.append_assoc]
  refine ⟨.slice (some ⟨gg, 0, none⟩) (N + 1) cap, pos'.set i ((N : Nat) : Int), rfl, ⟨hput.base, hput.hX, ?_, ?_, ?_, ?_, ?_, ?_, ?_, hput.len⟩, ?_, ?_, ?_, ?_, ?_⟩
  · have h0 := hput.base
    have h1 : Below W0.heap.size W0 w4 := hput.below.drew.trans (hb4.mono (by omega))
    exact ((h1.alloc (by omega) _).grown hg (by simp; omega) (fun b hb => by have := hput.own.lt b hb; omega)).setCell (by show _ ≤ E + 1; omega) _
  · have hx := hput.hX
    rw [Below.heap_setCell _ _ _ _ (by show X ≠ E + 1; omega), K _ (by omega) (low _ (by omega))]; exact hput.exp
  · exact one_setCell ((K _ (by omega) (low _ (by omega))).trans hput.res)
  · refine own_block hput.row (fun g hgb => ?_)
    have : g = E + 2 := by simp [Value.ownBlock] at hgb; omega
    subst this
    rw [Below.heap_setCell _ _ _ _ (by simp), K _ (by omega) (low _ (by omega))]
  · rw [Below.heap_setCell _ _ _ _ (by simp), K _ (by omega) (low _ (by omega))]; exact hput.lst
  · rw [Below.heap_setCell _ _ _ _ (by simp), K _ (by omega) (low _ (by omega))]; exact hput.fn
  · rw [hflat, nds_snoc, List.length_append, hN]
    exact ownsRow_setCell_below hown (by simp) _
  · rw [List.getElem?_set_self (by have := hput.len; rw [List.length_set] at this; omega)]
    congr 2; omega
  · intro j hj
    have hji : i ≠ j := fun h => hj (by rw [← h]; exact desc_self hm.ahead hil)
    rw [List.getElem?_set_ne hji]
    exact hrel.same j (fun k hk hd => hj (desc_kid hm.ahead hx (by rw [hL]; exact hk) hd))
  · simp; omega
  · intro b hb
    have hb' : gg = b := by simpa [Value.ownBlock] using hb
    subst hb'
    rcases hat with h | h
    · rcases hrel.blk0 _ h with h1 | h1
      · exact .inl h1
      · exact .inr (by omega)
    · exact .inr (by omega)
  · intro p hp1 hp2 hp3 hp4
    have hn : ov'.ownBlock ≠ some p.block := fun h => by
      rcases hrel.blk0 _ h with h1 | h1
      · exact hp4 h1
      · omega
    rw [World.cell?_setCell_other _ _ _ _ (fun h => hp2 (by rw [← h])), World.cell?_of_block (w := w3) (K p.block (by omega) hn), hw3, World.cell?_setCell_other _ _ _ _ (fun h => hp3 (by rw [← h]))]
    exact hrel.frame p hp1 hp2 hp3 hp4
end Go.Proofs.YtobkcdkffcenbaaGreatDoor.Tr

