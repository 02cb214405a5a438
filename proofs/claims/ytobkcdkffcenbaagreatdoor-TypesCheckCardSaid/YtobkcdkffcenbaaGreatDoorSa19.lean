/- The document's items of layer types. Conditions: the unit lies in memory. -/
import Derived.Test.YtobkcdkffcenbaaGreatDoorSa18
import Derived.Test.YtobkcdkffcenbaaGreatDoorSa11
import Derived.BigQuiet
set_option linter.unusedVariables false
set_option linter.unusedSimpArgs false
namespace Go.Proofs.YtobkcdkffcenbaaGreatDoor.Ty
open Go.ChangeShapes Go.WideShapes Go.ChangeAt Go.RowKit
open Go.Proofs.YtobkcdkffcenbaaGreatDoor.Tr
open Go.Proofs.YtobkcdkffcenbaaGreatDoor.Pg (Prm Unt Itm)
open Go.Proofs.YtobkcdkffcenbaaGreatDoor.Ow (PrmN UntN ItmN RowN rown_at rown_form)
theorem env_no (L : List Prm) : envOf L [] = ⟨strOf L, noN⟩ := rfl
theorem items_step (f : Bytes → Option Int) {l : List Itm} {k : Nat} {i : Itm} (h : l[k]? = some i) : itemsM f (l.drop k) = if itemM ⟨f, noN⟩ i ≠ 0 then itemM ⟨f, noN⟩ i else itemsM (nextF f i) (l.drop (k + 1)) := by
  rw [drop_at h]; rfl
set_option maxRecDepth 100000 in
set_option maxHeartbeats 16000000 in
theorem ritems_any (u : Unt) (x : List Value) (w : World) (hu : UntN w u x) (h1 : u.ins.length ≤ 1000) (h2 : u.vars.length ≤ 1000) (h3 : u.items.length ≤ 1000) : Calls Tryz.prog 17 #[.agg x.toArray] w (OnePost w (itemsM (strOf (streamsM u)) u.items)) := by
  have HU := Lib.hid hu
  have HSTR : Hid (∀ W, Below w.heap.size w W → Calls Tryz.prog 18 #[.agg x.toArray] W (OwnPost W (streamsM u))) := Lib.hid (fun W h => rstreams_any u x W (Ow.UntN.below h _ _ hu) h1 h2)
  have HLL : Hid ((streamsM u).length ≤ 2001) := Lib.hid (by
    unfold streamsM
    split
    · omega
    · simp; omega)
  have HSHT : Hid (∀ p ∈ streamsM u, p.name.length ≤ maxLen) := Lib.hid (fun p hp => by
    obtain ⟨iv, vv, qv, lv, -, u1, u2, -, -, -, hso⟩ := hu
    unfold streamsM at hp
    split at hp
    · exact names_short u1 p hp
    · simp at hp
      rcases hp with hp | rfl | hp
      · exact names_short u1 p hp
      · exact hso
      · exact names_short u2 p hp)
  obtain ⟨iv, vv, qv, lv, rfl, u1, u2, u3, u4, hs, hso⟩ := hu
  have U4 := Lib.hid u4
  obtain ⟨Ai, ci, rfl, -, -, -⟩ := rown_form u1
  obtain ⟨Av, cv, rfl, -, -, -⟩ := rown_form u2
  obtain ⟨Aq, cq, rfl, -, -, -⟩ := rown_form u3
  obtain ⟨Al, cl, rfl, l3, l4, -⟩ := rown_form u4
  unfold maxLen at l4
  obtain ⟨w1, hw1⟩ : ∃ W, w.alloc (.cells #[.bool u.contract, .string (str u.name), .slice Ai u.ins.length ci, .string (str u.out.name), .int .i64 u.out.ty, .slice Av u.vars.length cv, .slice Aq u.eqs.length cq, .slice Al u.items.length cl] 49) = W := ⟨_, rfl⟩
  have hb1 : Below w.heap.size w w1 := hw1 ▸ below_new w _
  have hX : w1.heap[w.heap.size]? = some (.cells #[.bool u.contract, .string (str u.name), .slice Ai u.ins.length ci, .string (str u.out.name), .int .i64 u.out.ty, .slice Av u.vars.length cv, .slice Aq u.eqs.length cq, .slice Al u.items.length cl] 49 (0, 0)) := hw1 ▸ heap_alloc_new w _
  have lX := lt_of_block hX
  have HX := Lib.hid hX
  have HB1 := Lib.hid hb1
  have HC := Lib.hid (HSTR.out w1 hb1)
  have HW1 := Lib.hid hw1
  obtain ⟨L0, hL0⟩ : ∃ L, streamsM u = L := ⟨_, rfl⟩
  rw [hL0] at HC HLL HSHT
  obtain ⟨R, hR⟩ : ∃ R, itemsM (strOf (streamsM u)) u.items = R := ⟨_, rfl⟩
  have HR := Lib.hid hR
  rw [hL0] at HR
  rw [hR]
  clear hX hb1 hw1 hR hL0 u1 u2 u3 u4 hs hso
  go_enter Tryz.func17, Tryz.ntmps17
  go_wp2_with fail
  rw [HW1.out]
  refine HC.out.mono ?_
  rintro r w2 ⟨sv, rfl, hown, hb2⟩
  have HO2 := Lib.hid hown
  have HB2 := Lib.hid hb2
  have hs2 := hb2.size
  obtain ⟨A2, c2, rfl⟩ := own_form hown
  clear hown hb2
  go_wp2
  go_loopw [3, 4] (fun sv i wr => ∃ (k : Nat) (L : List Prm) (A : Option Addr) (c n : Nat), k ≤ u.items.length ∧ i = .int .i64 k ∧ sv = .slice A n c ∧ n = L.length ∧ wr.ownsRow w1.heap.size 45 2 (.slice A n c) L.length (prmsOf L) ∧ Below w1.heap.size w1 wr ∧ Hid ((∀ p ∈ L, p.name.length ≤ maxLen) ∧ L.length ≤ 2001 + k ∧ itemsM (strOf L) (u.items.drop k) = R)) (fun _ i _ => u.items.length - (intOf i).toNat)
  case atStart => exact ⟨0, L0, A2, c2, _, Nat.zero_le _, rfl, rfl, rfl, HO2.out, HB2.out, Lib.hid ⟨HSHT.out, by have := HLL.out; omega, HR.out⟩⟩
  case round =>
    obtain ⟨k, L, A, c, n, hk, rfl, rfl, hn, hown, hb, HD⟩ := hrel
    have HO := Lib.hid hown
    have HN := Lib.hid hn
    have HBr := Lib.hid hb
    have hXr := (hb.block _ lX).trans HX.out
    have HXr := Lib.hid hXr
    have p6 : wr.cell? ⟨w.heap.size, 7, none⟩ = some (.slice Al u.items.length cl) := (cells_at hXr 7).trans rfl
    have hsr := hb.size
    have HBw : Hid (Below w.heap.size w wr) := Lib.hid (HB1.out.trans (hb.mono HB1.out.size))
    clear hown hn hb hXr
    by_cases hlt : k < u.items.length
    · obtain ⟨it, hit⟩ : ∃ it, u.items[k]? = some it := ⟨_, List.getElem?_eq_getElem hlt⟩
      obtain ⟨g, o, c', xs, hv', hgl, hpx, hxl, hcell⟩ := rown_at (U4.out.below HBw.out (Ow.ItmN.below HBw.out)) hit
      obtain ⟨ev, fv, Ag, na, ca, rfl, hev, hfv, hnm, hse, hsf⟩ := hpx
      simp only [Value.slice.injEq] at hv'
      obtain ⟨rfl, -, rfl⟩ := hv'
      have c0 : wr.cell? ⟨g, o + k * 6, none⟩ = some (.int .i64 it.kind) := hcell 0 (by omega)
      have c1 : wr.cell? ⟨g, o + k * 6 + 1, none⟩ = some (.string (str it.name)) := hcell 1 (by omega)
      have c2 : wr.cell? ⟨g, o + k * 6 + 2, none⟩ = some (.int .i64 it.ty) := hcell 2 (by omega)
      have c3 : wr.cell? ⟨g, o + k * 6 + 3, none⟩ = some ev := hcell 3 (by omega)
      have c4 : wr.cell? ⟨g, o + k * 6 + 4, none⟩ = some fv := hcell 4 (by omega)
      have c5 : wr.cell? ⟨g, o + k * 6 + 5, none⟩ = some (.slice Ag na ca) := hcell 5 (by omega)
      have HST := Lib.hid (items_step (strOf L) hit)
      obtain ⟨w3, hw3⟩ : ∃ W, wr.alloc (.cells #[.int .i64 it.kind, .string (str it.name), .int .i64 it.ty, ev, fv, .slice Ag na ca] 53) = W := ⟨_, rfl⟩
      have hb3 : Below wr.heap.size wr w3 := hw3 ▸ below_new wr _
      have hX3 : w3.heap[wr.heap.size]? = some (.cells #[.int .i64 it.kind, .string (str it.name), .int .i64 it.ty, ev, fv, .slice Ag na ca] 53 (0, 0)) := hw3 ▸ heap_alloc_new wr _
      have l3' := lt_of_block hX3
      have HX3 := Lib.hid hX3
      have q0 : w3.cell? ⟨wr.heap.size, 0, none⟩ = some (.int .i64 it.kind) := (cells_at hX3 0).trans rfl
      have q1 : w3.cell? ⟨wr.heap.size, 1, none⟩ = some (.string (str it.name)) := (cells_at hX3 1).trans rfl
      have q2 : w3.cell? ⟨wr.heap.size, 2, none⟩ = some (.int .i64 it.ty) := (cells_at hX3 2).trans rfl
      have q3 : w3.cell? ⟨wr.heap.size, 3, none⟩ = some ev := (cells_at hX3 3).trans rfl
      have HB3 : Hid (Below w1.heap.size w1 w3) := Lib.hid (HBr.out.trans (hb3.mono hsr))
      have HBw3 : Hid (Below w.heap.size w w3) := Lib.hid (HBw.out.trans (hb3.mono HBw.out.size))
      have HO3 : Hid (w3.ownsRow w1.heap.size 45 2 (.slice A n c) L.length (prmsOf L)) := Lib.hid (own_below HO.out hb3)
      have HWE : Hid (∀ (W : World) (t : Int), Below w3.heap.size w3 W → Calls Tryz.prog 20 #[ev, .slice A n c, .slice none 0 0, .int .i64 t] W (OnePost W (isM ⟨strOf L, noN⟩ it.e t))) := Lib.hid (fun W t h => by
        rw [← env_no, ← want_is]
        exact rwant_any ev _ _ it.e L [] t W (rown_own (own_below HO3.out h) HD.out.1) (rown_zero _ _ _) (hev.below (hb3.trans (h.mono hb3.size)) (Nat.le_refl _)) hse)
      have HWF : Hid (∀ (W : World) (t : Int), Below w3.heap.size w3 W → Calls Tryz.prog 20 #[fv, .slice A n c, .slice none 0 0, .int .i64 t] W (OnePost W (isM ⟨strOf L, noN⟩ it.f t))) := Lib.hid (fun W t h => by
        rw [← env_no, ← want_is]
        exact rwant_any fv _ _ it.f L [] t W (rown_own (own_below HO3.out h) HD.out.1) (rown_zero _ _ _) (hfv.below (hb3.trans (h.mono hb3.size)) (Nat.le_refl _)) hsf)
      have HW3 := Lib.hid hw3
      have HNM := Lib.hid hnm
      obtain ⟨Ae, ne, ce, hee⟩ : ∃ A n c, ev = .slice A n c := by obtain ⟨A, c, h, -⟩ := hev; exact ⟨_, _, _, h⟩
      obtain ⟨Af, nf, cf, hff⟩ : ∃ A n c, fv = .slice A n c := by obtain ⟨A, c, h, -⟩ := hfv; exact ⟨_, _, _, h⟩
      subst hee hff
      obtain ⟨kd, hkd⟩ : ∃ kd, it.kind = kd := ⟨_, rfl⟩
      have HKD := Lib.hid hkd
      rw [hkd] at c0 q0 HX3 HW3
      clear hit hcell hev hfv hnm hse hsf hb3 hX3 hw3 hkd
      by_cases hk3 : kd = 3
      · subst hk3
        have HIT : Hid (itemM ⟨strOf L, noN⟩ it = isM ⟨strOf L, noN⟩ it.e it.ty) := Lib.hid (by unfold itemM; rw [HKD.out]; simp)
        have HC3 := Lib.hid (HWE.out w3 it.ty (Below.refl _ _))
        obtain ⟨z, hz⟩ : ∃ z, isM ⟨strOf L, noN⟩ it.e it.ty = z := ⟨_, rfl⟩
        rw [hz] at HC3 HIT
        clear hz
        go_wp2_with fail
        rw [HW3.out]
        go_wp2_with fail
        refine HC3.out.mono ?_
        rintro r w4 ⟨rfl, hb4⟩
        have HB34 : Hid (Below w3.heap.size w3 w4) := Lib.hid (hb4)
        have HB4 : Hid (Below w1.heap.size w1 w4) := Lib.hid (HB3.out.trans (HB34.out.mono HB3.out.size))
        have HBw4 : Hid (Below w.heap.size w w4) := Lib.hid (HBw3.out.trans (HB34.out.mono HBw3.out.size))
        have hX4 := (HB34.out.block _ l3').trans HX3.out
        have r04 : w4.cell? ⟨wr.heap.size, 0, none⟩ = some (.int .i64 3) := (cells_at hX4 0).trans rfl
        have r14 : w4.cell? ⟨wr.heap.size, 1, none⟩ = some (.string (str it.name)) := (cells_at hX4 1).trans rfl
        have r24 : w4.cell? ⟨wr.heap.size, 2, none⟩ = some (.int .i64 it.ty) := (cells_at hX4 2).trans rfl
        have r44 : w4.cell? ⟨wr.heap.size, 4, none⟩ = some (.slice Af nf cf) := (cells_at hX4 4).trans rfl
        have hs4 := HB4.out.size
        clear hb4 hX4
        by_cases hz0 : z = 0
        · subst hz0
          have HNX : Hid (itemsM (strOf (L ++ [⟨it.name, it.ty⟩])) (u.items.drop (k + 1)) = R) := Lib.hid (by
            have h := HST.out
            rw [HIT.out, if_neg (by simp), HD.out.2.2] at h
            rw [h, str_snoc]; unfold nextF; rw [if_pos HKD.out])
          have HSH5 : Hid (∀ p ∈ L ++ [⟨it.name, it.ty⟩], p.name.length ≤ maxLen) := Lib.hid (fun p hp => by
            rcases List.mem_append.1 hp with h | h
            · exact HD.out.1 p h
            · simp at h; subst h; exact HNM.out)
          obtain ⟨w5, hw5⟩ : ∃ W, w4.alloc (.cells #[.string (str it.name), .int .i64 it.ty] 45) = W := ⟨_, rfl⟩
          have hb5 : Below w4.heap.size w4 w5 := hw5 ▸ below_new w4 _
          have HONE := Lib.hid (one_row (p := ⟨it.name, it.ty⟩) (w := w5) (g := w4.heap.size) (by rw [← hw5]; exact heap_alloc_new w4 _) HNM.out)
          have HO5 : Hid (w5.ownsRow w1.heap.size 45 2 (.slice A n c) L.length (prmsOf L)) := Lib.hid (own_below (own_below HO3.out HB34.out) hb5)
          have HB5 : Hid (Below w1.heap.size w1 w5) := Lib.hid (HB4.out.trans (hb5.mono HB4.out.size))
          have hs5 := HB5.out.size
          clear hb5
          go_wp2_with (at_builtin; refine append_prms rfl (.tmp 56) (.tmp 62) rfl w1.heap.size _ L [⟨it.name, it.ty⟩] (some ⟨w4.heap.size, 0, none⟩) 1 rfl HO5.out rfl HONE.out (by have := HD.out.2.1; simp; omega) hs5 ?_)
          intro v6 w6 ho6 hb6
          have HB6 : Hid (Below w1.heap.size w1 w6) := Lib.hid (HB5.out.trans hb6)
          obtain ⟨A6, c6, rfl⟩ := own_form ho6
          have HO6 := Lib.hid ho6
          clear ho6 hb6 hw5
          go_wp2
          refine ⟨⟨k + 1, L ++ [⟨it.name, it.ty⟩], A6, c6, _, by omega, by go_num, rfl, by simp, by simpa using HO6.out, HB6.out, Lib.hid ⟨HSH5.out, by have := HD.out.2.1; simp; omega, HNX.out⟩⟩, by simp [intOf]; omega⟩
        · skip
          have hzb : (z != 0) = true := by simpa using hz0
          have hzc : (z == 0) = false := by simpa using hz0
          have HE : Hid (R = z) := Lib.hid (by
            have h := HST.out
            rw [HIT.out, if_pos hz0, HD.out.2.2] at h
            exact h)
          clear hz0
          go_wp2
          go_ret
          exact one_of HE.out HBw4.out
      by_cases hk12 : kd = 1 ∨ kd = 2
      · clear hk3
        rcases hk12 with rfl | rfl
        · skip
          have HIT : Hid (itemM ⟨strOf L, noN⟩ it = isM ⟨strOf L, noN⟩ it.e 1) := Lib.hid (by unfold itemM; rw [HKD.out]; simp)
          have HC3 := Lib.hid (HWE.out w3 1 (Below.refl _ _))
          obtain ⟨z, hz⟩ : ∃ z, isM ⟨strOf L, noN⟩ it.e 1 = z := ⟨_, rfl⟩
          rw [hz] at HC3 HIT
          clear hz
          go_wp2_with fail
          rw [HW3.out]
          go_wp2_with fail
          refine HC3.out.mono ?_
          rintro r w4 ⟨rfl, hb4⟩
          have HB34 : Hid (Below w3.heap.size w3 w4) := Lib.hid (hb4)
          have HB4 : Hid (Below w1.heap.size w1 w4) := Lib.hid (HB3.out.trans (HB34.out.mono HB3.out.size))
          have HBw4 : Hid (Below w.heap.size w w4) := Lib.hid (HBw3.out.trans (HB34.out.mono HBw3.out.size))
          have hX4 := (HB34.out.block _ l3').trans HX3.out
          have r04 : w4.cell? ⟨wr.heap.size, 0, none⟩ = some (.int .i64 1) := (cells_at hX4 0).trans rfl
          have r14 : w4.cell? ⟨wr.heap.size, 1, none⟩ = some (.string (str it.name)) := (cells_at hX4 1).trans rfl
          have r24 : w4.cell? ⟨wr.heap.size, 2, none⟩ = some (.int .i64 it.ty) := (cells_at hX4 2).trans rfl
          have r44 : w4.cell? ⟨wr.heap.size, 4, none⟩ = some (.slice Af nf cf) := (cells_at hX4 4).trans rfl
          have hs4 := HB4.out.size
          clear hb4 hX4
          by_cases hz0 : z = 0
          · subst hz0
            have HNX : Hid (itemsM (strOf L) (u.items.drop (k + 1)) = R) := Lib.hid (by
              have h := HST.out
              rw [HIT.out, if_neg (by simp), HD.out.2.2] at h
              rw [h]; unfold nextF; rw [if_neg (by rw [HKD.out]; omega)])
            have HO6 := Lib.hid (own_below HO3.out (HB34.out))
            go_wp2
            refine ⟨⟨k + 1, L, A, c, n, by omega, by go_num, rfl, HN.out, HO6.out, HB4.out, Lib.hid ⟨HD.out.1, by have := HD.out.2.1; omega, HNX.out⟩⟩, by simp [intOf]; omega⟩
          · skip
            have hzb : (z != 0) = true := by simpa using hz0
            have hzc : (z == 0) = false := by simpa using hz0
            have HE : Hid (R = z) := Lib.hid (by
              have h := HST.out
              rw [HIT.out, if_pos hz0, HD.out.2.2] at h
              exact h)
            clear hz0
            go_wp2
            go_ret
            exact one_of HE.out HBw4.out
        · skip
          have HIT : Hid (itemM ⟨strOf L, noN⟩ it = isM ⟨strOf L, noN⟩ it.e 1) := Lib.hid (by unfold itemM; rw [HKD.out]; simp)
          have HC3 := Lib.hid (HWE.out w3 1 (Below.refl _ _))
          obtain ⟨z, hz⟩ : ∃ z, isM ⟨strOf L, noN⟩ it.e 1 = z := ⟨_, rfl⟩
          rw [hz] at HC3 HIT
          clear hz
          go_wp2_with fail
          rw [HW3.out]
          go_wp2_with fail
          refine HC3.out.mono ?_
          rintro r w4 ⟨rfl, hb4⟩
          have HB34 : Hid (Below w3.heap.size w3 w4) := Lib.hid (hb4)
          have HB4 : Hid (Below w1.heap.size w1 w4) := Lib.hid (HB3.out.trans (HB34.out.mono HB3.out.size))
          have HBw4 : Hid (Below w.heap.size w w4) := Lib.hid (HBw3.out.trans (HB34.out.mono HBw3.out.size))
          have hX4 := (HB34.out.block _ l3').trans HX3.out
          have r04 : w4.cell? ⟨wr.heap.size, 0, none⟩ = some (.int .i64 2) := (cells_at hX4 0).trans rfl
          have r14 : w4.cell? ⟨wr.heap.size, 1, none⟩ = some (.string (str it.name)) := (cells_at hX4 1).trans rfl
          have r24 : w4.cell? ⟨wr.heap.size, 2, none⟩ = some (.int .i64 it.ty) := (cells_at hX4 2).trans rfl
          have r44 : w4.cell? ⟨wr.heap.size, 4, none⟩ = some (.slice Af nf cf) := (cells_at hX4 4).trans rfl
          have hs4 := HB4.out.size
          clear hb4 hX4
          by_cases hz0 : z = 0
          · subst hz0
            have HNX : Hid (itemsM (strOf L) (u.items.drop (k + 1)) = R) := Lib.hid (by
              have h := HST.out
              rw [HIT.out, if_neg (by simp), HD.out.2.2] at h
              rw [h]; unfold nextF; rw [if_neg (by rw [HKD.out]; omega)])
            have HO6 := Lib.hid (own_below HO3.out (HB34.out))
            go_wp2
            refine ⟨⟨k + 1, L, A, c, n, by omega, by go_num, rfl, HN.out, HO6.out, HB4.out, Lib.hid ⟨HD.out.1, by have := HD.out.2.1; omega, HNX.out⟩⟩, by simp [intOf]; omega⟩
          · skip
            have hzb : (z != 0) = true := by simpa using hz0
            have hzc : (z == 0) = false := by simpa using hz0
            have HE : Hid (R = z) := Lib.hid (by
              have h := HST.out
              rw [HIT.out, if_pos hz0, HD.out.2.2] at h
              exact h)
            clear hz0
            go_wp2
            go_ret
            exact one_of HE.out HBw4.out
      by_cases hk4 : kd = 4
      · clear hk3 hk12
        subst hk4
        have HIT : Hid (itemM ⟨strOf L, noN⟩ it = if isM ⟨strOf L, noN⟩ it.e 1 ≠ 0 then isM ⟨strOf L, noN⟩ it.e 1 else isM ⟨strOf L, noN⟩ it.f 1) := Lib.hid (by unfold itemM; rw [HKD.out]; simp)
        have HC3 := Lib.hid (HWE.out w3 1 (Below.refl _ _))
        obtain ⟨z, hz⟩ : ∃ z, isM ⟨strOf L, noN⟩ it.e 1 = z := ⟨_, rfl⟩
        rw [hz] at HC3 HIT
        clear hz
        go_wp2_with fail
        rw [HW3.out]
        go_wp2_with fail
        refine HC3.out.mono ?_
        rintro r w4 ⟨rfl, hb4⟩
        have HB34 : Hid (Below w3.heap.size w3 w4) := Lib.hid (hb4)
        have HB4 : Hid (Below w1.heap.size w1 w4) := Lib.hid (HB3.out.trans (HB34.out.mono HB3.out.size))
        have HBw4 : Hid (Below w.heap.size w w4) := Lib.hid (HBw3.out.trans (HB34.out.mono HBw3.out.size))
        have hX4 := (HB34.out.block _ l3').trans HX3.out
        have r04 : w4.cell? ⟨wr.heap.size, 0, none⟩ = some (.int .i64 4) := (cells_at hX4 0).trans rfl
        have r14 : w4.cell? ⟨wr.heap.size, 1, none⟩ = some (.string (str it.name)) := (cells_at hX4 1).trans rfl
        have r24 : w4.cell? ⟨wr.heap.size, 2, none⟩ = some (.int .i64 it.ty) := (cells_at hX4 2).trans rfl
        have r44 : w4.cell? ⟨wr.heap.size, 4, none⟩ = some (.slice Af nf cf) := (cells_at hX4 4).trans rfl
        have hs4 := HB4.out.size
        clear hb4 hX4
        by_cases hz0 : z = 0
        · subst hz0
          have HC4 := Lib.hid (HWF.out w4 1 HB34.out)
          have HIT2 : Hid (itemM ⟨strOf L, noN⟩ it = isM ⟨strOf L, noN⟩ it.f 1) := Lib.hid (by rw [HIT.out]; simp)
          obtain ⟨y, hy⟩ : ∃ z, isM ⟨strOf L, noN⟩ it.f 1 = z := ⟨_, rfl⟩
          rw [hy] at HC4 HIT2
          clear hy
          go_wp2_with fail
          refine HC4.out.mono ?_
          rintro r w5 ⟨rfl, hb4⟩
          have HB34 : Hid (Below w3.heap.size w3 w5) := Lib.hid (HB34.out.trans (hb4.mono HB34.out.size))
          have HB5 : Hid (Below w1.heap.size w1 w5) := Lib.hid (HB3.out.trans (HB34.out.mono HB3.out.size))
          have HBw5 : Hid (Below w.heap.size w w5) := Lib.hid (HBw3.out.trans (HB34.out.mono HBw3.out.size))
          have hX5 := (HB34.out.block _ l3').trans HX3.out
          have r05 : w5.cell? ⟨wr.heap.size, 0, none⟩ = some (.int .i64 4) := (cells_at hX5 0).trans rfl
          have r15 : w5.cell? ⟨wr.heap.size, 1, none⟩ = some (.string (str it.name)) := (cells_at hX5 1).trans rfl
          have r25 : w5.cell? ⟨wr.heap.size, 2, none⟩ = some (.int .i64 it.ty) := (cells_at hX5 2).trans rfl
          have r45 : w5.cell? ⟨wr.heap.size, 4, none⟩ = some (.slice Af nf cf) := (cells_at hX5 4).trans rfl
          have hs5 := HB5.out.size
          clear hb4 hX5
          by_cases hz0 : y = 0
          · subst hz0
            have HNX : Hid (itemsM (strOf L) (u.items.drop (k + 1)) = R) := Lib.hid (by
              have h := HST.out
              rw [HIT2.out, if_neg (by simp), HD.out.2.2] at h
              rw [h]; unfold nextF; rw [if_neg (by rw [HKD.out]; omega)])
            have HO6 := Lib.hid (own_below HO3.out (HB34.out))
            go_wp2
            refine ⟨⟨k + 1, L, A, c, n, by omega, by go_num, rfl, HN.out, HO6.out, HB5.out, Lib.hid ⟨HD.out.1, by have := HD.out.2.1; omega, HNX.out⟩⟩, by simp [intOf]; omega⟩
          · skip
            have hzb : (y != 0) = true := by simpa using hz0
            have hzc : (y == 0) = false := by simpa using hz0
            have HE : Hid (R = y) := Lib.hid (by
              have h := HST.out
              rw [HIT2.out, if_pos hz0, HD.out.2.2] at h
              exact h)
            clear hz0
            go_wp2
            go_ret
            exact one_of HE.out HBw5.out
        · skip
          have hzb : (z != 0) = true := by simpa using hz0
          have hzc : (z == 0) = false := by simpa using hz0
          have HE : Hid (R = z) := Lib.hid (by
            have h := HST.out
            rw [HIT.out, if_pos hz0, if_pos hz0, HD.out.2.2] at h
            exact h)
          clear hz0
          go_wp2
          go_ret
          exact one_of HE.out HBw4.out
      have HIT : Hid (itemM ⟨strOf L, noN⟩ it = 0) := Lib.hid (by unfold itemM; rw [HKD.out, if_neg hk12, if_neg hk4, if_neg hk3])
      have f1 : (kd == 1) = false := by simp; omega
      have f2 : (kd == 2) = false := by simp; omega
      have f3 : (kd == 3) = false := by simpa using hk3
      have f4 : (kd == 4) = false := by simpa using hk4
      have HK3 := Lib.hid hk3
      have HB34 : Hid (Below w3.heap.size w3 w3) := Lib.hid (Below.refl _ _)
      clear hk12 hk4 hk3
      go_wp2_with fail
      rw [HW3.out]
      have HNX : Hid (itemsM (strOf L) (u.items.drop (k + 1)) = R) := Lib.hid (by
        have h := HST.out
        rw [HIT.out, if_neg (by simp), HD.out.2.2] at h
        rw [h]; unfold nextF; rw [if_neg (by rw [HKD.out]; first | exact HK3.out | omega)])
      have HO6 := Lib.hid (own_below HO3.out (HB34.out))
      go_wp2
      refine ⟨⟨k + 1, L, A, c, n, by omega, by go_num, rfl, HN.out, HO6.out, HB3.out, Lib.hid ⟨HD.out.1, by have := HD.out.2.1; omega, HNX.out⟩⟩, by simp [intOf]; omega⟩
    · have hkl : k = u.items.length := by omega
      have HE : Hid (R = 0) := Lib.hid (by rw [← HD.out.2.2, hkl, List.drop_length]; rfl)
      have hkl' : (k : Int) = (u.items.length : Int) := by omega
      clear hkl
      go_wp2
      go_ret
      exact one_of HE.out HBw.out
end Go.Proofs.YtobkcdkffcenbaaGreatDoor.Ty

/- The document's Check of layer types. Conditions: what is checked reads as a program's units, that are not too large. -/
namespace Go.Proofs.YtobkcdkffcenbaaGreatDoor.Ty
open Go.ChangeShapes Go.WideShapes Go.ChangeAt Go.RowKit
open Go.Proofs.YtobkcdkffcenbaaGreatDoor.Tr
open Go.Proofs.YtobkcdkffcenbaaGreatDoor.Pg (Prm Eqn Itm Unt)
open Go.Proofs.YtobkcdkffcenbaaGreatDoor.Ow (PrmN EqnN ItmN UntN RowN rown_at rown_form)
theorem rown_take {α : Type} {K : Nat} {R : World → α → List Value → Prop} {w : World} {l : List α} {A : Option Addr} {c k : Nat} (h : RowN K R w l (.slice A l.length c)) (hk : k ≤ l.length) : RowN K R w (l.take k) (.slice A k c) := by
  obtain ⟨A', c', e, h1, h2, h3⟩ := h
  simp only [Value.slice.injEq, true_and] at e
  obtain ⟨rfl, rfl⟩ := e
  have hl : (l.take k).length = k := by rw [List.length_take]; omega
  exact ⟨A, c, by rw [hl], by omega, h2, fun i a ha => h3 i a (by
    have hi := (List.getElem?_eq_some_iff.1 ha).1
    rw [hl] at hi
    rw [List.getElem?_take_of_lt hi] at ha
    exact ha)⟩
theorem eqns_step (E : Env) {l : List Eqn} {k : Nat} {q : Eqn} (h : l[k]? = some q) : eqnsM E (l.drop k) = if eqnM E q ≠ 0 then eqnM E q else eqnsM E (l.drop (k + 1)) := by rw [drop_at h]; rfl
theorem env_at (L : List Prm) (us : List Unt) : envOf L us = ⟨strOf L, nodOf us⟩ := rfl
def SmallD (u : Unt) : Prop := u.ins.length ≤ 1000 ∧ u.vars.length ≤ 1000 ∧ u.items.length ≤ 1000
theorem streams_short {w : World} {u : Unt} {x : List Value} (hu : UntN w u x) : ∀ p ∈ streamsM u, p.name.length ≤ maxLen := fun p hp => by
  obtain ⟨iv, vv, qv, lv, -, u1, u2, -, -, -, hso⟩ := hu
  unfold streamsM at hp
  split at hp
  · exact names_short u1 p hp
  · simp at hp
    rcases hp with hp | rfl | hp
    · exact names_short u1 p hp
    · exact hso
    · exact names_short u2 p hp
set_option maxRecDepth 100000 in
set_option maxHeartbeats 16000000 in
theorem rcheck_any (us : List Unt) (uv : Value) (m b : Bytes) (w : World) (hu : RowN 8 UntN w us uv) (hsm : ∀ u ∈ us, SmallD u) :
    Calls Tryz.prog 8 #[.agg #[uv, .string (str m), .string (str b)]] w (FltPost w (checkM 0 noN us)) := by
  obtain ⟨R, hR⟩ : ∃ R, checkM 0 noN us = R := ⟨_, rfl⟩
  have HR : Hid (checkM 0 (nodOf (us.take 0)) (us.drop 0) = R) := Lib.hid hR
  rw [hR]
  have HU := Lib.hid hu
  have HSM := Lib.hid hsm
  obtain ⟨A, c, rfl, h1, h2, -⟩ := rown_form hu
  unfold maxLen at h2
  have N := news_two w (.cells #[.slice A us.length c, .string (str m), .string (str b)] 24) (.cells #[.int .i64 0, .int .i64 0] 29)
  obtain ⟨w1, hw1⟩ : ∃ W, (w.alloc (.cells #[.slice A us.length c, .string (str m), .string (str b)] 24)).alloc (.cells #[.int .i64 0, .int .i64 0] 29) = W := ⟨_, rfl⟩
  rw [hw1] at N
  have HB1 := Lib.hid N.1
  have HX1 := Lib.hid N.2.1
  have HZ1 := Lib.hid N.2.2
  have HW1 := Lib.hid hw1
  have HEND : Hid (∀ (wr : World) (p q : Int), Below w.heap.size w wr → (p, q) = R → ∀ e, e = Ending.returned (.agg #[.int .i64 p, .int .i64 q]) → FltPost w R e ((wr.setCell ⟨w.heap.size + 1, 0, none⟩ (.int .i64 p)).setCell ⟨w.heap.size + 1, 1, none⟩ (.int .i64 q))) := Lib.hid (fun wr p q hb h e he => by
    subst h; subst he
    exact ⟨rfl, (hb.setCell (by simp) _).setCell (by simp) _⟩)
  clear hR hu hsm N hw1
  go_enter Tryz.func8, Tryz.ntmps8
  go_wp2
  go_loopw [3] (fun i wr => ∃ (k : Nat), k ≤ us.length ∧ i = .int .i64 k ∧ Below w.heap.size w wr ∧ wr.heap[w.heap.size]? = some (.cells #[.slice A us.length c, .string (str m), .string (str b)] 24 (0, 0)) ∧ wr.heap[w.heap.size + 1]? = some (.cells #[.int .i64 0, .int .i64 0] 29 (0, 0)) ∧ Hid (checkM k (nodOf (us.take k)) (us.drop k) = R)) (fun i _ => us.length - (intOf i).toNat)
  case atStart => exact ⟨0, Nat.zero_le _, rfl, by rw [HW1.out]; exact HB1.out, by rw [HW1.out]; exact HX1.out, by rw [HW1.out]; exact HZ1.out, HR⟩
  case round =>
    obtain ⟨wo, rfl⟩ : ∃ W, W = wr := ⟨_, rfl⟩
    obtain ⟨k, hk, rfl, hb, hX, hZ, hm⟩ := hrel
    have HBk := Lib.hid hb
    have HZk := Lib.hid hZ
    have HXk := Lib.hid hX
    have lz := lt_of_block hZ
    have lX := lt_of_block hX
    have p0 : wo.cell? ⟨w.heap.size, 0, none⟩ = some (.slice A us.length c) := (cells_at hX 0).trans rfl
    by_cases hlt : k < us.length
    · obtain ⟨u, hu⟩ : ∃ u, us[k]? = some u := ⟨_, List.getElem?_eq_getElem hlt⟩
      obtain ⟨gg, o, c', x, hv', hgl, hux, hxl, hcell⟩ := rown_at HU.out hu
      simp only [Value.slice.injEq, true_and] at hv'
      obtain ⟨rfl, rfl⟩ := hv'
      have HUX := Lib.hid hux
      obtain ⟨iv, vv, qv, lv, rfl, z1, z2, z3, z4, -⟩ := hux
      have Z3 := Lib.hid z3
      obtain ⟨B1, d1, rfl, -, -, -⟩ := rown_form z1
      obtain ⟨B2, d2, rfl, -, -, -⟩ := rown_form z2
      obtain ⟨B3, d3, rfl, e31, e32, -⟩ := rown_form z3
      obtain ⟨B4, d4, rfl, -, -, -⟩ := rown_form z4
      unfold maxLen at e32
      have q : ∀ j, j < 8 → wo.cell? ⟨gg, o + k * 8 + j, none⟩ = _ := fun j hj => (hb.cell (p := ⟨gg, o + k * 8 + j, none⟩) hgl).trans (hcell j hj)
      have q0 : wo.cell? ⟨gg, o + k * 8, none⟩ = some (.bool u.contract) := q 0 (by omega)
      have q1 : wo.cell? ⟨gg, o + k * 8 + 1, none⟩ = some (.string (str u.name)) := q 1 (by omega)
      have q2 : wo.cell? ⟨gg, o + k * 8 + 2, none⟩ = some (.slice B1 u.ins.length d1) := q 2 (by omega)
      have q3 : wo.cell? ⟨gg, o + k * 8 + 3, none⟩ = some (.string (str u.out.name)) := q 3 (by omega)
      have q4 : wo.cell? ⟨gg, o + k * 8 + 4, none⟩ = some (.int .i64 u.out.ty) := q 4 (by omega)
      have q5 : wo.cell? ⟨gg, o + k * 8 + 5, none⟩ = some (.slice B2 u.vars.length d2) := q 5 (by omega)
      have q6 : wo.cell? ⟨gg, o + k * 8 + 6, none⟩ = some (.slice B3 u.eqs.length d3) := q 6 (by omega)
      have q7 : wo.cell? ⟨gg, o + k * 8 + 7, none⟩ = some (.slice B4 u.items.length d4) := q 7 (by omega)
      have hgr : gg < wo.heap.size := by have := hb.size; omega
      obtain ⟨w4, hw4⟩ : ∃ W, wo.alloc (.cells #[.bool u.contract, .string (str u.name), .slice B1 u.ins.length d1, .string (str u.out.name), .int .i64 u.out.ty, .slice B2 u.vars.length d2, .slice B3 u.eqs.length d3, .slice B4 u.items.length d4] 49) = W := ⟨_, rfl⟩
      have hb4 : Below wo.heap.size wo w4 := hw4 ▸ below_new wo _
      have hX4 : w4.heap[wo.heap.size]? = some (.cells #[.bool u.contract, .string (str u.name), .slice B1 u.ins.length d1, .string (str u.out.name), .int .i64 u.out.ty, .slice B2 u.vars.length d2, .slice B3 u.eqs.length d3, .slice B4 u.items.length d4] 49 (0, 0)) := hw4 ▸ heap_alloc_new wo _
      have hbw4 : Below w.heap.size w w4 := hb.trans (hb4.mono hb.size)
      have hsm := HSM.out u (List.mem_of_getElem? hu)
      have HIT := Lib.hid (ritems_any u _ w4 (Ow.UntN.below hbw4 _ _ HUX.out) hsm.1 hsm.2.1 hsm.2.2)
      have HSTR : Hid (∀ W, Below w.heap.size w W → Calls Tryz.prog 18 #[.agg #[.bool u.contract, .string (str u.name), .slice B1 u.ins.length d1, .string (str u.out.name), .int .i64 u.out.ty, .slice B2 u.vars.length d2, .slice B3 u.eqs.length d3, .slice B4 u.items.length d4]] W (OwnPost W (streamsM u))) := Lib.hid (fun W h => rstreams_any u _ W (Ow.UntN.below h _ _ HUX.out) hsm.1 hsm.2.1)
      have HSHT := Lib.hid (streams_short HUX.out)
      have HD : Hid ((if unitM (nodOf (us.take k)) u ≠ 0 then (unitM (nodOf (us.take k)) u, (k : Int)) else checkM (k + 1) (nodOf (us.take (k + 1))) (us.drop (k + 1))) = R) := Lib.hid (by rw [← hm.out, drop_at hu, nodOf_next us k u hu]; rfl)
      have HTK : Hid (∀ W, Below w.heap.size w W → RowN 8 UntN W (us.take k) (.slice (some ⟨gg, o, none⟩) k c)) := Lib.hid (fun W h => rown_take (HU.out.below h (Ow.UntN.below h)) (by omega))
      obtain ⟨z, hz⟩ : ∃ z, unitM (nodOf (us.take k)) u = z := ⟨_, rfl⟩
      obtain ⟨zi, hzi⟩ : ∃ z, itemsM (strOf (streamsM u)) u.items = z := ⟨_, rfl⟩
      obtain ⟨G, hG⟩ : ∃ G, nodOf (us.take k) = G := ⟨_, rfl⟩
      obtain ⟨L, hL⟩ : ∃ L, streamsM u = L := ⟨_, rfl⟩
      have HZU : Hid ((if zi ≠ 0 then zi else eqnsM ⟨strOf L, G⟩ u.eqs) = z) := Lib.hid (by rw [← hz, ← hzi, ← hG, ← hL]; rfl)
      rw [hzi] at HIT
      rw [hL] at HSTR HSHT
      rw [hz] at HD
      have HG := Lib.hid hG
      have HW4 := Lib.hid hw4
      have HB4 := Lib.hid hb4
      have HBW4 := Lib.hid hbw4
      have HX4 := Lib.hid hX4
      have lX4 := lt_of_block hX4
      have hkc : k ≤ c := by omega
      clear hu hcell hb hZ hX hm hw4 hb4 hbw4 hX4 hz hzi hG hL q hsm z1 z2 z3 z4
      go_wp2_with fail
      rw [HW4.out]
      go_wp2_with fail
      refine HIT.out.mono ?_
      rintro r w5 ⟨rfl, hb5⟩
      have HR5 : Hid (Below wo.heap.size wo w5) := Lib.hid (HB4.out.trans (hb5.mono HB4.out.size))
      have HB5 : Hid (Below w.heap.size w w5) := Lib.hid (HBW4.out.trans (hb5.mono HBW4.out.size))
      have hX5 := (hb5.block _ lX4).trans HX4.out
      have HX5 := Lib.hid hX5
      have lX5 := lt_of_block hX5
      have HC5 := Lib.hid (HSTR.out w5 HB5.out)
      have t0 : w5.cell? ⟨wo.heap.size, 0, none⟩ = some (.bool u.contract) := (cells_at hX5 0).trans rfl
      have t1 : w5.cell? ⟨wo.heap.size, 1, none⟩ = some (.string (str u.name)) := (cells_at hX5 1).trans rfl
      have t2 : w5.cell? ⟨wo.heap.size, 2, none⟩ = some (.slice B1 u.ins.length d1) := (cells_at hX5 2).trans rfl
      have t3 : w5.cell? ⟨wo.heap.size, 3, none⟩ = some (.string (str u.out.name)) := (cells_at hX5 3).trans rfl
      have t4 : w5.cell? ⟨wo.heap.size, 4, none⟩ = some (.int .i64 u.out.ty) := (cells_at hX5 4).trans rfl
      have t5 : w5.cell? ⟨wo.heap.size, 5, none⟩ = some (.slice B2 u.vars.length d2) := (cells_at hX5 5).trans rfl
      have t6 : w5.cell? ⟨wo.heap.size, 6, none⟩ = some (.slice B3 u.eqs.length d3) := (cells_at hX5 6).trans rfl
      have t7 : w5.cell? ⟨wo.heap.size, 7, none⟩ = some (.slice B4 u.items.length d4) := (cells_at hX5 7).trans rfl
      clear hb5 hX5
      go_wp2_with fail
      refine HC5.out.mono ?_
      rintro r w6 ⟨sv, rfl, hown, hb6⟩
      have HR6 : Hid (Below wo.heap.size wo w6) := Lib.hid (HR5.out.trans (hb6.mono HR5.out.size))
      have HB6 : Hid (Below w.heap.size w w6) := Lib.hid (HB5.out.trans (hb6.mono HB5.out.size))
      have HX6 := Lib.hid ((hb6.block _ lX5).trans HX5.out)
      have HSV : Hid (RowN 2 PrmN w6 L sv) := Lib.hid (rown_own hown HSHT.out)
      obtain ⟨As, cs, rfl, -, s2, -⟩ := rown_form HSV.out
      unfold maxLen at s2
      have lX6 := lt_of_block HX6.out
      have hs6 := hb6.size
      have HXP : Hid (∀ W, Below w6.heap.size w6 W → W.heap[w.heap.size]? = some (.cells #[.slice (some ⟨gg, o, none⟩) us.length c, .string (str m), .string (str b)] 24 (0, 0)) ∧ W.heap[w.heap.size + 1]? = some (.cells #[.int .i64 0, .int .i64 0] 29 (0, 0))) := Lib.hid (fun W h => by
        have h' := HR6.out.trans (h.mono HR6.out.size)
        exact ⟨(h'.block _ lX).trans HXk.out, (h'.block _ lz).trans HZk.out⟩)
      clear hown hb6
      go_wp2
      go_loopw [5, 7] (fun ce ck wx => ∃ (e : Int) (j : Nat), j ≤ u.eqs.length ∧ ce = .int .i64 e ∧ ck = .int .i64 j ∧ Below w6.heap.size w6 wx ∧ Hid ((e ≠ 0 → e = z) ∧ (e = 0 → eqnsM ⟨strOf L, G⟩ (u.eqs.drop j) = z))) (fun _ ck _ => u.eqs.length - (intOf ck).toNat)
      case atStart => exact ⟨zi, 0, Nat.zero_le _, rfl, rfl, Below.refl _ _, Lib.hid ⟨fun h => by have := HZU.out; rw [if_pos h] at this; exact this, fun h => by have := HZU.out; rw [if_neg (by simpa using h)] at this; exact this⟩⟩
      case round =>
        obtain ⟨e, j, hj, rfl, rfl, hbx, hE⟩ := hrel
        have HBX := Lib.hid hbx
        have hXx := (hbx.block _ lX6).trans HX6.out
        have u6 : wr.cell? ⟨wo.heap.size, 6, none⟩ = some (.slice B3 u.eqs.length d3) := (cells_at hXx 6).trans rfl
        have pp0 : wr.cell? ⟨w.heap.size, 0, none⟩ = some (.slice (some ⟨gg, o, none⟩) us.length c) := (cells_at (HXP.out wr hbx).1 0).trans rfl
        have lxx := lt_of_block hXx
        have lpp := lt_of_block (HXP.out wr hbx).1
        by_cases hjl : j < u.eqs.length
        · have dj : decide ((j : Int) < (u.eqs.length : Int)) = true := decide_eq_true (by omega)
          have dj' : decide (j < u.eqs.length) = true := decide_eq_true hjl
          by_cases he0 : e = 0
          · subst he0
            obtain ⟨qq, hq⟩ : ∃ q, u.eqs[j]? = some q := ⟨_, List.getElem?_eq_getElem hjl⟩
            obtain ⟨g3, o3, c3, xs, hv3, hg3, hpx, hxl, hcell⟩ := rown_at Z3.out hq
            simp only [Value.slice.injEq, true_and] at hv3
            obtain ⟨rfl, rfl⟩ := hv3
            obtain ⟨ev, rfl, hev, -, hqs⟩ := hpx
            have HWX : Hid (Below w.heap.size w wr) := Lib.hid (HB6.out.trans (hbx.mono HB6.out.size))
            have q0 : wr.cell? ⟨g3, o3 + j * 2 + 0, none⟩ = some (.string (str qq.name)) := (HWX.out.cell (p := ⟨g3, o3 + j * 2 + 0, none⟩) hg3).trans (hcell 0 (by omega))
            have q1 : wr.cell? ⟨g3, o3 + j * 2 + 1, none⟩ = some ev := (HWX.out.cell (p := ⟨g3, o3 + j * 2 + 1, none⟩) hg3).trans (hcell 1 (by omega))
            rw [Nat.add_zero] at q0
            have hgr3 : g3 < wr.heap.size := by have := HWX.out.size; omega
            have HEV := Lib.hid hev
            obtain ⟨Ae, ce, rfl, -⟩ := hev
            have HSX : Hid (RowN 2 PrmN wr L (.slice As L.length cs)) := Lib.hid (HSV.out.below hbx (Ow.PrmN.below hbx))
            have HSTM := Lib.hid (rstream_any _ L qq.name wr HSX.out)
            obtain ⟨⟨ty, is⟩, hsx⟩ : ∃ x, strB (strOf L qq.name) = x := ⟨_, rfl⟩
            have hst : Hid ((if eqnM ⟨strOf L, G⟩ qq ≠ 0 then eqnM ⟨strOf L, G⟩ qq else eqnsM ⟨strOf L, G⟩ (u.eqs.drop (j + 1))) = z) := Lib.hid (by rw [← eqns_step _ hq]; exact hE.out.2 rfl)
            rw [hsx] at HSTM
            have HWT : Hid (∀ W, Below wr.heap.size wr W → Calls Tryz.prog 20 #[.slice Ae qq.e.length ce, .slice As L.length cs, .slice (some ⟨gg, o, none⟩) k c, .int .i64 ty] W (OnePost W (isM ⟨strOf L, G⟩ qq.e ty))) := Lib.hid (fun W h => by
              have hw := HWX.out.trans (h.mono HWX.out.size)
              rw [← HG.out, ← env_at, ← want_is]
              exact rwant_any _ _ _ qq.e L (us.take k) ty W (HSX.out.below h (Ow.PrmN.below h)) (HTK.out W hw) (HEV.out.below hw (Nat.le_refl _)) hqs)
            have HSXX := Lib.hid hsx
            clear hbx hE hXx hq hcell hsx hqs
            go_wp2_with fail
            refine HSTM.out.mono ?_
            rintro r wy ⟨rfl, hwy⟩
            have hwy' := hwy.symm
            subst hwy'
            cases is with
            | false =>
              have HE8 : Hid (eqnM ⟨strOf L, G⟩ qq = 8) := Lib.hid (by
                have hs := HSXX.out
                unfold eqnM
                show (match strOf L qq.name with | none => (8 : Int) | some t => isM ⟨strOf L, G⟩ qq.e t) = 8
                cases hn : strOf L qq.name with
                | none => rfl
                | some t => rw [hn] at hs; simp [strB] at hs)
              have HZ8 : Hid ((8 : Int) = z) := Lib.hid (by have h := hst.out; rw [HE8.out] at h; simpa using h)
              go_wp2
              exact ⟨⟨8, j + 1, by omega, rfl, by go_num, HBX.out, Lib.hid ⟨fun _ => HZ8.out, fun h => by cases h⟩⟩, by simp [intOf]; omega⟩
            | true =>
              have HEQ : Hid (eqnM ⟨strOf L, G⟩ qq = isM ⟨strOf L, G⟩ qq.e ty) := Lib.hid (by
                have hs := HSXX.out
                unfold eqnM
                show (match strOf L qq.name with | none => (8 : Int) | some t => isM ⟨strOf L, G⟩ qq.e t) = _
                cases hn : strOf L qq.name with
                | none => rw [hn] at hs; simp [strB] at hs
                | some t => rw [hn] at hs; simp [strB] at hs; subst hs; rfl)
              obtain ⟨z', hz'⟩ : ∃ v, isM ⟨strOf L, G⟩ qq.e ty = v := ⟨_, rfl⟩
              have HQZ : Hid ((if z' ≠ 0 then z' else eqnsM ⟨strOf L, G⟩ (u.eqs.drop (j + 1))) = z) := Lib.hid (by have h := hst.out; rw [HEQ.out, hz'] at h; exact h)
              rw [hz'] at HWT
              have HWD := Lib.hid (HWT.out wr.drew (Tr.below_drewN (n := 1) (Below.refl _ _)))
              have dk : decide ((0 : Int) ≤ (k : Int)) = true := decide_eq_true (by omega)
              have dkc : decide ((k : Int) ≤ (c : Int)) = true := decide_eq_true (by omega)
              have dkc' : decide (k ≤ c) = true := decide_eq_true hkc
              clear hz' HSTM HSXX
              go_wp2
              go_region_with ((go_at_call 20; (with_reducible refine HWD.out.mono ?_); rintro r wz ⟨rfl, hbz⟩; have HBZ := Lib.hid (show Below wr.heap.size wr wz from (Tr.below_drewN (n := 1) (Below.refl _ _)).trans hbz); clear hbz))
              all_goals
                go_wp2
                exact ⟨⟨z', j + 1, by omega, rfl, by go_num, HBX.out.trans (HBZ.out.mono HBX.out.size), Lib.hid ⟨fun h => by have q := HQZ.out; rw [if_pos h] at q; exact q, fun h => by have q := HQZ.out; rw [if_neg (by simpa using h)] at q; exact q⟩⟩, by simp [intOf]; omega⟩
          · have heb : (e == 0) = false := by simpa using he0
            have hez : e = z := hE.out.1 he0
            clear hbx hE hXx
            subst hez
            have HWX : Hid (Below w.heap.size w wr) := Lib.hid (HB6.out.trans (HBX.out.mono HB6.out.size))
            have hZx := (HXP.out wr HBX.out).2
            have HZx := Lib.hid hZx
            have lzx := lt_of_block hZx
            by_cases hz0 : e = 0
            · exact absurd hz0 he0
            · have hzb : (e != 0) = true := by simpa using hz0
              have HRR : Hid ((e, (k : Int)) = R) := Lib.hid (by have h := HD.out; rw [if_pos hz0] at h; exact h)
              have y0 : wr.cell? ⟨w.heap.size + 1, 0, none⟩ = some (.int .i64 0) := (cells_at hZx 0).trans rfl
              have y1 : wr.cell? ⟨w.heap.size + 1, 1, none⟩ = some (.int .i64 0) := (cells_at hZx 1).trans rfl
              have f0 : wr.frozen? ⟨w.heap.size + 1, 0, none⟩ = false := Ex.free_at hZx 0
              have f1 : wr.frozen? ⟨w.heap.size + 1, 1, none⟩ = false := Ex.free_at hZx 1
              clear hZx hz0
              go_wp2
              have Z := Go.Proofs.YtobkcdkffcenbaaGreatDoor.Lp.set2 HZx.out (.int .i64 e) (.int .i64 (k : Int))
              have z0 := (cells_at Z 0).trans (show _ = some (.int .i64 e) from rfl)
              have z1 := (cells_at Z 1).trans (show _ = some (.int .i64 (k : Int)) from rfl)
              clear y0 y1 f0 f1
              exact bodyPost_ret (v := .agg #[.int .i64 e, .int .i64 (k : Int)]) (by simp [results, Tryz.results8, go_sem, z0, z1]) rfl (HEND.out wr e k HWX.out HRR.out _ rfl)
        · have dj : decide ((j : Int) < (u.eqs.length : Int)) = false := decide_eq_false (by omega)
          have dj' : decide (j < u.eqs.length) = false := decide_eq_false hjl
          have hez : e = z := by
            by_cases h0 : e = 0
            · have h := hE.out.2 h0
              rw [show j = u.eqs.length by omega, List.drop_length] at h
              rw [h0, ← h]; rfl
            · exact hE.out.1 h0
          clear hbx hE hXx
          subst hez
          have HWX : Hid (Below w.heap.size w wr) := Lib.hid (HB6.out.trans (HBX.out.mono HB6.out.size))
          have hZx := (HXP.out wr HBX.out).2
          have HZx := Lib.hid hZx
          have lzx := lt_of_block hZx
          by_cases hz0 : e = 0
          · subst hz0
            have HN2 : Hid (checkM (k + 1) (nodOf (us.take (k + 1))) (us.drop (k + 1)) = R) := Lib.hid (by have := HD.out; rw [if_neg (by simp)] at this; exact this)
            clear hZx
            go_wp2
            exact ⟨⟨k + 1, by omega, by go_num, HWX.out, (HXP.out wr HBX.out).1, HZx.out, HN2⟩, by simp [intOf]; omega⟩
          · have hzb : (e != 0) = true := by simpa using hz0
            have HRR : Hid ((e, (k : Int)) = R) := Lib.hid (by have h := HD.out; rw [if_pos hz0] at h; exact h)
            have y0 : wr.cell? ⟨w.heap.size + 1, 0, none⟩ = some (.int .i64 0) := (cells_at hZx 0).trans rfl
            have y1 : wr.cell? ⟨w.heap.size + 1, 1, none⟩ = some (.int .i64 0) := (cells_at hZx 1).trans rfl
            have f0 : wr.frozen? ⟨w.heap.size + 1, 0, none⟩ = false := Ex.free_at hZx 0
            have f1 : wr.frozen? ⟨w.heap.size + 1, 1, none⟩ = false := Ex.free_at hZx 1
            clear hZx hz0
            go_wp2
            have Z := Go.Proofs.YtobkcdkffcenbaaGreatDoor.Lp.set2 HZx.out (.int .i64 e) (.int .i64 (k : Int))
            have z0 := (cells_at Z 0).trans (show _ = some (.int .i64 e) from rfl)
            have z1 := (cells_at Z 1).trans (show _ = some (.int .i64 (k : Int)) from rfl)
            clear y0 y1 f0 f1
            exact bodyPost_ret (v := .agg #[.int .i64 e, .int .i64 (k : Int)]) (by simp [results, Tryz.results8, go_sem, z0, z1]) rfl (HEND.out wr e k HWX.out HRR.out _ rfl)
    · have hkl : k = us.length := by omega
      subst hkl
      have HRR : Hid (((0 : Int), (0 : Int)) = R) := Lib.hid (by rw [← hm.out, List.drop_length]; rfl)
      have y0 : wo.cell? ⟨w.heap.size + 1, 0, none⟩ = some (.int .i64 0) := (cells_at hZ 0).trans rfl
      have y1 : wo.cell? ⟨w.heap.size + 1, 1, none⟩ = some (.int .i64 0) := (cells_at hZ 1).trans rfl
      have f0 : wo.frozen? ⟨w.heap.size + 1, 0, none⟩ = false := Ex.free_at hZ 0
      have f1 : wo.frozen? ⟨w.heap.size + 1, 1, none⟩ = false := Ex.free_at hZ 1
      clear hb hZ hX hm
      go_wp2
      have Z := Go.Proofs.YtobkcdkffcenbaaGreatDoor.Lp.set2 HZk.out (.int .i64 0) (.int .i64 0)
      have z0 := (cells_at Z 0).trans (show _ = some (.int .i64 0) from rfl)
      have z1 := (cells_at Z 1).trans (show _ = some (.int .i64 0) from rfl)
      clear y0 y1 f0 f1
      exact bodyPost_ret (v := .agg #[.int .i64 0, .int .i64 0]) (by simp [results, Tryz.results8, go_sem, z0, z1]) rfl (HEND.out wo 0 0 HBk.out HRR.out _ rfl)
end Go.Proofs.YtobkcdkffcenbaaGreatDoor.Ty

