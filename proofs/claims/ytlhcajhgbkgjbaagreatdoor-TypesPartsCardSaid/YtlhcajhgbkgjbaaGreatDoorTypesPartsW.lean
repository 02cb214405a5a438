/- TypesParts: the walk. Conditions: none. -/
import Derived.Test.YtlhcajhgbkgjbaaGreatDoorRa18
set_option linter.unusedVariables false
set_option linter.unusedSimpArgs false
namespace Go.Proofs.YtlhcajhgbkgjbaaGreatDoor.typesParts
open Go.ChangeShapes Go.WideShapes Go.ChangeAt Go.RowKit Tr
open Pg (Prm Unt)
open Go.Proofs.YtlhcajhgbkgjbaaGreatDoor.Ty
set_option maxRecDepth 100000 in
set_option maxHeartbeats 8000000 in
theorem walk (w : World) (hT : ShAt w) (v : Value) (e : List Nd) (hv : Nodes w v e) (hs : Short e) (pv : Value) (l : List Prm) (hp : Ow.RowN 2 Ow.PrmN w l pv) (uv : Value) (us : List Unt) (hu : Op.RowN 8 Op.UntN w us uv) :
    Calls Tryz.prog 5 #[v, pv, uv] w fun r w' => r = .returned (.bool true) /\ Below w.heap.size w w' := by
  have hu' := Ow.row_of (S := Ow.UntN) hu (fun a x h => Ow.unt_of a x h)
  have HV := Lib.hid hv
  have HO : Hid (∀ (W : World) (v' : Value) (e' : List Nd) (x : Int × Int), Below w.heap.size w W -> Nodes W v' e' -> Short e' -> tyM (kfh l us) e' = x -> Calls Tryz.prog 9 #[v', pv, uv] W (fun r W' => r = .returned (.tuple #[.int .i64 x.1, .int .i64 x.2]) /\ Below w.heap.size w W')) := Lib.hid (fun W v' e' x h hv' hs' hx => by
    have := Of_any v' pv uv e' l us W (hT.below h hT.1) hv' hs' (hp.below h (Ow.PrmN.below h)) (hu'.below h (Ow.UntN.below h))
    rw [hx] at this
    exact this.mono (fun r W' hh => ⟨hh.1, h.trans (hh.2.mono h.size)⟩))
  have HL : Hid (∀ W, Below w.heap.size w W -> Calls Tryz.prog 8 #[] W (fun r W' => r = .returned (.bool true) /\ Below w.heap.size w W')) := Lib.hid (fun W h => (live_any W (hT.below h hT.1)).mono (fun r W' hh => ⟨hh.1, h.trans (hh.2.mono h.size)⟩))
  have HSH := Lib.hid hs
  obtain ⟨A, c, rfl, h1, h2, hA⟩ := hv
  have HA := Lib.hid hA
  obtain ⟨Ap, cp, rfl, p1, p2, -⟩ := Ow.rown_form hp
  obtain ⟨Au, cu, rfl, u1, u2, -⟩ := Op.rown_form hu
  have HSM : Hid (Calls Tryz.prog 7 #[.agg #[.slice Au us.length cu, .string ⟨#[]⟩, .string ⟨#[]⟩]] w (In.SmallPost w us)) := Lib.hid (In.small_any us _ [] [] w hu)
  unfold maxLen at h2 p2 u2
  have HP := Lib.hid hp
  have HU := Lib.hid hu'
  clear hA hp hu hu' hs
  by_cases hf : (e.length : Int) <= 300
  rotate_left
  · have hd : decide ((300 : Int) < (e.length : Int)) = true := decide_eq_true (by omega)
    have hd' : decide (300 < e.length) = true := decide_eq_true (by omega)
    go_enter Tryz.func5, Tryz.ntmps5
    go_wp2_with fail
    refine (HL.out _ (Below.refl _ _)).mono ?_
    rintro r w9 ⟨rfl, hb9⟩
    have HB9 := Lib.hid hb9
    clear hb9
    go_wp2
    go_ret
    exact ⟨rfl, HB9.out⟩
  have hd : decide ((300 : Int) < (e.length : Int)) = false := decide_eq_false (by omega)
  have hd' : decide (300 < e.length) = false := decide_eq_false (by omega)
  have hn : e.length <= 300 := by omega
  clear hf
  by_cases hf : (l.length : Int) <= 60
  rotate_left
  · have hd : decide ((60 : Int) < (l.length : Int)) = true := decide_eq_true (by omega)
    have hd' : decide (60 < l.length) = true := decide_eq_true (by omega)
    go_enter Tryz.func5, Tryz.ntmps5
    go_wp2_with fail
    refine (HL.out _ (Below.refl _ _)).mono ?_
    rintro r w9 ⟨rfl, hb9⟩
    have HB9 := Lib.hid hb9
    clear hb9
    go_wp2
    go_ret
    exact ⟨rfl, HB9.out⟩
  have hdl : decide ((60 : Int) < (l.length : Int)) = false := decide_eq_false (by omega)
  have hdl' : decide (60 < l.length) = false := decide_eq_false (by omega)
  clear hf
  obtain ⟨⟨t, f⟩, htf⟩ : ∃ y, tyM (kfh l us) e = y := ⟨_, rfl⟩
  have HTF := Lib.hid htf
  clear htf
  go_enter Tryz.func5, Tryz.ntmps5
  go_wp2_with fail
  refine HSM.out.mono ?_
  rintro r w1 ⟨B, rfl, hb1, hsm⟩
  have HB1 := Lib.hid hb1
  clear hb1 hsm
  cases B with
  | false =>
    go_wp2_with fail
    refine (HL.out _ HB1.out).mono ?_
    rintro r w9 ⟨rfl, hb9⟩
    have HB9 := Lib.hid hb9
    clear hb9
    go_wp2
    go_ret
    exact ⟨rfl, HB9.out⟩
  | true =>
    go_wp2_with fail
    refine (HO.out w1 _ e _ HB1.out (HV.out.below HB1.out (Nat.le_refl _)) HSH.out HTF.out).mono ?_
    rintro r w2 ⟨rfl, hb2⟩
    have HB2 := Lib.hid hb2
    clear hb2
    by_cases hf0 : f = 0
    rotate_left
    · have hfb : (f != 0) = true := by simpa using hf0
      have ht0 : t = 0 := by
        have := tyM_bad (E := kfh l us) (e := e) (by rw [HTF.out]; exact hf0)
        rw [HTF.out] at this; exact this
      subst ht0
      clear hf0
      go_wp2_with fail
      refine (HL.out _ HB2.out).mono ?_
      rintro r w9 ⟨rfl, hb9⟩
      have HB9 := Lib.hid hb9
      clear hb9
      go_wp2
      go_ret
      exact ⟨rfl, HB9.out⟩
    subst hf0
    have HMR : Hid (mayB e = true /\ ∃ r, tyT (kfh l us) (root e) = .ok r) := Lib.hid (tyM_zero.1 (by rw [HTF.out]))
    have HSUB : Hid (∀ W (k : Nat), Below w.heap.size w W -> Calls Tryz.prog 13 #[.slice A e.length c, .int .i64 (k : Int)] W (fun r W' => ∃ v, r = .returned v /\ Nodes W' v (subM e (k : Int)) /\ Below w.heap.size w W')) := Lib.hid (fun W k h =>
      (kj7 _ e (k : Int) W (HV.out.below h (Nat.le_refl _))).mono (fun r W' ⟨v, h1, h2, h3⟩ => ⟨v, h1, Nodes.of_own h2, h.trans (h3.mono h.size)⟩))
    have HNRM : Hid (∀ W, Below w.heap.size w W -> Calls Tryz.prog 14 #[.slice A e.length c] W (fun r W' => ∃ v, r = .returned v /\ Nodes W' v (kbR e) /\ Below w.heap.size w W')) := Lib.hid (fun W h =>
      (rnorm_any _ e W (HV.out.below h (Nat.le_refl _))).mono (fun r W' ⟨v, h1, h2, h3⟩ => ⟨v, h1, by
        have h4 : normB e = kbR e := kj2 (ker HMR.out.1)
        rw [h4] at h2
        exact Nodes.of_own h2, h.trans (h3.mono h.size)⟩))
    have hz2 := HB2.out.size
    go_wp2
    go_loopw [9] (fun i wr => ∃ k : Nat, k <= e.length /\ i = .int .i64 k /\ Below w.heap.size w wr) (fun i _ => e.length - (intOf i).toNat)
    case atStart => exact ⟨0, Nat.zero_le _, rfl, HB2.out⟩
    case round =>
      obtain ⟨k, hk, rfl, hb⟩ := hrel
      have HB := Lib.hid hb
      by_cases hlt : k < e.length
      · obtain ⟨x, hx⟩ : ∃ x, e[k]? = some x := ⟨_, List.getElem?_eq_getElem hlt⟩
        obtain ⟨g, o, rfl, hg, a0, -⟩ := HA.out k x hx
        have HC0 := Lib.hid ((hb.cell (p := ⟨g, o + k * 6, none⟩) hg).trans a0)
        have HGL : Hid (∀ W, Below w.heap.size w W -> g < W.heap.size /\ W.cell? ⟨g, o + k * 6, none⟩ = some (.int .i64 x.op)) := Lib.hid (fun W h => ⟨by have := h.size; omega, (h.cell (p := ⟨g, o + k * 6, none⟩) hg).trans a0⟩)
        have hC1 := HSUB.out wr k hb
        have HC1 := Lib.hid hC1
        have HSS : Hid (Short (subM e (k : Int))) := Lib.hid (by
          have hm := ker HMR.out.1
          rw [sub_at hm hlt]; exact kjK hm HSH.out hlt)
        obtain ⟨⟨p, q⟩, hpq⟩ : ∃ y, tyM (kfh l us) (subM e (k : Int)) = y := ⟨_, rfl⟩
        have HPQ := Lib.hid hpq
        have HQ : Hid (x.op ≠ 28 -> q = 0) := Lib.hid (fun h => by
          obtain ⟨hm, r, hr⟩ := HMR.out
          have := part_ty (kfh l us) (ker hm) hr hx h
          rw [HPQ.out] at this; exact this)
        obtain ⟨op, hop⟩ : ∃ op, x.op = op := ⟨_, rfl⟩
        rw [hop] at HGL HQ
        clear hx a0 hb hC1 hpq hop HC0
        go_wp2_with fail
        refine HC1.out.mono ?_
        rintro r w3 ⟨sv, rfl, hsv, hb3⟩
        have HB3 := Lib.hid hb3
        have HC2 := Lib.hid (HO.out w3 sv _ _ hb3 hsv HSS.out HPQ.out)
        obtain ⟨A3, c3, rfl, -⟩ := hsv
        clear hb3
        go_wp2_with fail
        refine HC2.out.mono ?_
        rintro r w4 ⟨rfl, hb4⟩
        have HB4 := Lib.hid hb4
        obtain ⟨hg4, c4⟩ := HGL.out w4 hb4
        clear hb4
        by_cases h28 : op = 28
        · have b28 : (op != 28) = false := by simp [h28]
          clear h28
          go_wp2
          refine ⟨⟨k + 1, by omega, by go_num, HB4.out⟩, by simp [intOf]; omega⟩
        · have b28 : (op != 28) = true := by simpa using h28
          have hq0 : q = 0 := HQ.out h28
          subst hq0
          clear h28
          go_wp2
          refine ⟨⟨k + 1, by omega, by go_num, HB4.out⟩, by simp [intOf]; omega⟩
      · have hkl : k = e.length := by omega
        subst hkl
        have HC1 := Lib.hid (HNRM.out wr hb)
        have HSN : Hid (Short (kbR e)) := Lib.hid (keS (ker HMR.out.1) HSH.out)
        have HPN : Hid (tyM (kfh l us) (kbR e) = (t, 0)) := Lib.hid (by rw [keM _ (ker HMR.out.1)]; exact HTF.out)
        have htt : (t == t) = true := by simp
        clear hb
        go_wp2_with fail
        refine HC1.out.mono ?_
        rintro r w3 ⟨sv, rfl, hsv, hb3⟩
        have HB3 := Lib.hid hb3
        have HC2 := Lib.hid (HO.out w3 sv _ _ hb3 hsv HSN.out HPN.out)
        obtain ⟨A3, c3, rfl, -⟩ := hsv
        clear hb3
        go_wp2_with fail
        refine HC2.out.mono ?_
        rintro r w4 ⟨rfl, hb4⟩
        have HB4 := Lib.hid hb4
        clear hb4
        go_wp2_with fail
        refine (HL.out _ HB4.out).mono ?_
        rintro r w9 ⟨rfl, hb9⟩
        have HB9 := Lib.hid hb9
        clear hb9
        go_wp2
        go_ret
        exact ⟨rfl, HB9.out⟩
end Go.Proofs.YtlhcajhgbkgjbaaGreatDoor.typesParts
