/- CodeChecks: the walk. Conditions: none. -/
import Derived.Test.YtcphjehjdhgheaaKvL
namespace Go.Proofs.Ytcphjehjdhgheaa.Nt
open Go.ChangeShapes Go.WideShapes Go.ChangeAt Go.RowKit Go.Proofs.Ytcphjehjdhgheaa.Tr
set_option linter.unusedVariables false
set_option linter.unusedSimpArgs false

set_option maxRecDepth 100000 in
set_option maxHeartbeats 8000000 in
theorem checks_walk (w : World) (iv ov pv : Value) (C : Cod) (h : CodR w iv ov pv C) (hw : CodW C) (hrw : W64 C.regs) (hsw : W64 C.slots) : Calls Try.prog 6 #[.agg #[iv, .int .i64 C.regs, .int .i64 C.slots, ov, pv]] w (fun e w' => e = .returned (.bool true) ∧ Below w.heap.size w w') := by
  have HH := Lib.hid h
  have HW := Lib.hid hw
  obtain ⟨cA, cc, rfl, -, -⟩ := h.1.form
  obtain ⟨oA, oc, rfl, -, -⟩ := ints_form h.2.1
  obtain ⟨qA, qc, rfl, -, -⟩ := ints_form h.2.2
  obtain ⟨li, hli⟩ : ∃ k, C.ins.length = k := ⟨_, rfl⟩
  obtain ⟨lo, hlo⟩ : ∃ k, C.outs.length = k := ⟨_, rfl⟩
  obtain ⟨lq, hlq⟩ : ∃ k, C.inp.length = k := ⟨_, rfl⟩
  obtain ⟨rg, hrg⟩ : ∃ k, C.regs = k := ⟨_, rfl⟩
  obtain ⟨sl, hsl⟩ : ∃ k, C.slots = k := ⟨_, rfl⟩
  have HR := Lib.hid hrg
  have HS := Lib.hid hsl
  have HLI := Lib.hid hli
  rw [hli, hlo, hlq] at HH
  rw [hli, hlo, hlq, hrg, hsl]
  obtain ⟨x, hx⟩ : ∃ W, w.alloc (.cells #[.slice cA li cc, .int .i64 rg, .int .i64 sl, .slice oA lo oc, .slice qA lq qc] 54) = W := ⟨_, rfl⟩
  have HX := Lib.hid hx
  have HBX : Hid (Below w.heap.size w x) := Lib.hid (by rw [← hx]; exact below_new _ _)
  have HXX : Hid (CodBox x w.heap.size 54 (.slice cA li cc) rg sl (.slice oA lo oc) (.slice qA lq qc)) := Lib.hid (by rw [← hx]; exact codbox_new _ _ _ _ _ _ _)
  have HCX : Hid (CodR x (.slice cA li cc) (.slice oA lo oc) (.slice qA lq qc) C) := Lib.hid ⟨HH.out.1.below HBX.out (Nat.le_refl _), HH.out.2.1.below HBX.out (Nat.le_refl _), HH.out.2.2.below HBX.out (Nat.le_refl _)⟩
  have HSM := Lib.hid (ksmall_any x _ _ _ C HCX.out)
  rw [HR.out, HS.out, hli, hlo, hlq] at HSM
  obtain ⟨K, hK⟩ : ∃ K, checkK C = K := ⟨_, rfl⟩
  have HK := Lib.hid hK
  obtain ⟨p0, p1, p2, p3, p4⟩ := HXX.out.ats
  clear h hw hx hli hlo hlq hrg hsl hK
  go_enter Try.func6, Try.ntmps6
  go_wp2_with fail
  try rw [HX.out]
  try go_wp2_with fail
  refine HSM.out.mono ?_
  rintro e w1 ⟨sb, rfl, hsb, hb1⟩
  have HB1 := Lib.hid hb1
  have HSB := Lib.hid hsb
  clear hb1 hsb p0 p1 p2 p3 p4
  cases sb with
  | false =>
    try simp only [Bool.not_false]
    go_wp2_with fail
    refine (live6_any w1).mono ?_
    rintro e w2 ⟨rfl, hb2⟩
    have HB2 : Hid (Below w.heap.size w w2) := Lib.hid (HBX.out.trans ((HB1.out.trans (hb2.mono HB1.out.size)).mono HBX.out.size))
    clear hb2
    go_wp2
    go_ret
    exact ⟨rfl, HB2.out⟩
  | true =>
    have hli6 : li ≤ 600 := (HSB.out rfl).1
    have HXK : Hid (∀ V, Below x.heap.size x V → CodR V (.slice cA li cc) (.slice oA lo oc) (.slice qA lq qc) C) := Lib.hid (fun V hV => ⟨HCX.out.1.below hV (Nat.le_refl _), HCX.out.2.1.below hV (Nat.le_refl _), HCX.out.2.2.below hV (Nat.le_refl _)⟩)
    have HKS : Hid (∀ V, Below x.heap.size x V → V.cell? ⟨w.heap.size, 0, none⟩ = some (.slice cA li cc) ∧ V.cell? ⟨w.heap.size, 1, none⟩ = some (.int .i64 rg) ∧ V.cell? ⟨w.heap.size, 2, none⟩ = some (.int .i64 sl) ∧ V.cell? ⟨w.heap.size, 3, none⟩ = some (.slice oA lo oc) ∧ V.cell? ⟨w.heap.size, 4, none⟩ = some (.slice qA lq qc)) := Lib.hid (fun V hV => (HXX.out.below hV HXX.out.lt).ats)
    have HOWN : Hid (∀ V, Below x.heap.size x V → Calls Try.prog 34 #[.agg #[.slice cA li cc, .int .i64 rg, .int .i64 sl, .slice oA lo oc, .slice qA lq qc]] V (fun e w' => ∃ A c, e = .returned (.agg #[.slice A li c, .int .i64 rg, .int .i64 sl, .slice oA lo oc, .slice qA lq qc]) ∧ InsR w' (.slice A li c) C.ins ∧ Below V.heap.size V w')) := Lib.hid (fun V hV => by
      have h1 := mown_any V _ _ _ C (HXK.out V hV) (by rw [HLI.out]; omega)
      rw [HR.out, HS.out] at h1
      refine h1.mono ?_
      rintro e w' ⟨iv', rfl, hi, hb⟩
      obtain ⟨A, c, rfl, -, -⟩ := hi.form
      rw [HLI.out] at hi
      exact ⟨A, c, by rw [HLI.out], hi, hb⟩)
    have HDC : Hid (∀ V, Below x.heap.size x V → Calls Try.prog 35 #[.agg #[.slice cA li cc, .int .i64 rg, .int .i64 sl, .slice oA lo oc, .slice qA lq qc]] V (fun e w' => e = .returned (.int .i64 K) ∧ Below V.heap.size V w')) := Lib.hid (fun V hV => by
      have h1 := kcheck_any V _ _ _ C (HXK.out V hV)
      rw [HR.out, HS.out, HK.out] at h1
      exact h1)
    have HCC : Hid (∀ V A c, Below x.heap.size x V → InsR V (.slice A li c) C.ins → Calls Try.prog 33 #[.agg #[.slice A li c, .int .i64 rg, .int .i64 sl, .slice oA lo oc, .slice qA lq qc]] V (fun e w' => e = .returned (.int .i64 K) ∧ Below V.heap.size V w')) := Lib.hid (fun V A c hV hi => by
      have h1 := ccheck_any V _ _ _ C ⟨hi, (HXK.out V hV).2.1, (HXK.out V hV).2.2⟩ HW.out
      rw [HR.out, HS.out, HK.out] at h1
      exact h1)
    have HBcur : Hid (Below x.heap.size x w1.drew) := Lib.hid HB1.out.drew
    have HB10 := Lib.hid HB1.out
    try simp only [Bool.not_true]
    clear HSM HSB
    go_wp2_with fail
    go_region_held3 (fun V => V.cell? ⟨w.heap.size, 0, none⟩ = some (.slice cA li cc) ∧ V.cell? ⟨w.heap.size, 1, none⟩ = some (.int .i64 rg) ∧ V.cell? ⟨w.heap.size, 2, none⟩ = some (.int .i64 sl) ∧ V.cell? ⟨w.heap.size, 3, none⟩ = some (.slice oA lo oc) ∧ V.cell? ⟨w.heap.size, 4, none⟩ = some (.slice qA lq qc))
      (first | exact HKS.out _ HBcur.out | exact HKS.out _ HB10.out)
      (first
        | (go_at_call 34; with_reducible refine (HOWN.out _ HBcur.out).mono ?_; rintro e z1 ⟨A1, c1, rfl, hi1, hbz⟩; have HBown := Lib.hid (Below.refl z1.heap.size z1); have HBcur := Lib.hid (HBcur.out.trans (hbz.mono HBcur.out.size)); have HI1 := Lib.hid hi1; clear hbz hi1)
        | (go_at_call 33; with_reducible refine (HCC.out _ _ _ HBcur.out HI1.out).mono ?_; rintro e z2 ⟨rfl, hbz⟩; have HBcur := Lib.hid (HBcur.out.trans (hbz.mono HBcur.out.size)); clear hbz)
        | (go_at_call 35; have HI0 := HI1; with_reducible refine (HDC.out _ HBcur.out).mono ?_; rintro e z3 ⟨rfl, hbz⟩; have HI1 := Lib.hid (HI0.out.below hbz (Nat.le_refl _)); have HBcur := Lib.hid (HBcur.out.trans (hbz.mono HBcur.out.size)); clear hbz HI0)
        | (go_at_call 35; with_reducible refine (HDC.out _ HBcur.out).mono ?_; rintro e z3 ⟨rfl, hbz⟩; have HBcur := Lib.hid (HBcur.out.trans (hbz.mono HBcur.out.size)); clear hbz)
        | (go_at_call 32; with_reducible refine (live6_any _).mono ?_; rintro e z4 ⟨rfl, hbz⟩; have HBcur := Lib.hid (HBcur.out.trans (hbz.mono HBcur.out.size)); clear hbz))
    all_goals
      go_wp2
      go_ret
      exact ⟨rfl, HBX.out.trans (HBcur.out.mono HBX.out.size)⟩
end Go.Proofs.Ytcphjehjdhgheaa.Nt
