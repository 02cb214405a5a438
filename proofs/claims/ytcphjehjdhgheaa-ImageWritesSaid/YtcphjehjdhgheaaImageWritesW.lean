/- ImageWrites: the walk. Conditions: none. -/
import Derived.Test.YtcphjehjdhgheaaImL
import Derived.Test.YtcphjehjdhgheaaImG
namespace Go.Proofs.Ytcphjehjdhgheaa.Nt
open Go.ChangeShapes Go.WideShapes Go.ChangeAt Go.RowKit Go.Proofs.Ytcphjehjdhgheaa.Tr
set_option linter.unusedVariables false
set_option linter.unusedSimpArgs false

set_option maxRecDepth 100000 in
set_option maxHeartbeats 8000000 in
theorem writes_walk (w : World) (iv ov pv : Value) (C : Cod) (h : CodR w iv ov pv C) (hw : CodW C) (hrw : W64 C.regs) (hsw : W64 C.slots) : Calls Try.prog 11 #[.agg #[iv, .int .i64 C.regs, .int .i64 C.slots, ov, pv]] w (fun e w' => e = .returned (.bool true) ∧ Below w.heap.size w w') := by
  have HH := Lib.hid h
  have HW := Lib.hid hw
  obtain ⟨cA, cc, rfl, -, -⟩ := h.1.form
  obtain ⟨oA, oc, rfl, -, -⟩ := ints_form h.2.1
  obtain ⟨qA, qc, rfl, -, -⟩ := ints_form h.2.2
  obtain ⟨li, hli⟩ : ∃ k, C.ins.length = k := ⟨_, rfl⟩
  obtain ⟨lo, hlo⟩ : ∃ k, C.outs.length = k := ⟨_, rfl⟩
  obtain ⟨lq, hlq⟩ : ∃ k, C.inp.length = k := ⟨_, rfl⟩
  obtain ⟨rg, hrg⟩ : ∃ k, C.regs = k := ⟨_, rfl⟩
  obtain ⟨sl, hsl⟩ : ∃ k, C.slots = k := ⟨_, rfl⟩
  have HZ : Hid (Sz C li rg sl lo lq) := Lib.hid ⟨hli, hrg, hsl, hlo, hlq⟩
  rw [hli, hlo, hlq] at HH
  rw [hli, hlo, hlq, hrg, hsl]
  obtain ⟨x, hx⟩ : ∃ W, w.alloc (.cells #[.slice cA li cc, .int .i64 rg, .int .i64 sl, .slice oA lo oc, .slice qA lq qc] 54) = W := ⟨_, rfl⟩
  have HX := Lib.hid hx
  have HBX : Hid (Below w.heap.size w x) := Lib.hid (by rw [← hx]; exact below_new _ _)
  have HXX : Hid (CodBox x w.heap.size 54 (.slice cA li cc) rg sl (.slice oA lo oc) (.slice qA lq qc)) := Lib.hid (by rw [← hx]; exact codbox_new _ _ _ _ _ _ _)
  have HCX : Hid (CodR x (.slice cA li cc) (.slice oA lo oc) (.slice qA lq qc) C) := Lib.hid (HH.out.below HBX.out (Nat.le_refl _))
  have HSM := Lib.hid (ksmall_any x _ _ _ C HCX.out)
  rw [hrg, hsl, hli, hlo, hlq] at HSM
  have HLV : Hid (∀ V, Below x.heap.size x V → Calls Try.prog 40 #[] V (fun e w' => e = .returned (.bool true) ∧ Below w.heap.size w w')) := Lib.hid (fun V hV => (live7_any V).mono (by
    rintro e w2 ⟨rfl, hb2⟩
    exact ⟨rfl, HBX.out.trans ((hV.trans (hb2.mono hV.size)).mono HBX.out.size)⟩))
  obtain ⟨p0, p1, p2, p3, p4⟩ := HXX.out.ats
  clear h hw hx hli hlo hlq hrg hsl
  go_enter Try.func11, Try.ntmps11
  go_wp2_with fail
  try rw [HX.out]
  try go_wp2_with fail
  refine HSM.out.mono ?_
  rintro e w1 ⟨sb, rfl, hsb, hb1⟩
  have HB1 := Lib.hid hb1
  obtain ⟨q0, q1, q2, q3, q4⟩ := (HXX.out.below hb1 HXX.out.lt).ats
  clear hb1 p0 p1 p2 p3 p4 HSM
  cases sb with
  | false =>
    clear hsb
    go_wp2_with fail
    refine (HLV.out w1 HB1.out).mono ?_
    rintro e w2 ⟨rfl, hb2⟩
    have HB2 := Lib.hid hb2
    clear hb2
    go_wp2
    go_ret
    exact ⟨rfl, HB2.out⟩
  | true =>
    obtain ⟨hli6, hr3, hs3, ho6, hq6⟩ := hsb rfl
    have HC1 := Lib.hid (HCX.out.below HB1.out (Nat.le_refl _))
    have HO := Lib.hid (mown_lit w1 cA cc _ _ C li rg sl lo lq HZ.out HC1.out (by omega))
    obtain ⟨S, hS⟩ : ∃ S, bs (encM C) = S := ⟨_, rfl⟩
    obtain ⟨F, hF⟩ : ∃ F, encF C = F := ⟨_, rfl⟩
    have HS := Lib.hid hS
    have HF := Lib.hid hF
    clear hsb hS hF
    go_wp2_with fail
    refine HO.out.mono ?_
    rintro e w2 ⟨A2, c2, rfl, hr2, hb2⟩
    have HB2 : Hid (Below x.heap.size x w2) := Lib.hid (HB1.out.trans (hb2.mono HB1.out.size))
    have HR2 := Lib.hid hr2
    clear hr2 hb2 HO q0 q1 q2 q3 q4
    go_wp2_with fail
    refine (enc_lit w2 _ _ _ C li rg sl lo lq HZ.out HR2.out HW.out (by omega) (by omega) S HS.out F HF.out).mono ?_
    rintro e w3 ⟨rfl, hb3⟩
    have HB3 : Hid (Below x.heap.size x w3) := Lib.hid (HB2.out.trans (hb3.mono HB2.out.size))
    obtain ⟨q0, q1, q2, q3, q4⟩ := (HXX.out.below HB3.out HXX.out.lt).ats
    have HC3 := Lib.hid (HCX.out.below HB3.out (Nat.le_refl _))
    have HJ : Hid (Calls Try.prog 42 #[.agg #[.slice cA li cc, .int .i64 rg, .int .i64 sl, .slice oA lo oc, .slice qA lq qc]] w3 (fun e w' => e = .returned (.tuple #[.string S, .int .i64 F]) ∧ Below w3.heap.size w3 w')) := Lib.hid (by
      have h1 := jenc_any w3 _ _ _ C HC3.out (by rw [HZ.out.inp]; omega) (by rw [HZ.out.outs]; omega)
      rw [HZ.out.regs, HZ.out.slots, HS.out, HF.out] at h1
      exact h1)
    clear hb3
    go_wp2_with fail
    refine HJ.out.mono ?_
    rintro e w4 ⟨rfl, hb4⟩
    have HB4 : Hid (Below x.heap.size x w4) := Lib.hid (HB3.out.trans (hb4.mono HB3.out.size))
    clear hb4 HJ q0 q1 q2 q3 q4
    go_wp2_with fail
    refine (HLV.out w4 HB4.out).mono ?_
    rintro e w5 ⟨rfl, hb5⟩
    have HB5 := Lib.hid hb5
    clear hb5
    go_wp2
    go_ret
    exact ⟨rfl, HB5.out⟩
end Go.Proofs.Ytcphjehjdhgheaa.Nt
