/- ImageApart: the walk. Conditions: none. -/
import Derived.Test.YtcphjehjdhgheaaImL
namespace Go.Proofs.Ytcphjehjdhgheaa.Nt
open Go.ChangeShapes Go.WideShapes Go.ChangeAt Go.RowKit Go.Proofs.Ytcphjehjdhgheaa.Tr
set_option linter.unusedVariables false
set_option linter.unusedSimpArgs false

theorem apart_enc {C D : Cod} (hc : encF C = 0) (hd : encF D = 0) : ((bs (encM C)).toList == (bs (encM D)).toList) = sameB C D := by
  rw [bs_list, bs_list]
  have e1 : encM C = bytesM C := by unfold encM; rw [if_pos hc]
  have e2 : encM D = bytesM D := by unfold encM; rw [if_pos hd]
  by_cases h : C = D
  · subst h
    rw [same_eq.2 rfl]; simp
  · have h1 : sameB C D = false := by
      cases hs : sameB C D with
      | false => rfl
      | true => exact absurd (same_eq.1 hs) h
    have h2 : encM C ≠ encM D := fun e => h (bytes_inj hc hd (by rw [← e1, ← e2, e]))
    rw [h1]
    exact beq_false_of_ne h2
set_option maxRecDepth 100000 in
set_option maxHeartbeats 8000000 in
theorem apart_walk (w : World) (iv ov pv : Value) (C : Cod) (h : CodR w iv ov pv C) (hw : CodW C) (hrw : W64 C.regs) (hsw : W64 C.slots) (iu ou pu : Value) (D : Cod) (k : CodR w iu ou pu D) (kw : CodW D) (krw : W64 D.regs) (ksw : W64 D.slots) : Calls Try.prog 12 #[.agg #[iv, .int .i64 C.regs, .int .i64 C.slots, ov, pv], .agg #[iu, .int .i64 D.regs, .int .i64 D.slots, ou, pu]] w (fun e w' => e = .returned (.bool true) ∧ Below w.heap.size w w') := by
  have HH := Lib.hid h
  have KK := Lib.hid k
  have HW := Lib.hid hw
  have KW := Lib.hid kw
  obtain ⟨cA, cc, rfl, -, -⟩ := h.1.form
  obtain ⟨oA, oc, rfl, -, -⟩ := ints_form h.2.1
  obtain ⟨qA, qc, rfl, -, -⟩ := ints_form h.2.2
  obtain ⟨dA, dc, rfl, -, -⟩ := k.1.form
  obtain ⟨eA, ec, rfl, -, -⟩ := ints_form k.2.1
  obtain ⟨fA, fc, rfl, -, -⟩ := ints_form k.2.2
  obtain ⟨li, hli⟩ : ∃ k, C.ins.length = k := ⟨_, rfl⟩
  obtain ⟨lo, hlo⟩ : ∃ k, C.outs.length = k := ⟨_, rfl⟩
  obtain ⟨lq, hlq⟩ : ∃ k, C.inp.length = k := ⟨_, rfl⟩
  obtain ⟨rg, hrg⟩ : ∃ k, C.regs = k := ⟨_, rfl⟩
  obtain ⟨sl, hsl⟩ : ∃ k, C.slots = k := ⟨_, rfl⟩
  obtain ⟨mi, hmi⟩ : ∃ k, D.ins.length = k := ⟨_, rfl⟩
  obtain ⟨mo, hmo⟩ : ∃ k, D.outs.length = k := ⟨_, rfl⟩
  obtain ⟨mq, hmq⟩ : ∃ k, D.inp.length = k := ⟨_, rfl⟩
  obtain ⟨sg, hsg⟩ : ∃ k, D.regs = k := ⟨_, rfl⟩
  obtain ⟨tl, htl⟩ : ∃ k, D.slots = k := ⟨_, rfl⟩
  have HZ : Hid (Sz C li rg sl lo lq) := Lib.hid ⟨hli, hrg, hsl, hlo, hlq⟩
  have KZ : Hid (Sz D mi sg tl mo mq) := Lib.hid ⟨hmi, hsg, htl, hmo, hmq⟩
  rw [hli, hlo, hlq] at HH
  rw [hmi, hmo, hmq] at KK
  rw [hli, hlo, hlq, hrg, hsl, hmi, hmo, hmq, hsg, htl]
  obtain ⟨x, hx⟩ : ∃ W, (w.alloc (.cells #[.slice cA li cc, .int .i64 rg, .int .i64 sl, .slice oA lo oc, .slice qA lq qc] 54)).alloc (.cells #[.slice dA mi dc, .int .i64 sg, .int .i64 tl, .slice eA mo ec, .slice fA mq fc] 54) = W := ⟨_, rfl⟩
  have HX := Lib.hid hx
  have HBX : Hid (Below w.heap.size w x) := Lib.hid (by rw [← hx]; exact below2 _ _ _)
  have HX1 : Hid (CodBox x w.heap.size 54 (.slice cA li cc) rg sl (.slice oA lo oc) (.slice qA lq qc)) := Lib.hid (by rw [← hx]; exact (codbox_new _ _ _ _ _ _ _).below (below_new _ _) (by simp))
  have HX2 : Hid (CodBox x (w.heap.size + 1) 54 (.slice dA mi dc) sg tl (.slice eA mo ec) (.slice fA mq fc)) := Lib.hid (by
    rw [← hx]
    have := codbox_new (w.alloc (.cells #[.slice cA li cc, .int .i64 rg, .int .i64 sl, .slice oA lo oc, .slice qA lq qc] 54)) 54 (.slice dA mi dc) (.slice eA mo ec) (.slice fA mq fc) sg tl
    rw [show (w.alloc (.cells #[.slice cA li cc, .int .i64 rg, .int .i64 sl, .slice oA lo oc, .slice qA lq qc] 54)).heap.size = w.heap.size + 1 by simp] at this
    exact this)
  have HCX : Hid (CodR x (.slice cA li cc) (.slice oA lo oc) (.slice qA lq qc) C) := Lib.hid (HH.out.below HBX.out (Nat.le_refl _))
  have KCX : Hid (CodR x (.slice dA mi dc) (.slice eA mo ec) (.slice fA mq fc) D) := Lib.hid (KK.out.below HBX.out (Nat.le_refl _))
  have HSM := Lib.hid (ksmall_any x _ _ _ C HCX.out)
  rw [hrg, hsl, hli, hlo, hlq] at HSM
  have HLV : Hid (∀ V, Below x.heap.size x V → Calls Try.prog 40 #[] V (fun e w' => e = .returned (.bool true) ∧ Below w.heap.size w w')) := Lib.hid (fun V hV => (live7_any V).mono (by
    rintro e w2 ⟨rfl, hb2⟩
    exact ⟨rfl, HBX.out.trans ((hV.trans (hb2.mono hV.size)).mono HBX.out.size)⟩))
  obtain ⟨p0, p1, p2, p3, p4⟩ := HX1.out.ats
  clear h hw k kw hx hli hlo hlq hrg hsl hmi hmo hmq hsg htl
  go_enter Try.func12, Try.ntmps12
  go_wp2_with fail
  try rw [HX.out]
  try go_wp2_with fail
  refine HSM.out.mono ?_
  rintro e w1 ⟨sb, rfl, hsb, hb1⟩
  have HB1 := Lib.hid hb1
  obtain ⟨q0, q1, q2, q3, q4⟩ := (HX2.out.below hb1 HX2.out.lt).ats
  clear hb1 p0 p1 p2 p3 p4 HSM
  cases sb with
  | false =>
    clear hsb
    go_wp2_with fail
    refine (HLV.out w1 HB1.out).mono ?_
    rintro e w2 ⟨rfl, hb2⟩
    have HB2 := Lib.hid hb2
    clear hb2
    go_wp2
    go_ret
    exact ⟨rfl, HB2.out⟩
  | true =>
    obtain ⟨hli6, hr3, hs3, ho6, hq6⟩ := hsb rfl
    have KC1 := Lib.hid (KCX.out.below HB1.out (Nat.le_refl _))
    have KSM := Lib.hid (ksmall_any w1 _ _ _ D KC1.out)
    rw [KZ.out.regs, KZ.out.slots, KZ.out.ins, KZ.out.outs, KZ.out.inp] at KSM
    clear hsb
    go_wp2_with fail
    refine KSM.out.mono ?_
    rintro e w1' ⟨sb, rfl, hsb, hb1⟩
    have HB1' : Hid (Below x.heap.size x w1') := Lib.hid (HB1.out.trans (hb1.mono HB1.out.size))
    clear hb1 KSM q0 q1 q2 q3 q4
    obtain ⟨p0, p1, p2, p3, p4⟩ := (HX1.out.below HB1'.out HX1.out.lt).ats
    cases sb with
    | false =>
      clear hsb
      go_wp2_with fail
      refine (HLV.out w1' HB1'.out).mono ?_
      rintro e w2 ⟨rfl, hb2⟩
      have HB2 := Lib.hid hb2
      clear hb2
      go_wp2
      go_ret
      exact ⟨rfl, HB2.out⟩
    | true =>
      obtain ⟨kli6, kr3, ks3, ko6, kq6⟩ := hsb rfl
      have HC1 := Lib.hid (HCX.out.below HB1'.out (Nat.le_refl _))
      have HO := Lib.hid (mown_lit w1' cA cc _ _ C li rg sl lo lq HZ.out HC1.out (by omega))
      obtain ⟨S, hS⟩ : ∃ S, bs (encM C) = S := ⟨_, rfl⟩
      obtain ⟨F, hF⟩ : ∃ F, encF C = F := ⟨_, rfl⟩
      obtain ⟨T, hT⟩ : ∃ S, bs (encM D) = S := ⟨_, rfl⟩
      obtain ⟨G, hG⟩ : ∃ F, encF D = F := ⟨_, rfl⟩
      have HS := Lib.hid hS
      have HF := Lib.hid hF
      have HT := Lib.hid hT
      have HG := Lib.hid hG
      clear hsb hS hF hT hG
      go_wp2_with fail
      refine HO.out.mono ?_
      rintro e w2 ⟨A2, c2, rfl, hr2, hb2⟩
      have HB2 : Hid (Below x.heap.size x w2) := Lib.hid (HB1'.out.trans (hb2.mono HB1'.out.size))
      have HR2 := Lib.hid hr2
      clear hr2 hb2 HO p0 p1 p2 p3 p4
      go_wp2_with fail
      refine (enc_lit w2 _ _ _ C li rg sl lo lq HZ.out HR2.out HW.out (by omega) (by omega) S HS.out F HF.out).mono ?_
      rintro e w3 ⟨rfl, hb3⟩
      have HB3 : Hid (Below x.heap.size x w3) := Lib.hid (HB2.out.trans (hb3.mono HB2.out.size))
      obtain ⟨q0, q1, q2, q3, q4⟩ := (HX2.out.below HB3.out HX2.out.lt).ats
      have KC3 := Lib.hid (KCX.out.below HB3.out (Nat.le_refl _))
      have KO := Lib.hid (mown_lit w3 dA dc _ _ D mi sg tl mo mq KZ.out KC3.out (by omega))
      clear hb3
      go_wp2_with fail
      refine KO.out.mono ?_
      rintro e w4 ⟨A4, c4, rfl, hr4, hb4⟩
      have HB4 : Hid (Below x.heap.size x w4) := Lib.hid (HB3.out.trans (hb4.mono HB3.out.size))
      have HR4 := Lib.hid hr4
      clear hr4 hb4 KO q0 q1 q2 q3 q4
      go_wp2_with fail
      refine (enc_lit w4 _ _ _ D mi sg tl mo mq KZ.out HR4.out KW.out (by omega) (by omega) T HT.out G HG.out).mono ?_
      rintro e w5 ⟨rfl, hb5⟩
      have HB5 : Hid (Below x.heap.size x w5) := Lib.hid (HB4.out.trans (hb5.mono HB4.out.size))
      clear hb5
      by_cases hf : F ≠ 0
      · have hfb : (F != 0) = true := by simpa using hf
        clear hf
        go_wp2_with fail
        refine (HLV.out w5 HB5.out).mono ?_
        rintro e w6 ⟨rfl, hb6⟩
        have HB6 := Lib.hid hb6
        clear hb6
        go_wp2
        go_ret
        exact ⟨rfl, HB6.out⟩
      have hf0 : F = 0 := by omega
      subst hf0
      by_cases hg : G ≠ 0
      · have hgb : (G != 0) = true := by simpa using hg
        clear hf hg
        go_wp2_with fail
        refine (HLV.out w5 HB5.out).mono ?_
        rintro e w6 ⟨rfl, hb6⟩
        have HB6 := Lib.hid hb6
        clear hb6
        go_wp2
        go_ret
        exact ⟨rfl, HB6.out⟩
      have hg0 : G = 0 := by omega
      subst hg0
      obtain ⟨B, hB⟩ : ∃ B, sameB C D = B := ⟨_, rfl⟩
      have hST : (S.toList == T.toList) = B := by rw [← HS.out, ← HT.out, ← hB]; exact apart_enc HF.out HG.out
      have HSA : Hid (Calls Try.prog 43 #[.agg #[.slice cA li cc, .int .i64 rg, .int .i64 sl, .slice oA lo oc, .slice qA lq qc], .agg #[.slice dA mi dc, .int .i64 sg, .int .i64 tl, .slice eA mo ec, .slice fA mq fc]] w5 (fun e w' => e = .returned (.bool B) ∧ Below w5.heap.size w5 w')) := Lib.hid (by
        have := ksame_any w5 _ _ _ _ _ _ C D (HCX.out.below HB5.out (Nat.le_refl _)) (KCX.out.below HB5.out (Nat.le_refl _))
        rw [HZ.out.regs, HZ.out.slots, KZ.out.regs, KZ.out.slots, hB] at this
        exact this)
      obtain ⟨p0, p1, p2, p3, p4⟩ := (HX1.out.below HB5.out HX1.out.lt).ats
      obtain ⟨q0, q1, q2, q3, q4⟩ := (HX2.out.below HB5.out HX2.out.lt).ats
      clear hf hg hB
      go_wp2_with fail
      refine HSA.out.mono ?_
      rintro e w6 ⟨rfl, hb6⟩
      have HB6 : Hid (Below x.heap.size x w6) := Lib.hid (HB5.out.trans (hb6.mono HB5.out.size))
      have hbb : (B == B) = true := by simp
      clear hb6 HSA p0 p1 p2 p3 p4 q0 q1 q2 q3 q4
      go_wp2_with fail
      refine (HLV.out w6 HB6.out).mono ?_
      rintro e w7 ⟨rfl, hb7⟩
      have HB7 := Lib.hid hb7
      clear hb7
      go_wp2
      go_ret
      exact ⟨rfl, HB7.out⟩
end Go.Proofs.Ytcphjehjdhgheaa.Nt
