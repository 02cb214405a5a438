/- Layer image: Encode. Conditions: inputs and outs have at most a million each. -/
import Derived.Test.YtcphjehjdhgheaaImD0
namespace Go.Proofs.Ytcphjehjdhgheaa.Nt
open Go.ChangeShapes Go.WideShapes Go.ChangeAt Go.RowKit Go.Proofs.Ytcphjehjdhgheaa.Tr
set_option linter.unusedVariables false
set_option linter.unusedSimpArgs false

def EncPost (w : World) (C : Cod) (e : Ending) (w' : World) : Prop := e = .returned (.tuple #[.string ⟨(encM C).toArray⟩, .int .i64 (encF C)]) ∧ Below w.heap.size w w'
set_option maxRecDepth 100000 in
set_option maxHeartbeats 16000000 in
theorem ienc_any (w : World) (iv ov pv : Value) (C : Cod) (h : CodR w iv ov pv C) (hcw : CodW C) (hi6 : C.inp.length ≤ 1000000) (ho6 : C.outs.length ≤ 1000000) : Calls Try.prog 41 #[.agg #[iv, .int .i64 C.regs, .int .i64 C.slots, ov, pv]] w (EncPost w C) := by
  have HH := Lib.hid h
  have HW := Lib.hid hcw
  obtain ⟨cA, cc, rfl, z1, z2⟩ := h.1.form
  obtain ⟨oA, oc, rfl, z3, z4⟩ := ints_form h.2.1
  obtain ⟨qA, qc, rfl, z5, z6⟩ := ints_form h.2.2
  obtain ⟨li, hli⟩ : ∃ k, C.ins.length = k := ⟨_, rfl⟩
  obtain ⟨lo, hlo⟩ : ∃ k, C.outs.length = k := ⟨_, rfl⟩
  obtain ⟨lq, hlq⟩ : ∃ k, C.inp.length = k := ⟨_, rfl⟩
  obtain ⟨rg, hrg⟩ : ∃ k, C.regs = k := ⟨_, rfl⟩
  obtain ⟨sl, hsl⟩ : ∃ k, C.slots = k := ⟨_, rfl⟩
  have HZ : Hid (Sz C li rg sl lo lq) := Lib.hid ⟨hli, hrg, hsl, hlo, hlq⟩
  rw [hli, hlo, hlq] at HH
  rw [hli, hlo, hlq, hrg, hsl]
  rw [hli] at z1
  rw [hlo] at z3
  rw [hlq] at z5
  rw [hlq] at hi6
  rw [hlo] at ho6
  unfold maxLen at z2 z4 z6
  obtain ⟨x, hx⟩ : ∃ W, w.alloc (.cells #[.slice cA li cc, .int .i64 rg, .int .i64 sl, .slice oA lo oc, .slice qA lq qc] 59) = W := ⟨_, rfl⟩
  have HX := Lib.hid hx
  have HBX : Hid (Below w.heap.size w x) := Lib.hid (by rw [← hx]; exact below_new _ _)
  have HXX : Hid (CodBox x w.heap.size 59 (.slice cA li cc) rg sl (.slice oA lo oc) (.slice qA lq qc)) := Lib.hid (by rw [← hx]; exact codbox_new _ _ _ _ _ _ _)
  have HCX : Hid (CodR x (.slice cA li cc) (.slice oA lo oc) (.slice qA lq qc) C) := Lib.hid ⟨HH.out.1.below HBX.out (Nat.le_refl _), HH.out.2.1.below HBX.out (Nat.le_refl _), HH.out.2.2.below HBX.out (Nat.le_refl _)⟩
  obtain ⟨K, hK⟩ : ∃ K, checkK C = K := ⟨_, rfl⟩
  have HK := Lib.hid hK
  have HCK := Lib.hid (ccheck_lit x _ _ _ C li rg sl lo lq HZ.out HCX.out HW.out K hK)
  obtain ⟨p0, p1, p2, p3, p4⟩ := HXX.out.ats
  clear h hcw hx hli hlo hlq hrg hsl hK
  go_enter Try.func41, Try.ntmps41
  go_wp2_with fail
  try rw [HX.out]
  try go_wp2_with fail
  refine HCK.out.mono ?_
  rintro e w1 ⟨rfl, hb1⟩
  have HB1 := Lib.hid hb1
  have HX1 := Lib.hid (HXX.out.below hb1 HXX.out.lt)
  have HC1 := Lib.hid (HCX.out.below hb1 (Nat.le_refl _))
  clear hb1 HCK p0 p1 p2 p3 p4
  by_cases hk : K ≠ 0
  · have hk2 : (K != 0) = true := by simpa using hk
    have HE : Hid (encF C = 1 ∧ encM C = []) := Lib.hid (by
      have : encF C = 1 := by unfold encF; rw [HK.out, if_pos hk]
      exact ⟨this, by unfold encM; rw [this, if_neg (by decide)]⟩)
    go_wp2_with fail
    refine bodyPost_ret (v := .tuple #[.string ⟨#[]⟩, .int .i64 1]) (by simp [results, Try.results41, go_sem]) rfl ⟨by rw [HE.out.1, HE.out.2], HBX.out.trans (HB1.out.mono HBX.out.size)⟩
  have hk0 : K = 0 := by omega
  subst hk0
  obtain ⟨ib, hib⟩ : ∃ b, inpB C.inp = b := ⟨_, rfl⟩
  have HIB := Lib.hid hib
  have HCI := Lib.hid (inp_cont w1 qA lq qc C.inp HZ.out.inp.symm (by unfold maxLen; omega) HC1.out.2.2)
  rw [hib] at HCI
  obtain ⟨q0, q1, q2, q3, q4⟩ := HX1.out.ats
  clear hib hk
  go_wp2_with fail
  refine HCI.out.mono ?_
  rintro e w2 ⟨rfl, nq, hw2⟩
  have HB2 : Hid (Below x.heap.size x w2) := Lib.hid (by rw [hw2]; exact below_drewN HB1.out nq)
  clear hw2 HCI q0 q1 q2 q3 q4
  cases ib with
  | false =>
    have HE : Hid (encF C = 1 ∧ encM C = []) := Lib.hid (by
      have : encF C = 1 := by unfold encF; rw [HK.out, if_neg (by omega), if_pos HIB.out]
      exact ⟨this, by unfold encM; rw [this, if_neg (by decide)]⟩)
    try simp only [Bool.not_false]
    go_wp2_with fail
    refine bodyPost_ret (v := .tuple #[.string ⟨#[]⟩, .int .i64 1]) (by simp [results, Try.results41, go_sem]) rfl ⟨by rw [HE.out.1, HE.out.2], HBX.out.trans (HB2.out.mono HBX.out.size)⟩
  | true =>
    have HE : Hid (encF C = 0 ∧ encM C = bytesM C) := Lib.hid (by
      have : encF C = 0 := by unfold encF; rw [HK.out, if_neg (by omega), if_neg (by rw [HIB.out]; simp)]
      exact ⟨this, by unfold encM; rw [this, if_pos rfl]⟩)
    have HOK := Lib.hid (ok_bnd HK.out (by rw [HZ.out.inp]; exact hi6))
    have HF := check_fits HK.out
    have hr := HF.regs
    have hs := HF.slots
    have hl := HF.len
    rw [HZ.out.regs] at hr
    rw [HZ.out.slots] at hs
    rw [HZ.out.ins] at hl
    have HOU : Hid (∀ k ∈ C.outs, 0 ≤ k ∧ k < 34359738368) := Lib.hid (fun k hk => by have := HF.outs k hk; have := HF.regs; omega)
    have HIN : Hid (∀ k ∈ C.inp, 0 ≤ k ∧ k < 34359738368) := Lib.hid (fun k hk => by
      have h1 := HIB.out
      unfold inpB at h1
      rw [List.all_eq_true] at h1
      have := h1 k hk
      simp at this
      omega)
    clear HF
    have HBW2 : Hid (Below w.heap.size w w2) := Lib.hid (HBX.out.trans (HB2.out.mono HBX.out.size))
    obtain ⟨b, hb⟩ : ∃ b, w2.heap.size = b := ⟨_, rfl⟩
    have HBS := Lib.hid hb
    obtain ⟨w3, hw3⟩ : ∃ W, w2.alloc (.cells #[.pointer none, .slice none 0 0] 132) = W := ⟨_, rfl⟩
    have HW3 : Hid (WrN b b [] w3 ∧ Below b w2 w3 ∧ w3.heap.size = b + 1) := Lib.hid (by
      rw [← hw3, ← hb]
      exact ⟨wri_new w2, below_new _ _, by simp⟩)
    have HKB : Hid (∀ V, Below b w3 V → Below b w2 V) := Lib.hid (fun V hV => HW3.out.2.1.trans hV)
    have HX2 : Hid (∀ V, Below b w3 V → CodBox V w.heap.size 59 (.slice cA li cc) rg sl (.slice oA lo oc) (.slice qA lq qc)) := Lib.hid (fun V hV =>
      (HXX.out.below HB2.out HXX.out.lt).below (HKB.out V hV) (by have := HXX.out.lt; have := HB2.out.size; rw [HBS.out] at this; omega))
    have HC2 : Hid (∀ V, Below b w3 V → CodR V (.slice cA li cc) (.slice oA lo oc) (.slice qA lq qc) C) := Lib.hid (fun V hV =>
      (HCX.out.below HB2.out (Nat.le_refl _)).below (HKB.out V hV) (by rw [HBS.out]; exact Nat.le_refl _))
    try simp only [Bool.not_true]
    go_wp2_with fail
    refine (wstr_any b b [] bail _ rfl w3 HW3.out.1 (by decide) (by rw [HW3.out.2.2]; omega)).mono ?_
    rintro e w4 ⟨rfl, hw4⟩
    have HS : Hid (∀ {l : List UInt8} {V : World}, WTo b b l w3 V → b ≤ V.heap.size) := Lib.hid (fun h => by have := h.2.1.size; rw [HW3.out.2.2] at this; omega)
    have HW4 : Hid (WTo b b bail w3 w4) := Lib.hid hw4
    have hs4 := HS.out hw4
    obtain ⟨q0, q1, q2, q3, q4⟩ := (HX2.out w4 hw4.2.2).ats
    clear hw4 hw3 hb
    go_wp2_with fail
    refine (put_lit b b bail w4 [rg, sl, (lq : Int)] 3 _ rfl HW4.out.1 hs4 rfl (by decide) (by
      intro k hk
      simp at hk
      rcases hk with rfl | rfl | rfl <;> omega) (by simp [bail])).mono ?_
    rintro e w5 ⟨rfl, hw5⟩
    obtain ⟨a2, ha2⟩ : ∃ a, bail ++ putM [rg, sl, (lq : Int)] = a := ⟨_, rfl⟩
    have HA2 := Lib.hid ha2
    have hl2 : a2.length ≤ 19 := by
      rw [← ha2, List.length_append]
      have := put_len [rg, sl, (lq : Int)] (by
        intro k hk
        simp at hk
        rcases hk with rfl | rfl | rfl <;> omega)
      simp [bail] at this ⊢
      omega
    rw [ha2] at hw5
    have HW5 := Lib.hid (wt_trans HW4.out hw5)
    have hs5 := HS.out HW5.out
    obtain ⟨q0, q1, q2, q3, q4⟩ := (HX2.out w5 HW5.out.2.2).ats
    clear hw5 ha2
    go_wp2_with fail
    refine (iput_any b b a2 w5 qA lq qc C.inp HW5.out.1 hs5 HZ.out.inp (by unfold maxLen; omega) HIN.out (fun V _ hV => (HC2.out V (HW5.out.2.2.trans hV)).2.2) (by omega)).mono ?_
    rintro e w6 ⟨rfl, hw6⟩
    obtain ⟨a3, ha3⟩ : ∃ a, a2 ++ putM C.inp = a := ⟨_, rfl⟩
    have HA3 := Lib.hid ha3
    have hl3 : a3.length ≤ 5000019 := by
      rw [← ha3, List.length_append]
      have := put_len C.inp HIN.out
      rw [HZ.out.inp] at this
      omega
    rw [ha3] at hw6
    have HW6 := Lib.hid (wt_trans HW5.out hw6)
    have hs6 := HS.out HW6.out
    obtain ⟨q0, q1, q2, q3, q4⟩ := (HX2.out w6 HW6.out.2.2).ats
    clear hw6 ha3
    go_wp2_with fail
    refine (put_lit b b a3 w6 [(li : Int)] 1 _ rfl HW6.out.1 hs6 rfl (by decide) (by
      intro k hk
      simp at hk
      subst hk; omega) (by omega)).mono ?_
    rintro e w7 ⟨rfl, hw7⟩
    obtain ⟨a4, ha4⟩ : ∃ a, a3 ++ putM [(li : Int)] = a := ⟨_, rfl⟩
    have HA4 := Lib.hid ha4
    have hl4 : a4.length ≤ 5000024 := by
      rw [← ha4, List.length_append, put_one]
      have := num_len (li : Int).toNat (by omega)
      omega
    rw [ha4] at hw7
    have HW7 := Lib.hid (wt_trans HW6.out hw7)
    have hs7 := HS.out HW7.out
    obtain ⟨q0, q1, q2, q3, q4⟩ := (HX2.out w7 HW7.out.2.2).ats
    clear hw7 ha4
    go_wp2_with fail
    go_loopw [46] (fun vi wr => ∃ (i : Nat), i ≤ li ∧ vi = .int .i64 (i : Int) ∧ WTo b b (a4 ++ (C.ins.take i).flatMap insM) w3 wr) (fun vi _ => li - (intOf vi).toNat)
    case atStart => exact ⟨0, Nat.zero_le _, rfl, by simpa using HW7.out⟩
    case round =>
      obtain ⟨i, hi, rfl, hwr⟩ := hrel
      have HWR := Lib.hid hwr
      clear hwr
      by_cases hlt : i < li
      · obtain ⟨y, hy⟩ : ∃ y, C.ins[i]? = some y := ⟨_, List.getElem?_eq_getElem (by rw [HZ.out.ins]; exact hlt)⟩
        have HY := Lib.hid (HOK.out y (List.mem_of_getElem? hy))
        obtain ⟨acc, hacc⟩ : ∃ a, a4 ++ (C.ins.take i).flatMap insM = a := ⟨_, rfl⟩
        have HAN : Hid (a4 ++ (C.ins.take (i + 1)).flatMap insM = acc ++ insM y) := Lib.hid (by
          rw [List.take_add_one, hy, List.flatMap_append, ← hacc, List.append_assoc]
          simp)
        have hla : acc.length ≤ 11000024 := by
          rw [← hacc, List.length_append]
          have := inss_len (C.ins.take i) (fun z hz => ins_len (HOK.out z (List.mem_of_mem_take hz)))
          rw [List.length_take] at this
          omega
        rw [hacc] at HWR
        obtain ⟨g, o, rfl, hg, d0, d1, d2, d3, d4, d5⟩ := (HC2.out wr HWR.out.2.2).1.at hy
        obtain ⟨yo, yd, ya, yb, yc, yn⟩ := y
        dsimp only at d0 d1 d2 d3 d4 d5
        obtain ⟨v1, hv1⟩ : ∃ W, wr.alloc (.cells #[.int .i64 yo, .int .i64 yd, .int .i64 ya, .int .i64 yb, .int .i64 yc, .int .i64 yn] 109) = W := ⟨_, rfl⟩
        obtain ⟨q, hq⟩ : ∃ q, wr.heap.size = q := ⟨_, rfl⟩
        have hsr := HS.out HWR.out
        have hb1 : Below wr.heap.size wr v1 := by rw [← hv1]; exact below_new _ _
        have HV1 : Hid (WTo b b acc w3 v1) := Lib.hid (HWR.out.up hb1 hsr)
        have HXV : Hid (IxBox v1 q ⟨yo, yd, ya, yb, yc, yn⟩) := Lib.hid (by
          rw [← hv1, ← hq]
          exact heap_alloc_new wr (.cells #[.int .i64 yo, .int .i64 yd, .int .i64 ya, .int .i64 yb, .int .i64 yc, .int .i64 yn] 109))
        have hsv := HS.out HV1.out
        have hl2' : (i : Int) < (li : Int) := by omega
        obtain ⟨e0, e1, e2, e3, e4, e5⟩ := HXV.out.ats
        dsimp only at e0 e1 e2 e3 e4 e5
        obtain ⟨Y, hYe⟩ : ∃ Y : Ins6, (⟨yo, yd, ya, yb, yc, yn⟩ : Ins6) = Y := ⟨_, rfl⟩
        have HYO : Hid (Y.op = yo ∧ Y.n = yn) := Lib.hid (by rw [← hYe]; exact ⟨rfl, rfl⟩)
        rw [hYe] at HY HAN HXV
        obtain ⟨hy1, hy2, hy3, hy4, hy5, hy6⟩ := HY.out
        rw [HYO.out.1] at hy4 hy5 hy6
        rw [HYO.out.2] at hy2 hy3
        clear hy hacc hb1 hYe hy1
        go_wp2_with fail
        refine (put_lit b b acc v1 [yo] 1 _ rfl HV1.out.1 hsv rfl (by decide) (by
          intro k hk
          simp at hk
          subst hk; omega) (by omega)).mono ?_
        rintro e v2 ⟨rfl, hw2⟩
        have HV2 := Lib.hid (wt_trans HV1.out hw2)
        have HX2V : Hid (IxBox v2 q Y) := Lib.hid (hw2.2.1.block q _ 109 (0, 0) (by decide) (by decide) HXV.out)
        have hs2 := HS.out HV2.out
        clear hw2 hv1 e0 e1 e2 e3 e4 e5
        go_wp2_with fail
        refine (iregs_any v2 q Y HX2V.out).mono ?_
        rintro e v3 ⟨rv, rfl, ⟨gr, cr, cs, rfl, hgr, hcr, hc4, hrb, hrk⟩, hb3⟩
        rw [HYO.out.1] at hrk hcr ⊢
        have HV3 := Lib.hid (HV2.out.up hb3 hs2)
        have HX3V : Hid (IxBox v3 q Y) := Lib.hid ((hb3.block q (lt_of_block HX2V.out)).trans HX2V.out)
        have HRB := Lib.hid hrb
        have HRK := Lib.hid hrk
        have hm4 : (regsK yo).length ≤ 4 := by omega
        have HFL : Hid ((regsK yo).map (fldK Y) = fldsI Y) := Lib.hid (by rw [← HYO.out.1]; exact regs_flds HY.out.2.2.2.2.2)
        obtain ⟨m, hm⟩ : ∃ m, (regsK yo).length = m := ⟨_, rfl⟩
        have HML := Lib.hid hm
        rw [hm] at hm4 hcr ⊢
        clear hrb hrk hb3 hm
        go_wp2_with fail
        go_loopw [57] (fun vj ws => ∃ (j : Nat), j ≤ m ∧ vj = .int .i64 (j : Int) ∧ KpW v3 ws ∧ WTo b b (acc ++ putM [yo] ++ putM ((fldsI Y).take j)) w3 ws) (fun vj _ => m - (intOf vj).toNat)
        case atStart => exact ⟨0, Nat.zero_le _, rfl, KpW.refl _, by simpa [putM] using HV3.out⟩
        case round =>
          obtain ⟨j, hj, rfl, hks, hws⟩ := hrel
          have HKS := Lib.hid hks
          have HWS := Lib.hid hws
          have HXS : Hid (IxBox _ q Y) := Lib.hid (hks.block q _ 109 (0, 0) (by decide) (by decide) HX3V.out)
          have HRS := Lib.hid (hks.block gr cs 141 (0, 0) (by decide) (by decide) HRB.out)
          have hss := HS.out hws
          have hla2 : (acc ++ putM [yo] ++ putM ((fldsI Y).take j)).length ≤ 11000060 := by
            rw [List.length_append, List.length_append, put_one]
            have h1 := num_len yo.toNat (by omega)
            have h2 := put_len ((fldsI Y).take j) (fun z hz => HY.out.1 z (List.mem_of_mem_take hz))
            rw [List.length_take] at h2
            omega
          clear hks hws
          by_cases hjm : j < m
          · obtain ⟨k, hk⟩ : ∃ k, (regsK yo)[j]? = some k := ⟨_, List.getElem?_eq_getElem (by rw [HML.out]; exact hjm)⟩
            have hc1 := HRK.out j k hk
            have hk5 := regs_le yo k (List.mem_of_getElem? hk)
            have hcf := HXS.out.fld (k := k) (by omega)
            have hfj : (fldsI Y)[j]? = some (fldK Y k) := by rw [← HFL.out, List.getElem?_map, hk]; rfl
            have hfr := HY.out.1 _ (List.mem_of_getElem? hfj)
            obtain ⟨z, hz⟩ : ∃ z, fldK Y k = z := ⟨_, rfl⟩
            rw [hz] at hcf hfj hfr
            have HTN : Hid (acc ++ putM [yo] ++ putM ((fldsI Y).take (j + 1)) = acc ++ putM [yo] ++ putM ((fldsI Y).take j) ++ putM [z]) := Lib.hid (by
              rw [List.take_add_one, hfj, put_app, ← List.append_assoc]; rfl)
            obtain ⟨ac2, hac2⟩ : ∃ a, acc ++ putM [yo] ++ putM ((fldsI Y).take j) = a := ⟨_, rfl⟩
            rw [hac2] at HWS hla2 HTN
            have cr0 : _ = some (Value.pointer (some ⟨q, k, none⟩)) := cell_block HRS.out hc1
            have hjm2 : (j : Int) < (m : Int) := by omega
            clear hk hfj hz hac2 hc1
            go_wp2_with fail
            refine (put_lit b b ac2 _ [z] 1 _ rfl HWS.out.1 hss rfl (by decide) (by
              intro k hk
              simp at hk
              subst hk; exact hfr) (by omega)).mono ?_
            rintro e v4 ⟨rfl, hw4⟩
            have HW4' := Lib.hid (wt_trans HWS.out hw4)
            rw [← HTN.out] at HW4'
            have HK4 := Lib.hid (HKS.out.trans hw4.2.1)
            clear hw4
            go_wp2_with fail
            go_roundw
            case rel => exact ⟨j + 1, by omega, by go_num, HK4.out, HW4'.out⟩
            case measure => simp [intOf]; omega
          · have hjm2 : ¬ (j : Int) < (m : Int) := by omega
            have htk : (fldsI Y).take j = fldsI Y := List.take_of_length_le (by rw [← HFL.out, List.length_map, HML.out]; omega)
            rw [htk] at HWS hla2
            obtain ⟨f0, f1, f2, f3, f4, f5⟩ := HXS.out.ats
            rw [HYO.out.1] at f0
            rw [HYO.out.2] at f5
            obtain ⟨hn, hhn⟩ : ∃ h, hasNB yo = h := ⟨_, rfl⟩
            have HHN := Lib.hid hhn
            have HHA : Hid (∀ W, Calls Try.prog 79 #[.int .i64 yo] W fun e w' => e = .returned (.bool hn) ∧ w' = W) := Lib.hid (fun W => by rw [← hhn]; exact ihas_any yo W)
            have HSI : Hid (∀ W, Calls Try.prog 80 #[.int .i64 yn] W fun e w' => e = .returned (.int .i64 (signM yn)) ∧ w' = W) := Lib.hid (fun W => isig_any yn (by omega) (by omega) W)
            have hsb := sign_bnd hy2 hy3
            obtain ⟨sg, hsg⟩ : ∃ s, signM yn = s := ⟨_, rfl⟩
            have HSG := Lib.hid hsg
            rw [hsg] at HSI hsb
            clear htk hhn hsg
            go_wp2_with fail
            refine (HHA.out _).mono ?_
            rintro e v4 ⟨rfl, rfl⟩
            cases hn with
            | false =>
              have HFIN : Hid (acc ++ putM [yo] ++ putM (fldsI Y) = acc ++ insM Y) := Lib.hid (by
                unfold insM
                rw [HYO.out.1, HHN.out, put_one]
                simp)
              rw [HFIN.out, ← HAN.out] at HWS
              go_wp2_with fail
              go_roundw
              case rel => exact ⟨i + 1, by omega, by go_num, HWS.out⟩
              case measure => simp [intOf]; omega
            | true =>
              have HFIN : Hid (acc ++ putM [yo] ++ putM (fldsI Y) ++ putM [sg] = acc ++ insM Y) := Lib.hid (by
                unfold insM
                rw [HYO.out.1, HHN.out, put_one, put_one, HYO.out.2, HSG.out]
                simp)
              go_wp2_with fail
              refine (HSI.out _).mono ?_
              rintro e v5 ⟨rfl, rfl⟩
              go_wp2_with fail
              refine (put_lit b b _ _ [sg] 1 _ rfl HWS.out.1 hss rfl (by decide) (by
                intro k hk
                simp at hk
                subst hk; exact hsb) (by omega)).mono ?_
              rintro e v6 ⟨rfl, hw6⟩
              have HW6' := Lib.hid (wt_trans HWS.out hw6)
              rw [HFIN.out, ← HAN.out] at HW6'
              clear hw6
              go_wp2_with fail
              go_roundw
              case rel => exact ⟨i + 1, by omega, by go_num, HW6'.out⟩
              case measure => simp [intOf]; omega
      · have hl2' : ¬ (i : Int) < (li : Int) := by omega
        have hin : C.ins.take i = C.ins := List.take_of_length_le (by rw [HZ.out.ins]; omega)
        rw [hin] at HWR
        obtain ⟨a5, ha5⟩ : ∃ a, a4 ++ C.ins.flatMap insM = a := ⟨_, rfl⟩
        have HA5 := Lib.hid ha5
        have hl5 : a5.length ≤ 11000024 := by
          rw [← ha5, List.length_append]
          have := inss_len C.ins (fun z hz => ins_len (HOK.out z hz))
          rw [HZ.out.ins] at this
          omega
        rw [ha5] at HWR
        have hsr := HS.out HWR.out
        obtain ⟨t0, t1, t2, t3, t4⟩ := (HX2.out _ HWR.out.2.2).ats
        clear hin ha5
        go_wp2_with fail
        refine (put_lit b b a5 _ [(lo : Int)] 1 _ rfl HWR.out.1 hsr rfl (by decide) (by
          intro k hk
          simp at hk
          subst hk; omega) (by omega)).mono ?_
        rintro e w8 ⟨rfl, hw8⟩
        obtain ⟨a6, ha6⟩ : ∃ a, a5 ++ putM [(lo : Int)] = a := ⟨_, rfl⟩
        have HA6 := Lib.hid ha6
        have hl6 : a6.length ≤ 11000029 := by
          rw [← ha6, List.length_append, put_one]
          have := num_len (lo : Int).toNat (by omega)
          omega
        rw [ha6] at hw8
        have HW8 := Lib.hid (wt_trans HWR.out hw8)
        have hs8 := HS.out HW8.out
        obtain ⟨t0, t1, t2, t3, t4⟩ := (HX2.out w8 HW8.out.2.2).ats
        clear hw8 ha6
        go_wp2_with fail
        refine (iput_any b b a6 w8 oA lo oc C.outs HW8.out.1 hs8 HZ.out.outs (by unfold maxLen; omega) HOU.out (fun V _ hV => (HC2.out V (HW8.out.2.2.trans hV)).2.1) (by omega)).mono ?_
        rintro e w9 ⟨rfl, hw9⟩
        have HW9 := Lib.hid (wt_trans HW8.out hw9)
        have HALL : Hid (a6 ++ putM C.outs = encM C) := Lib.hid (by
          rw [HE.out.2, ← HA6.out, ← HA5.out, ← HA4.out, ← HA3.out, ← HA2.out]
          unfold bytesM listM
          rw [HZ.out.ins, HZ.out.outs, HZ.out.inp, HZ.out.regs, HZ.out.slots]
          simp [put_cons, put_one, putM])
        rw [HALL.out] at HW9
        have hne : encM C ≠ [] := by rw [HE.out.2]; unfold bytesM bail; simp
        clear hw9
        go_wp2_with fail
        refine (wout_any b b _ w9 HW9.out.1 hne).mono ?_
        rintro e w10 ⟨rfl, hb10⟩
        have HBF : Hid (Below w.heap.size w w10) := Lib.hid (HBW2.out.trans (((HKB.out w9 HW9.out.2.2).trans hb10).mono (by have := HBW2.out.size; rw [HBS.out] at this; omega)))
        clear hb10
        go_wp2_with fail
        refine bodyPost_ret (v := .tuple #[.string ⟨(encM C).toArray⟩, .int .i64 0]) (by simp [results, Try.results41, go_sem]) rfl ⟨by rw [HE.out.1], HBF.out⟩
end Go.Proofs.Ytcphjehjdhgheaa.Nt
