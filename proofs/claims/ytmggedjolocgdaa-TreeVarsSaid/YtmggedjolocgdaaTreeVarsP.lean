/- Each name of a Var stands there, once, and no other one; in what is put together of two, those of the first one ahead: TreeVars returns true at every argument, and each argument reads afterwards as it read before. Conditions: none. -/
import Derived.Test.YtmggedjolocgdaaTreeVw
import Derived.Test.YtmggedjolocgdaaTreeLb
import Derived.Test.YtmggedjolocgdaaTreeLj
namespace Go.Proofs.Ytmggedjolocgdaa.treeVars
open Go.ChangeShapes Go.WideShapes Go.ChangeAt Go.RowKit Go.Proofs.Ytmggedjolocgdaa.Tr
set_option linter.unusedVariables false
set_option linter.unusedSimpArgs false

set_option maxRecDepth 100000 in
set_option maxHeartbeats 8000000 in
theorem walk (w : World) (v1 : Value) (a : List Nd) (hv1 : Nodes w v1 a) (hsa : Short a) (hza : ∀ c, v1 = .slice none 0 c → c = 0) (v2 : Value) (b : List Nd) (hv2 : Nodes w v2 b) (hsb : Short b) (hzb : ∀ c, v2 = .slice none 0 c → c = 0) : Calls Try.prog 9 #[v1, v2] w fun r w' => r = .returned (.bool true) ∧ Below w.heap.size w w' := by
  have HSA := Lib.hid (short_norm hsa)
  have HSB := Lib.hid (short_norm hsb)
  have HSJ := Lib.hid (pair_short 7 hsa hsb)
  clear hsa hsb
  have HV1 := Lib.hid hv1
  have HV2 := Lib.hid hv2
  obtain ⟨A1, c1, rfl, x1, x2, _⟩ := hv1
  obtain ⟨A2, c2, rfl, x3, x4, _⟩ := hv2
  unfold maxLen at x2 x4
  by_cases hf1 : (a.length : Int) ≤ 100
  rotate_left
  · have HF1 := Lib.hid (decide_eq_false hf1)
    clear hf1
    go_enter Try.func9, Try.ntmps9
    go_wp2_with fail
    refine (few_lit _ a 100 false _ HV1.out HF1.out).mono ?_
    rintro r wf ⟨rfl, rfl⟩
    go_wp2_with fail
    refine (live_any _).mono ?_
    rintro r wz ⟨rfl, hbz⟩
    go_wp2
    go_ret
    exact ⟨rfl, hbz⟩
  have HF1 := Lib.hid (decide_eq_true hf1)
  have hal : a.length ≤ 100 := by omega
  clear hf1
  by_cases hf2 : (b.length : Int) ≤ 100
  rotate_left
  · have HF2 := Lib.hid (decide_eq_false hf2)
    clear hf2
    go_enter Try.func9, Try.ntmps9
    go_wp2_with fail
    refine (few_lit _ a 100 true _ HV1.out HF1.out).mono ?_
    rintro r wf ⟨rfl, rfl⟩
    go_wp2_with fail
    refine (few_lit _ b 100 false _ HV2.out HF2.out).mono ?_
    rintro r wf ⟨rfl, rfl⟩
    go_wp2_with fail
    refine (live_any _).mono ?_
    rintro r wz ⟨rfl, hbz⟩
    go_wp2
    go_ret
    exact ⟨rfl, hbz⟩
  have HF2 := Lib.hid (decide_eq_true hf2)
  have hbl : b.length ≤ 100 := by omega
  clear hf2
  rcases Bool.eq_false_or_eq_true (mayB a) with hma | hma
  rotate_left
  · have HMA := Lib.hid hma
    clear hma
    go_enter Try.func9, Try.ntmps9
    go_wp2_with fail
    refine (few_lit _ a 100 true _ HV1.out HF1.out).mono ?_
    rintro r wf ⟨rfl, rfl⟩
    go_wp2_with fail
    refine (few_lit _ b 100 true _ HV2.out HF2.out).mono ?_
    rintro r wf ⟨rfl, rfl⟩
    go_wp2_with fail
    refine (may_lit _ a false _ HV1.out HMA.out).mono ?_
    rintro r w1 ⟨rfl, hb1⟩
    have HB1 := Lib.hid (hb1)
    clear hb1
    go_wp2_with fail
    refine (live_any _).mono ?_
    rintro r wz ⟨rfl, hbz⟩
    go_wp2
    go_ret
    exact ⟨rfl, HB1.out.trans (hbz.mono HB1.out.size)⟩
  have HMA := Lib.hid hma
  have HA := Lib.hid (may_of hma)
  clear hma
  rcases Bool.eq_false_or_eq_true (mayB b) with hmb | hmb
  rotate_left
  · have HMB := Lib.hid hmb
    clear hmb
    go_enter Try.func9, Try.ntmps9
    go_wp2_with fail
    refine (few_lit _ a 100 true _ HV1.out HF1.out).mono ?_
    rintro r wf ⟨rfl, rfl⟩
    go_wp2_with fail
    refine (few_lit _ b 100 true _ HV2.out HF2.out).mono ?_
    rintro r wf ⟨rfl, rfl⟩
    go_wp2_with fail
    refine (may_lit _ a true _ HV1.out HMA.out).mono ?_
    rintro r w1 ⟨rfl, hb1⟩
    have HB1 := Lib.hid (hb1)
    have HV2b := Lib.hid (HV2.out.below hb1 (Nat.le_refl _))
    clear hb1
    go_wp2_with fail
    refine (may_lit _ b false _ HV2b.out HMB.out).mono ?_
    rintro r w2 ⟨rfl, hb2⟩
    have HB2 := Lib.hid (HB1.out.trans (hb2.mono HB1.out.size))
    clear hb2
    go_wp2_with fail
    refine (live_any _).mono ?_
    rintro r wz ⟨rfl, hbz⟩
    go_wp2
    go_ret
    exact ⟨rfl, HB2.out.trans (hbz.mono HB2.out.size)⟩
  have HMB := Lib.hid hmb
  have HB := Lib.hid (may_of hmb)
  clear hmb
  obtain ⟨J, hJ⟩ : ∃ J, pairM ⟨7, 0, []⟩ a b = J := ⟨_, rfl⟩
  rw [hJ] at HSJ
  have HJ := Lib.hid (show joinM 7 0 [] [a, b] = J from (join_pair HA.out HB.out 7 (by decide)).trans hJ)
  have hJL : J.length ≤ 201 := by rw [← hJ, pair_len]; omega
  have HR := Lib.hid (show May J → ∃ R, varsM J = varsM a ++ R ∧ ∀ s ∈ R, (varsM b).count s = 1 ∧ (varsM a).count s = 0 by rw [← hJ]; exact pair_names HA.out HB.out (by decide))
  have HNC := Lib.hid (show ∀ (i : Nat) x, a[i]? = some x → x.op = 3 → (varsM a).count x.name = 1 from fun i x hx ho => name_count HA.out hx ho)
  have hna := norm_len_le a
  have hnb := norm_len_le b
  have hnj := norm_len_le J
  have HNA := Lib.hid (show ∀ i x, a[i]? = some x → ∃ g o, A1 = some ⟨g, o, none⟩ ∧ g < w.heap.size ∧ w.cell? ⟨g, o + i * 6, none⟩ = some (.int .i64 x.op) ∧ w.cell? ⟨g, o + i * 6 + 5, none⟩ = some (.string (str x.name)) from fun i x hx => by
    obtain ⟨A', c', e1, _, _, hA⟩ := HV1.out
    simp only [Value.slice.injEq, true_and] at e1
    obtain ⟨rfl, rfl⟩ := e1
    obtain ⟨g, o, h1, h2, h3, _, _, _, _, h8⟩ := hA i x hx
    exact ⟨g, o, h1, h2, h3, h8⟩)
  clear hJ
  go_enter Try.func9, Try.ntmps9
  go_wp2_with fail
  refine (few_lit _ a 100 true _ HV1.out HF1.out).mono ?_
  rintro r wf ⟨rfl, rfl⟩
  go_wp2_with fail
  refine (few_lit _ b 100 true _ HV2.out HF2.out).mono ?_
  rintro r wf ⟨rfl, rfl⟩
  go_wp2_with fail
  refine (may_lit _ a true _ HV1.out HMA.out).mono ?_
  rintro r w1 ⟨rfl, hb1⟩
  have HB1 := Lib.hid (hb1)
  have HV11 := Lib.hid (HV1.out.below hb1 (Nat.le_refl _))
  have HV21 := Lib.hid (HV2.out.below hb1 (Nat.le_refl _))
  clear hb1
  go_wp2_with fail
  refine (may_lit _ b true _ HV21.out HMB.out).mono ?_
  rintro r w2 ⟨rfl, hb2⟩
  have HB2 := Lib.hid (HB1.out.trans (hb2.mono HB1.out.size))
  have HV12 := Lib.hid (HV11.out.below hb2 (Nat.le_refl _))
  have HV22 := Lib.hid (HV21.out.below hb2 (Nat.le_refl _))
  have hs2 := HB2.out.size
  clear hb2
  go_wp2_with fail
  refine (vars_any _ a _ HV12.out HSA.out (by omega) (by omega)).mono ?_
  rintro r w3 ⟨vl, rfl, hol, hb3⟩
  have HOL := Lib.hid (Strs.of_own hol)
  obtain ⟨Al, cl, rfl, l1, l2, _⟩ := Strs.of_own hol
  unfold maxLen at l2
  have HV13 := Lib.hid (HV12.out.below hb3 (Nat.le_refl _))
  have HV23 := Lib.hid (HV22.out.below hb3 (Nat.le_refl _))
  have HB3 := Lib.hid (HB2.out.trans (hb3.mono hs2))
  have hs3 := HB3.out.size
  clear hol hb3
  go_wp2
  go_loop [6] (fun i => ∃ k : Nat, k ≤ a.length ∧ i = .int .i64 k) (fun i => a.length - (intOf i).toNat)
  case atStart => exact ⟨0, Nat.zero_le _, rfl⟩
  case round =>
    obtain ⟨k, hk, rfl⟩ := hrel
    by_cases hlt : k < a.length
    · obtain ⟨x, hx⟩ : ∃ x, a[k]? = some x := ⟨_, List.getElem?_eq_getElem hlt⟩
      obtain ⟨g, o, rfl, hg, a0, a5⟩ := HNA.out k x hx
      have b0 := (HB3.out.cell (p := ⟨g, o + k * 6, none⟩) hg).trans a0
      have b5 := (HB3.out.cell (p := ⟨g, o + k * 6 + 5, none⟩) hg).trans a5
      have HX := Lib.hid hx
      clear hx a0 a5
      by_cases ho : x.op = 3
      · have HC := Lib.hid (HNC.out k x HX.out ho)
        have ho' : (x.op == 3) = true := by simp [ho]
        clear ho
        go_wp2_with fail
        refine (count_lit _ (varsM a) x.name 1 _ HOL.out HC.out).mono ?_
        rintro r w4 ⟨rfl, rfl⟩
        go_wp2
        refine ⟨⟨k + 1, by omega, by go_num⟩, by simp [intOf]; omega⟩
      · have ho' : (x.op == 3) = false := by simp [ho]
        clear ho
        go_wp2
        refine ⟨⟨k + 1, by omega, by go_num⟩, by simp [intOf]; omega⟩
    · have hkl : k = a.length := by omega
      subst hkl
      go_wp2_with fail
      refine (join_any _ [a, b] 7 0 [] _ (parts_two HV13.out HV23.out) (by unfold roomM; simp; omega)).mono ?_
      rintro r w4 ⟨ve, rfl, hoe, hb4⟩
      rw [HJ.out] at hoe
      have hbb4 := (below_new w3 (.cells #[.slice A1 a.length c1, .slice A2 b.length c2] 23)).trans (hb4.mono (by simp))
      have HV24 := Lib.hid (HV23.out.below hbb4 (Nat.le_refl _))
      have HOL4 := Lib.hid (HOL.out.below hbb4 (Nat.le_refl _))
      have HOE := Lib.hid (Nodes.of_own hoe)
      have HB4 := Lib.hid (HB3.out.trans (hbb4.mono hs3))
      have hs4 := HB4.out.size
      clear hoe hb4 hbb4
      rcases Bool.eq_false_or_eq_true (mayB J) with hmj | hmj
      rotate_left
      · have HMJ := Lib.hid hmj
        clear hmj
        go_wp2_with fail
        refine (may_lit _ J false _ HOE.out HMJ.out).mono ?_
        rintro r w5 ⟨rfl, hb5⟩
        have HB5 := Lib.hid (HB4.out.trans (hb5.mono hs4))
        clear hb5
        go_wp2_with fail
        refine (live_any _).mono ?_
        rintro r wz ⟨rfl, hbz⟩
        go_wp2
        go_ret
        exact ⟨rfl, HB5.out.trans (hbz.mono HB5.out.size)⟩
      obtain ⟨R, hR, hRR⟩ := HR.out (may_of hmj)
      have HMJ := Lib.hid hmj
      have HRE := Lib.hid hR
      have HRR := Lib.hid hRR
      clear hmj hR hRR
      go_wp2_with fail
      refine (may_lit _ J true _ HOE.out HMJ.out).mono ?_
      rintro r w5 ⟨rfl, hb5⟩
      have HV25 := Lib.hid (HV24.out.below hb5 (Nat.le_refl _))
      have HOL5 := Lib.hid (HOL4.out.below hb5 (Nat.le_refl _))
      have HOE5 := Lib.hid (HOE.out.below hb5 (Nat.le_refl _))
      have HB5 := Lib.hid (HB4.out.trans (hb5.mono hs4))
      have hs5 := HB5.out.size
      clear hb5
      go_wp2_with fail
      refine (vars_any _ J _ HOE5.out HSJ.out (by omega) (by omega)).mono ?_
      rintro r w6 ⟨vm, rfl, hom, hb6⟩
      rw [HRE.out] at hom
      have HOM := Lib.hid (Strs.of_own hom)
      obtain ⟨Am, cm, rfl, m1, m2, hAm⟩ := Strs.of_own hom
      have HAM := Lib.hid hAm
      unfold maxLen at m2
      have HML := Lib.hid (show (varsM a ++ R).length = (varsM a).length + R.length from List.length_append)
      obtain ⟨La, hLa⟩ : ∃ La, (varsM a).length = La := ⟨_, rfl⟩
      obtain ⟨Lm, hLm⟩ : ∃ Lm, (varsM a ++ R).length = Lm := ⟨_, rfl⟩
      have hle : La ≤ Lm := by rw [← hLa, ← hLm, List.length_append]; omega
      have HLA := Lib.hid hLa
      have HLM := Lib.hid hLm
      have HV26 := Lib.hid (HV25.out.below hb6 (Nat.le_refl _))
      have HOL6 := Lib.hid (HOL5.out.below hb6 (Nat.le_refl _))
      have HB6 := Lib.hid (HB5.out.trans (hb6.mono hs5))
      have hs6 := HB6.out.size
      rw [hLa] at l1 HOL6
      rw [hLm] at m1 HOM
      rw [hLa, hLm]
      clear hom hb6 hAm hLa hLm
      have hlm' : decide (Lm < La) = false := by simp; omega
      go_wp2_with fail
      refine (texts_lit _ _ (varsM a) (varsM a) true _ (by have := HOM.out.take (k := La) hle; rw [← HLA.out, List.take_left] at this; rw [HLA.out] at this; exact this) HOL6.out (by simp)).mono ?_
      rintro r w7 ⟨rfl, n1, rfl⟩
      go_wp2
      go_loopw [9] (fun i wr => ∃ k : Nat, La ≤ k ∧ k ≤ Lm ∧ i = .int .i64 k ∧ Below w6.heap.size w6 wr) (fun i _ => Lm - (intOf i).toNat)
      case atStart => exact ⟨La, Nat.le_refl _, hle, rfl, below_drewN (Below.refl _ _) n1⟩
      case round =>
        obtain ⟨j, hj1, hj2, rfl, hb⟩ := hrel
        by_cases hltj : j < Lm
        · have hjm : j < (varsM a ++ R).length := by rw [HLM.out]; exact hltj
          obtain ⟨s, hs⟩ : ∃ s, (varsM a ++ R)[j]? = some s := ⟨_, List.getElem?_eq_getElem hjm⟩
          obtain ⟨g, o, rfl, hg, d0'⟩ := HAM.out j s hs
          have d0 := (hb.cell (p := ⟨g, o + j, none⟩) hg).trans d0'
          have hsR : s ∈ R := by
            rw [List.getElem?_append_right (by rw [HLA.out]; exact hj1)] at hs
            exact List.mem_of_getElem? hs
          have hnb2 := Lib.hid (show (normB b).length ≤ 1000000 by omega)
          have HC1 := Lib.hid (HRR.out s hsR).1
          have HC2 := Lib.hid (HRR.out s hsR).2
          have HBR := Lib.hid hb
          have HV2R := Lib.hid (HV26.out.below hb (Nat.le_refl _))
          have HOLR := Lib.hid (HOL6.out.below hb (Nat.le_refl _))
          have HOLd := Lib.hid (show Strs wr.drew (.slice Al La cl) (varsM a) from HOLR.out)
          have hsr := hb.size
          have hgr : g < wr.heap.size := by omega
          clear hs d0' hsR hb hjm hna hnb hnj x1 x2 x3 x4 l2 hs2 hs3 hs4 hs5
          go_wp2_with fail
          go_region_held3 (fun w' => w'.cell? ⟨g, o + j, none⟩ = some (.string (str s)))
            (first | exact hkv | exact d0)
            ((first
              | (go_at_call 24; refine (vars_any _ b _ (by exact HV2R.out) HSB.out (by omega) hnb2.out).mono ?_; rintro r wv ⟨vv, rfl, hov, hbv⟩; have hkv := (hbv.cell (p := ⟨g, o + j, none⟩) (by first | omega | (simp; omega))).trans d0)
              | (refine step_call31 _ _ _ _ _ _ rfl (by first | rfl | simp [Region.wanted, yielded]) rfl rfl ?_; refine (count_lit _ (varsM b) s 1 _ (by exact Strs.of_own hov) HC1.out).mono ?_; rintro r wc ⟨rfl, rfl⟩; refine ⟨_, rfl, ?_⟩)
              | (refine step_call31 _ _ _ _ _ _ rfl (by first | rfl | simp [Region.wanted, yielded]) rfl rfl ?_; refine (count_lit _ (varsM a) s 0 _ (by exact HOLd.out.below hbv (Nat.le_refl _)) HC2.out).mono ?_; rintro r wc ⟨rfl, rfl⟩; refine ⟨_, rfl, ?_⟩)))
          have HBV := Lib.hid (HBR.out.trans (Below.trans (⟨rfl, rfl, rfl, Nat.le_refl _, fun _ _ => rfl⟩ : Below w6.heap.size wr wr.drew) (hbv.mono (by first | exact hsr | (simp; omega)))))
          go_wp2
          refine ⟨⟨j + 1, by omega, by omega, by go_num, by first | exact HBV.out | exact below_drewN HBV.out 1 | exact below_drewN HBV.out 0⟩, by simp [intOf]; omega⟩
        · have hjl : j = Lm := by omega
          subst hjl
          have HBR := Lib.hid (HB6.out.trans (hb.mono hs6))
          clear hb
          go_wp2_with fail
          refine (live_any _).mono ?_
          rintro r wz ⟨rfl, hbz⟩
          go_wp2
          go_ret
          exact ⟨rfl, HBR.out.trans (hbz.mono HBR.out.size)⟩

theorem own : ownKnob Try.prog.godebug = none := by kernel_rfl
theorem laid : laidOutB Try.prog = true := by kernel_rfl
set_option maxRecDepth 100000 in
theorem lifted (os : Os) (started : os.Started) (H : Type) (enc : TypeId × Value → H) :
    ReturnsInHanded {} Try.checked os 9 .any (Rows.treeVarsSpec.pre6 enc Try.prog Try.f9 Rows.treeVarsRow.domain false) (Rows.treeVarsSpec.post enc Try.prog Try.f9 false true false false) := by
  refine returnsInHanded_of_change (C := Try.checked) own started (by kernel_rfl) Try.func9
    (ChangeSpec.witness6 (enc := enc) (C := Try.checked) false ⟨#[], #[.slice none 0 0, .slice none 0 0], []⟩ 8 (by kernel_rfl) (by kernel_rfl) (by kernel_rfl) (by kernel_rfl)) ?_
  intro W base args ds gs before hval0 hW hcnd _
  have hval : ∀ (j : Nat) t v, Try.f9.params[j]? = some t → args[j]? = some v → Value.okWide Try.prog W .any base t v := hval0
  have hW' := hW
  obtain ⟨p, q, hA0, hV, rfl, hfz, hnd⟩ := hW
  have hA : DataW.TrodAll enc Try.prog W 0 (fun _ => true) true Try.f9.params.toList args.toList ds p := hA0
  rw [Try.params9] at hA hval
  obtain ⟨v0, vs0, d0, ds0, p0, q0, hargs, rfl, rfl, h0, r0⟩ := trodAll_cons hA
  obtain ⟨v1, vs1, d1, ds1, p1, q1, rfl, rfl, rfl, h1, r1⟩ := trodAll_cons r0
  obtain ⟨rfl, rfl, rfl⟩ := trodAll_nil r1
  obtain rfl : args = #[v0, v1] := by cases args; simp_all
  obtain ⟨rfl, rfl⟩ := trodVars_none hV
  clear hA0 hval0
  simp only [List.append_nil] at hW'
  have hlt : ∀ x ∈ p0 ++ p1, x.block < W.heap.size := fun x hx => by
    apply hW'.lt x
    simpa using hx
  obtain ⟨a0, n0, s0, z0⟩ := open_nodes (hval 0 23 v0 rfl rfl) h0
  obtain ⟨a1, n1, s1, z1⟩ := open_nodes (hval 1 23 v1 rfl rfl) h1
  refine (walk W v0 a0 n0 s0 z0 v1 a1 n1 s1 z1).mono fun e W' ⟨he, hg⟩ => ?_
  subst he
  exact ⟨_, rfl, post_kept (pv := []) hW' (fun _ => (trodAll_cons_mk (shut_bool Try.underlying4 _) trodAll_mk0)) (trodAll_cons_mk (Below.trod laid (by kernel_rfl) (of_decide_eq_true (by kernel_rfl)) h0 hg (fun x hx => hlt x (by simp [hx]))) (trodAll_cons_mk (Below.trod laid (by kernel_rfl) (of_decide_eq_true (by kernel_rfl)) h1 hg (fun x hx => hlt x (by simp [hx]))) trodAll_mk0)) rfl hg⟩

theorem over : Rows.treeVarsRow.holds Try.pinned (OpenSpec.ofChange Rows.treeVarsSpec) :=
  OpenClaim.holds_of_wide 9 Try.f9 rfl rfl rfl rfl rfl rfl rfl ⟨rfl, rfl, rfl, rfl, rfl⟩ rfl rfl rfl rfl rfl (by kernel_rfl) Try.func9 (by kernel_rfl)
    (of_decide_eq_true (by kernel_rfl)) (by unfold Func.isWrapper; first | (rw [if_pos (by decide +kernel)]; kernel_rfl) | (rw [if_neg (by decide +kernel)]; exact ⟨rfl, rfl⟩))
    (fun os started H enc _ => lifted os started H enc)

theorem proved : Rows.TreeVarsSaid :=
  over
#print axioms proved
end Go.Proofs.Ytmggedjolocgdaa.treeVars
