/- CauseLater: the walk. Conditions: none. -/
import Derived.Test.YtlhcajhgbkgjbaaTa18
set_option linter.unusedVariables false
set_option linter.unusedSimpArgs false
namespace Go.Proofs.Ytlhcajhgbkgjbaa.causeLater
open Go.ChangeShapes Go.WideShapes Go.ChangeAt Go.RowKit Go.Proofs.Ytlhcajhgbkgjbaa.Tr
open Go.Proofs.Ytlhcajhgbkgjbaa.Ca
theorem live_end {w w1 : World} (h : Below w.heap.size w w1) : Calls Try.prog 8 #[] w1 (fun e w' => e = .returned (.bool true) ∧ Below w.heap.size w w') :=
  (live_any w1).mono (fun e w' ⟨he, hb⟩ => ⟨he, h.trans (hb.mono h.size)⟩)
theorem short_pre {a : List Nd} (h : Short a) : Short (preM a) := by
  intro x hx
  unfold preM at hx
  rcases List.mem_append.1 hx with hx | hx
  · exact h x hx
  · simp only [List.mem_singleton] at hx
    subst hx
    rw [mkL_name]; simp [preL]
theorem short_pair {a b : List Nd} (ha : Short a) (hb : Short b) : Short (pairM ⟨15, 0, []⟩ a b) := by
  intro x hx
  unfold pairM at hx
  simp only [List.mem_append, List.mem_map, List.mem_singleton] at hx
  rcases hx with (hx | ⟨y, hy, rfl⟩) | hx
  · exact ha x hx
  · exact hb y hy
  · subst hx
    rw [mkL_name]; simp
theorem needs_pre {a : List Nd} (h : May a) (hm : mayB (preM a) = true) : needsM (preM a) = [] := by
  unfold needsM
  rw [if_pos hm, pre_root h.ahead h.pos]
  exact need_pre preL (root a) rfl
theorem needs_pair {a b : List Nd} (ha : May a) (hb : May b) (hm : mayB (pairM ⟨15, 0, []⟩ a b) = true) : ∃ R, needsM (pairM ⟨15, 0, []⟩ a b) = needsM a ++ R ∧ R.length ≤ (needsM b).length := by
  unfold needsM
  rw [if_pos hm, if_pos (may_yes ha), if_pos (may_yes hb), pair_root ha hb (plain_bin (by decide)) (by decide)]
  exact need_two ⟨15, 0, []⟩ (root a) (root b) (by decide) (by decide)
set_option maxRecDepth 100000 in
set_option maxHeartbeats 8000000 in
theorem walk (w : World) (va : Value) (a : List Nd) (ha : Nodes w va a) (sa : Short a) (vb : Value) (b : List Nd) (hb : Nodes w vb b) (sb : Short b) : Calls Try.prog 5 #[va, vb] w fun r w' => r = .returned (.bool true) ∧ Below w.heap.size w w' := by
  have HA := Lib.hid ha
  have HB := Lib.hid hb
  have HSA := Lib.hid sa
  have HSB := Lib.hid sb
  obtain ⟨A, c, rfl, h1, h2, -⟩ := ha
  obtain ⟨B, d, rfl, h3, h4, -⟩ := hb
  unfold maxLen at h2 h4
  clear sa sb
  by_cases hla : 100 < a.length
  · have hd : decide ((100 : Int) < (a.length : Int)) = true := decide_eq_true (by omega)
    go_enter Try.func5, Try.ntmps5
    go_wp2_with fail
    refine (live_any _).mono ?_
    rintro r w9 ⟨rfl, hb9⟩
    go_wp2
    go_ret
    exact ⟨rfl, hb9⟩
  have hda : decide ((100 : Int) < (a.length : Int)) = false := decide_eq_false (by omega)
  by_cases hlb : 100 < b.length
  · have hd : decide ((100 : Int) < (b.length : Int)) = true := decide_eq_true (by omega)
    go_enter Try.func5, Try.ntmps5
    go_wp2_with fail
    refine (live_any _).mono ?_
    rintro r w9 ⟨rfl, hb9⟩
    go_wp2
    go_ret
    exact ⟨rfl, hb9⟩
  have hdb : decide ((100 : Int) < (b.length : Int)) = false := decide_eq_false (by omega)
  obtain ⟨MA, hMA⟩ : ∃ B, mayB a = B := ⟨_, rfl⟩
  have HMA := Lib.hid hMA
  clear hMA
  cases MA with
  | false =>
    go_enter Try.func5, Try.ntmps5
    go_wp2_with fail
    refine (rmay_lit _ a false _ HA.out HMA.out).mono ?_
    rintro r w1 ⟨rfl, hb1⟩
    have HB1 := Lib.hid hb1
    clear hb1
    go_wp2_with fail
    refine (live_end HB1.out).mono ?_
    rintro r w9 ⟨rfl, hb9⟩
    go_wp2
    go_ret
    exact ⟨rfl, hb9⟩
  | true =>
    obtain ⟨MB, hMB⟩ : ∃ B, mayB b = B := ⟨_, rfl⟩
    have HMB := Lib.hid hMB
    clear hMB
    cases MB with
    | false =>
      go_enter Try.func5, Try.ntmps5
      go_wp2_with fail
      refine (rmay_lit _ a true _ HA.out HMA.out).mono ?_
      rintro r w1 ⟨rfl, hb1⟩
      have HB1 := Lib.hid hb1
      have HV1 := Lib.hid (HB.out.below hb1 (Nat.le_refl _))
      clear hb1
      go_wp2_with fail
      refine (rmay_lit _ b false _ HV1.out HMB.out).mono ?_
      rintro r w2 ⟨rfl, hb2⟩
      have HB2 := Lib.hid (HB1.out.trans (hb2.mono HB1.out.size))
      clear hb2
      go_wp2_with fail
      refine (live_end HB2.out).mono ?_
      rintro r w9 ⟨rfl, hb9⟩
      go_wp2
      go_ret
      exact ⟨rfl, hb9⟩
    | true =>
      have hmA := may_of HMA.out
      have hmB := may_of HMB.out
      have HJU : Hid (∀ (w' : World) (u1 : Value), Nodes w' u1 a → Calls Try.prog 12 #[.int .i64 21, .int .i64 0, .string ⟨#[]⟩, .slice (some ⟨w'.heap.size, 0, none⟩) 1 1] (w'.alloc (.cells #[u1] 32)) (NodesPost (w'.alloc (.cells #[u1] 32)) (preM a))) := Lib.hid (fun w' u1 h5 => by
        rw [← join_pre hmA.pos (may_zero hmA)]
        exact rjoin_all _ [a] 21 0 [] _ (Rf.parts_one h5) (by simp [roomM]; omega))
      have HJP : Hid (∀ (w' : World) (u1 u2 : Value), Nodes w' u1 a → Nodes w' u2 b → Calls Try.prog 12 #[.int .i64 15, .int .i64 0, .string ⟨#[]⟩, .slice (some ⟨w'.heap.size, 0, none⟩) 2 2] (w'.alloc (.cells #[u1, u2] 32)) (NodesPost (w'.alloc (.cells #[u1, u2] 32)) (pairM ⟨15, 0, []⟩ a b))) := Lib.hid (fun w' u1 u2 h5 h6 => by
        rw [← join_pair hmA hmB 15 (by decide)]
        exact rjoin_all _ [a, b] 15 0 [] _ (Rf.parts_two h5 h6) (by simp [roomM]; omega))
      obtain ⟨P, hP⟩ : ∃ P, preM a = P := ⟨_, rfl⟩
      obtain ⟨E, hE⟩ : ∃ E, pairM ⟨15, 0, []⟩ a b = E := ⟨_, rfl⟩
      have HSP : Hid (Short P) := Lib.hid (hP ▸ short_pre HSA.out)
      have HSE : Hid (Short E) := Lib.hid (hE ▸ short_pair HSA.out HSB.out)
      have HNP : Hid (mayB P = true → needsM P = []) := Lib.hid (fun h => by subst hP; exact needs_pre hmA h)
      have HNE : Hid (mayB E = true → ∃ R, needsM E = needsM a ++ R ∧ R.length ≤ (needsM b).length) := Lib.hid (fun h => by subst hE; exact needs_pair hmA hmB h)
      obtain ⟨MP, hMP⟩ : ∃ B, mayB P = B := ⟨_, rfl⟩
      obtain ⟨ME, hME⟩ : ∃ B, mayB E = B := ⟨_, rfl⟩
      have HMP := Lib.hid hMP
      have HME := Lib.hid hME
      rw [hP] at HJU
      rw [hE] at HJP
      clear hmA hmB hP hE hMP hME
      go_enter Try.func5, Try.ntmps5
      go_wp2_with fail
      refine (rmay_lit _ a true _ HA.out HMA.out).mono ?_
      rintro r w1 ⟨rfl, hb1⟩
      have HB1 := Lib.hid hb1
      have HA1 := Lib.hid (HA.out.below hb1 (Nat.le_refl _))
      have HV1 := Lib.hid (HB.out.below hb1 (Nat.le_refl _))
      clear hb1
      go_wp2_with fail
      refine (rmay_lit _ b true _ HV1.out HMB.out).mono ?_
      rintro r w2 ⟨rfl, hb2⟩
      have HB2 := Lib.hid (HB1.out.trans (hb2.mono HB1.out.size))
      have HA2 := Lib.hid (HA1.out.below hb2 (Nat.le_refl _))
      have HV2 := Lib.hid (HV1.out.below hb2 (Nat.le_refl _))
      clear hb2
      go_wp2_with fail
      refine (HJU.out w2 _ HA2.out).mono ?_
      rintro r w3 ⟨jv, rfl, hjo, hb3⟩
      have hbz := (below_new w2 (.cells #[.slice A a.length c] 32)).trans (hb3.mono (by simp))
      have HB3 := Lib.hid (HB2.out.trans (hbz.mono HB2.out.size))
      have HA3 := Lib.hid (HA2.out.below hbz (Nat.le_refl _))
      have HV3 := Lib.hid (HV2.out.below hbz (Nat.le_refl _))
      have HP3 := Lib.hid (Nodes.of_own hjo)
      obtain ⟨AP, cp, rfl, -, -, -⟩ := Nodes.of_own hjo
      clear hjo hb3 hbz
      go_wp2_with fail
      refine (HJP.out w3 _ _ HA3.out HV3.out).mono ?_
      rintro r w4 ⟨jv, rfl, hjo, hb4⟩
      have hbz := (below_new w3 (.cells #[.slice A a.length c, .slice B b.length d] 32)).trans (hb4.mono (by simp))
      have HB4 := Lib.hid (HB3.out.trans (hbz.mono HB3.out.size))
      have HA4 := Lib.hid (HA3.out.below hbz (Nat.le_refl _))
      have HV4 := Lib.hid (HV3.out.below hbz (Nat.le_refl _))
      have HP4 := Lib.hid (HP3.out.below hbz (Nat.le_refl _))
      have HE4 := Lib.hid (Nodes.of_own hjo)
      obtain ⟨AE, cE, rfl, -, -, -⟩ := Nodes.of_own hjo
      clear hjo hb4 hbz
      go_wp2_with fail
      refine (rmay_lit _ P MP _ HP4.out HMP.out).mono ?_
      rintro r w5 ⟨rfl, hb5⟩
      have HB5 := Lib.hid (HB4.out.trans (hb5.mono HB4.out.size))
      have HA5 := Lib.hid (HA4.out.below hb5 (Nat.le_refl _))
      have HV5 := Lib.hid (HV4.out.below hb5 (Nat.le_refl _))
      have HP5 := Lib.hid (HP4.out.below hb5 (Nat.le_refl _))
      have HE5 := Lib.hid (HE4.out.below hb5 (Nat.le_refl _))
      clear hb5
      cases MP with
      | false =>
        go_wp2_with fail
        refine (live_end HB5.out).mono ?_
        rintro r w9 ⟨rfl, hb9⟩
        go_wp2
        go_ret
        exact ⟨rfl, hb9⟩
      | true =>
        go_wp2_with fail
        refine (rmay_lit _ E ME _ HE5.out HME.out).mono ?_
        rintro r w6 ⟨rfl, hb6⟩
        have HB6 := Lib.hid (HB5.out.trans (hb6.mono HB5.out.size))
        have HA6 := Lib.hid (HA5.out.below hb6 (Nat.le_refl _))
        have HV6 := Lib.hid (HV5.out.below hb6 (Nat.le_refl _))
        have HP6 := Lib.hid (HP5.out.below hb6 (Nat.le_refl _))
        have HE6 := Lib.hid (HE5.out.below hb6 (Nat.le_refl _))
        clear hb6
        cases ME with
        | false =>
          go_wp2_with fail
          refine (live_end HB6.out).mono ?_
          rintro r w9 ⟨rfl, hb9⟩
          go_wp2
          go_ret
          exact ⟨rfl, hb9⟩
        | true =>
          obtain ⟨R, hR, hRl⟩ := HNE.out HME.out
          obtain ⟨la, hla⟩ : ∃ x, needsM a = x := ⟨_, rfl⟩
          obtain ⟨lb, hlb⟩ : ∃ x, needsM b = x := ⟨_, rfl⟩
          have hnla : la.length ≤ 100000 := hla ▸ needs_len a
          have hnlb : lb.length ≤ 100000 := hlb ▸ needs_len b
          have HLA := Lib.hid hla
          have HLB := Lib.hid hlb
          rw [hla] at hR
          rw [hlb] at hRl
          have HRE := Lib.hid hR
          clear hR hla hlb
          go_wp2_with fail
          refine (need_lit HA6.out HSA.out HLA.out).mono ?_
          rintro r w7 ⟨nv, rfl, hno, hb7⟩
          have HB7 := Lib.hid (HB6.out.trans (hb7.mono HB6.out.size))
          have HV7 := Lib.hid (HV6.out.below hb7 (Nat.le_refl _))
          have HP7 := Lib.hid (HP6.out.below hb7 (Nat.le_refl _))
          have HE7 := Lib.hid (HE6.out.below hb7 (Nat.le_refl _))
          have HS7 := Lib.hid (Strs.of_own hno)
          obtain ⟨Aa, ca, rfl, u1, u2, -⟩ := Strs.of_own hno
          unfold maxLen at u2
          clear hno hb7
          go_wp2_with fail
          refine (need_lit HE7.out HSE.out HRE.out).mono ?_
          rintro r w8 ⟨nv, rfl, hno, hb8⟩
          have HB8 := Lib.hid (HB7.out.trans (hb8.mono HB7.out.size))
          have HV8 := Lib.hid (HV7.out.below hb8 (Nat.le_refl _))
          have HP8 := Lib.hid (HP7.out.below hb8 (Nat.le_refl _))
          have HS8 := Lib.hid (HS7.out.below hb8 (Nat.le_refl _))
          have HT8 := Lib.hid (Strs.of_own hno)
          obtain ⟨Ae, ce, rfl, u3, u4, -⟩ := Strs.of_own hno
          unfold maxLen at u4
          have hll : (la ++ R).length = la.length + R.length := by simp
          rw [hll] at HT8 u3 ⊢
          clear hno hb8 hll
          go_wp2_with fail
          refine (need_lit HP8.out HSP.out (HNP.out HMP.out)).mono ?_
          rintro r wa ⟨nv, rfl, hno, hba⟩
          have HBA := Lib.hid (HB8.out.trans (hba.mono HB8.out.size))
          have HVA := Lib.hid (HV8.out.below hba (Nat.le_refl _))
          have HSA2 := Lib.hid (HS8.out.below hba (Nat.le_refl _))
          have HTA := Lib.hid ((HT8.out.below hba (Nat.le_refl _)).take (Nat.le_add_right la.length R.length))
          rw [List.take_left] at HTA
          obtain ⟨An, cn, rfl, -, -, -⟩ := Strs.of_own hno
          have hz0 : (([] : List Bytes).length : Int) = 0 := rfl
          clear hno hba
          go_wp2_with fail
          refine (texts_lit HTA.out HSA2.out).mono ?_
          rintro r wb ⟨rfl, hbb⟩
          have HBB := Lib.hid (HBA.out.trans (hbb.mono HBA.out.size))
          have HVB := Lib.hid (HVA.out.below hbb (Nat.le_refl _))
          clear hbb
          go_wp2_with fail
          refine (need_lit HVB.out HSB.out HLB.out).mono ?_
          rintro r wc ⟨nv, rfl, hno, hbc⟩
          have HBC := Lib.hid (HBB.out.trans (hbc.mono HBB.out.size))
          obtain ⟨Ab, cb, rfl, -, -, -⟩ := Strs.of_own hno
          clear hno hbc
          go_wp2_with fail
          refine (live_end HBC.out).mono ?_
          rintro r w9 ⟨rfl, hb9⟩
          go_wp2
          go_ret
          exact ⟨rfl, hb9⟩
end Go.Proofs.Ytlhcajhgbkgjbaa.causeLater
