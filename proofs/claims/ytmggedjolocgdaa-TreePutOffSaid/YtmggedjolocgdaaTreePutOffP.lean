/- Where a name does not stand nothing is put; where it was put it stands no more, if what was put has it not: TreePutOff returns true at every argument, and each argument reads afterwards as it read before. Conditions: none. -/
import Derived.Test.YtmggedjolocgdaaTreeT5
import Derived.Test.YtmggedjolocgdaaTreeLb
import Derived.Test.YtmggedjolocgdaaTreeLj
namespace Go.Proofs.Ytmggedjolocgdaa.treePutOff
open Go.ChangeShapes Go.WideShapes Go.ChangeAt Go.RowKit Go.Proofs.Ytmggedjolocgdaa.Tr
set_option linter.unusedVariables false
set_option linter.unusedSimpArgs false

set_option maxRecDepth 100000 in
set_option maxHeartbeats 2000000 in
theorem walk (w : World) (v1 : Value) (a : List Nd) (hv1 : Nodes w v1 a) (hsa : Short a) (hza : ∀ c, v1 = .slice none 0 c → c = 0) (v2 : Value) (b : List Nd) (hv2 : Nodes w v2 b) (hsb : Short b) (hzb : ∀ c, v2 = .slice none 0 c → c = 0) (s0 : ByteArray) (hs0 : s0.size ≤ maxLen) : Calls Try.prog 10 #[v1, v2, .string s0] w fun r w' => r = .returned (.bool true) ∧ Below w.heap.size w w' := by
  obtain ⟨s, rfl⟩ : ∃ s, s0 = str s := ⟨s0.toList, (str_of s0).symm⟩
  have hsl : s.length ≤ maxLen := by rw [str_size] at hs0; exact hs0
  clear hs0
  have HSL := Lib.hid hsl
  clear hsl
  have HSA := Lib.hid (short_norm hsa)
  have HSB := Lib.hid (short_norm hsb)
  clear hsa hsb
  have HV1 := Lib.hid hv1
  have HV2 := Lib.hid hv2
  obtain ⟨A1, c1, rfl, x1, x2, _⟩ := hv1
  obtain ⟨A2, c2, rfl, x3, x4, _⟩ := hv2
  unfold maxLen at x2 x4
  by_cases hf1 : (a.length : Int) ≤ 100
  rotate_left
  · have HF1 := Lib.hid (decide_eq_false hf1)
    clear hf1
    go_enter Try.func10, Try.ntmps10
    go_wp2_with fail
    refine (few_lit _ a 100 false _ HV1.out HF1.out).mono ?_
    rintro r wf ⟨rfl, rfl⟩
    go_wp2_with fail
    refine (live_any _).mono ?_
    rintro r wz ⟨rfl, hbz⟩
    go_wp2
    go_ret
    exact ⟨rfl, hbz⟩
  have HF1 := Lib.hid (decide_eq_true hf1)
  have hal : a.length ≤ 100 := by omega
  clear hf1
  by_cases hf2 : (b.length : Int) ≤ 100
  rotate_left
  · have HF2 := Lib.hid (decide_eq_false hf2)
    clear hf2
    go_enter Try.func10, Try.ntmps10
    go_wp2_with fail
    refine (few_lit _ a 100 true _ HV1.out HF1.out).mono ?_
    rintro r wf ⟨rfl, rfl⟩
    go_wp2_with fail
    refine (few_lit _ b 100 false _ HV2.out HF2.out).mono ?_
    rintro r wf ⟨rfl, rfl⟩
    go_wp2_with fail
    refine (live_any _).mono ?_
    rintro r wz ⟨rfl, hbz⟩
    go_wp2
    go_ret
    exact ⟨rfl, hbz⟩
  have HF2 := Lib.hid (decide_eq_true hf2)
  have hbl : b.length ≤ 100 := by omega
  clear hf2
  rcases Bool.eq_false_or_eq_true (mayB a) with hma | hma
  rotate_left
  · have HMA := Lib.hid hma
    clear hma
    go_enter Try.func10, Try.ntmps10
    go_wp2_with fail
    refine (few_lit _ a 100 true _ HV1.out HF1.out).mono ?_
    rintro r wf ⟨rfl, rfl⟩
    go_wp2_with fail
    refine (few_lit _ b 100 true _ HV2.out HF2.out).mono ?_
    rintro r wf ⟨rfl, rfl⟩
    go_wp2_with fail
    refine (may_lit _ a false _ HV1.out HMA.out).mono ?_
    rintro r w1 ⟨rfl, hb1⟩
    have HB1 := Lib.hid (hb1)
    clear hb1
    go_wp2_with fail
    refine (live_any _).mono ?_
    rintro r wz ⟨rfl, hbz⟩
    go_wp2
    go_ret
    exact ⟨rfl, HB1.out.trans (hbz.mono HB1.out.size)⟩
  have HMA := Lib.hid hma
  have HA := Lib.hid (may_of hma)
  clear hma
  rcases Bool.eq_false_or_eq_true (mayB b) with hmb | hmb
  rotate_left
  · have HMB := Lib.hid hmb
    clear hmb
    go_enter Try.func10, Try.ntmps10
    go_wp2_with fail
    refine (few_lit _ a 100 true _ HV1.out HF1.out).mono ?_
    rintro r wf ⟨rfl, rfl⟩
    go_wp2_with fail
    refine (few_lit _ b 100 true _ HV2.out HF2.out).mono ?_
    rintro r wf ⟨rfl, rfl⟩
    go_wp2_with fail
    refine (may_lit _ a true _ HV1.out HMA.out).mono ?_
    rintro r w1 ⟨rfl, hb1⟩
    have HB1 := Lib.hid (hb1)
    have HV2b := Lib.hid (HV2.out.below hb1 (Nat.le_refl _))
    clear hb1
    go_wp2_with fail
    refine (may_lit _ b false _ HV2b.out HMB.out).mono ?_
    rintro r w2 ⟨rfl, hb2⟩
    have HB2 := Lib.hid (HB1.out.trans (hb2.mono HB1.out.size))
    clear hb2
    go_wp2_with fail
    refine (live_any _).mono ?_
    rintro r wz ⟨rfl, hbz⟩
    go_wp2
    go_ret
    exact ⟨rfl, HB2.out.trans (hbz.mono HB2.out.size)⟩
  have HMB := Lib.hid hmb
  have HB := Lib.hid (may_of hmb)
  clear hmb
  obtain ⟨Q, hQ⟩ : ∃ Q, putM a [s] [b] = Q := ⟨_, rfl⟩
  have HQ := Lib.hid hQ
  have hnl := norm_len_le a
  have hnb := norm_len_le b
  have HROOM := Lib.hid (room_put (e := a) (fun _ _ => trivial) [s] [b] (by intro p hp; simp at hp; subst hp; exact hbl) (by omega))
  have HQL := Lib.hid (show Q.length ≤ 100000 by rw [← hQ]; exact put_len HA.out HB.out s hal hbl)
  have HQS := Lib.hid (show Short (normB Q) by rw [← hQ]; exact put_short HA.out HB.out s HSA.out HSB.out hbl)
  have HOFF := Lib.hid (show (varsM a).count s = 0 → Q = normB a by rw [← hQ]; exact put_off HA.out HB.out s hbl)
  have HON := Lib.hid (show May Q → (varsM b).count s = 0 → (varsM Q).count s = 0 by rw [← hQ]; exact put_on HA.out HB.out s hbl)
  clear hQ
  go_enter Try.func10, Try.ntmps10
  go_wp2_with fail
  refine (few_lit _ a 100 true _ HV1.out HF1.out).mono ?_
  rintro r wf ⟨rfl, rfl⟩
  go_wp2_with fail
  refine (few_lit _ b 100 true _ HV2.out HF2.out).mono ?_
  rintro r wf ⟨rfl, rfl⟩
  go_wp2_with fail
  refine (may_lit _ a true _ HV1.out HMA.out).mono ?_
  rintro r w1 ⟨rfl, hb1⟩
  have HB1 := Lib.hid (hb1)
  have HV11 := Lib.hid (HV1.out.below hb1 (Nat.le_refl _))
  have HV21 := Lib.hid (HV2.out.below hb1 (Nat.le_refl _))
  clear hb1
  go_wp2_with fail
  refine (may_lit _ b true _ HV21.out HMB.out).mono ?_
  rintro r w2 ⟨rfl, hb2⟩
  have HB2 := Lib.hid (HB1.out.trans (hb2.mono HB1.out.size))
  have HV12 := Lib.hid (HV11.out.below hb2 (Nat.le_refl _))
  have HV22 := Lib.hid (HV21.out.below hb2 (Nat.le_refl _))
  have hs2 := HB2.out.size
  clear hb2
  have HW := Lib.hid (HV22.out.below (below_new w2 (.cells #[.string (str s)] 9)) (Nat.le_refl _))
  have HVP := Lib.hid ((HV12.out.below (below_new w2 (.cells #[.string (str s)] 9)) (Nat.le_refl _)).below (below_new _ (.cells #[.slice A2 b.length c2] 23)) (Nat.le_refl _))
  have HSP := Lib.hid ((strs_one w2 s).below (below_new _ (.cells #[.slice A2 b.length c2] 23)) (Nat.le_refl _))
  have hz2 : (w2.alloc (.cells #[.string (str s)] 9)).heap.size = w2.heap.size + 1 := by simp
  have HPT := Lib.hid (parts_one HW.out)
  rw [hz2] at HPT
  go_wp2_with fail
  refine (put_any _ _ _ a [s] [b] _ HVP.out HSP.out HPT.out (by intro t ht; simp at ht; subst ht; exact HSL.out) HSA.out (by simp) (by omega) HROOM.out).mono ?_
  rintro r w3 ⟨vq, rfl, hoq, hb3⟩
  rw [HQ.out] at hoq
  have hbb3 := ((below_new w2 (.cells #[.string (str s)] 9)).alloc (by simp) (.cells #[.slice A2 b.length c2] 23)).trans (hb3.mono (by simp; omega))
  have HV13 := Lib.hid (HV12.out.below hbb3 (Nat.le_refl _))
  have HV23 := Lib.hid (HV22.out.below hbb3 (Nat.le_refl _))
  have HOQ := Lib.hid (Nodes.of_own hoq)
  have HB3 := Lib.hid (HB2.out.trans (hbb3.mono hs2))
  have hs3 := HB3.out.size
  clear hoq hb3 hbb3 hz2
  go_wp2_with fail
  refine (vars_any _ a _ HV13.out HSA.out (by omega) (by omega)).mono ?_
  rintro r w4 ⟨vv, rfl, hov, hb4⟩
  have HOV := Lib.hid (Strs.of_own hov)
  have HV14 := Lib.hid (HV13.out.below hb4 (Nat.le_refl _))
  have HV24 := Lib.hid (HV23.out.below hb4 (Nat.le_refl _))
  have HOQ4 := Lib.hid (HOQ.out.below hb4 (Nat.le_refl _))
  have HB4 := Lib.hid (HB3.out.trans (hb4.mono hs3))
  have hs4 := HB4.out.size
  clear hov hb4
  obtain ⟨m, hm⟩ : ∃ m, (varsM a).count s = m := ⟨_, rfl⟩
  have HM := Lib.hid hm
  clear hm
  go_wp2_with fail
  refine (count_lit _ (varsM a) s m _ HOV.out HM.out).mono ?_
  rintro r w5 ⟨rfl, rfl⟩
  by_cases h0 : m = 0
  · have HQN := Lib.hid (HOFF.out (by rw [HM.out]; exact h0))
    have h0' : ((m : Int) == 0) = true := by rw [beq_iff_eq]; omega
    clear h0
    go_wp2_with fail
    refine (sub_norm _ a (normB a) _ HV14.out rfl).mono ?_
    rintro r w6 ⟨vs, rfl, hos, hb6⟩
    have HOS := Lib.hid (Nodes.of_own hos)
    have HOQ6 := Lib.hid (HOQ4.out.below hb6 (Nat.le_refl _))
    have HB6 := Lib.hid (HB4.out.trans (hb6.mono hs4))
    have hs6 := HB6.out.size
    clear hos hb6
    go_wp2_with fail
    refine (same_lit _ _ Q (normB a) true _ HOQ6.out HOS.out (by rw [HQN.out]; simp)).mono ?_
    rintro r w7 ⟨rfl, n1, rfl⟩
    go_wp2_with fail
    refine (live_any _).mono ?_
    rintro r wz ⟨rfl, hbz⟩
    have hbz' : Below w6.heap.size w6 wz := (below_drewN (Below.refl _ _) n1).trans hbz
    go_wp2
    go_ret
    exact ⟨rfl, HB6.out.trans (hbz'.mono hs6)⟩
  have h0' : ((m : Int) == 0) = false := by rw [beq_eq_false_iff_ne]; omega
  rcases Bool.eq_false_or_eq_true (mayB Q) with hmq | hmq
  rotate_left
  · have HMQ := Lib.hid hmq
    clear hmq
    go_wp2_with fail
    refine (may_lit _ Q false _ HOQ4.out HMQ.out).mono ?_
    rintro r w6 ⟨rfl, hb6⟩
    have HB6 := Lib.hid (HB4.out.trans (hb6.mono hs4))
    clear hb6
    go_wp2_with fail
    refine (live_any _).mono ?_
    rintro r wz ⟨rfl, hbz⟩
    go_wp2
    go_ret
    exact ⟨rfl, HB6.out.trans (hbz.mono HB6.out.size)⟩
  have HMQ := Lib.hid hmq
  clear hmq
  go_wp2_with fail
  refine (may_lit _ Q true _ HOQ4.out HMQ.out).mono ?_
  rintro r w6 ⟨rfl, hb6⟩
  have HV26 := Lib.hid (HV24.out.below hb6 (Nat.le_refl _))
  have HOQ6 := Lib.hid (HOQ4.out.below hb6 (Nat.le_refl _))
  have HB6 := Lib.hid (HB4.out.trans (hb6.mono hs4))
  have hs6 := HB6.out.size
  clear hb6
  go_wp2_with fail
  refine (vars_any _ b _ HV26.out HSB.out (by omega) (by omega)).mono ?_
  rintro r w7 ⟨vw, rfl, how, hb7⟩
  have HOW := Lib.hid (Strs.of_own how)
  have HOQ7 := Lib.hid (HOQ6.out.below hb7 (Nat.le_refl _))
  have HB7 := Lib.hid (HB6.out.trans (hb7.mono hs6))
  have hs7 := HB7.out.size
  clear how hb7
  obtain ⟨k, hk⟩ : ∃ k, (varsM b).count s = k := ⟨_, rfl⟩
  have HK := Lib.hid hk
  clear hk
  go_wp2_with fail
  refine (count_lit _ (varsM b) s k _ HOW.out HK.out).mono ?_
  rintro r w8 ⟨rfl, rfl⟩
  by_cases hk0 : 0 < k
  ·
    go_wp2_with fail
    refine (live_any _).mono ?_
    rintro r wz ⟨rfl, hbz⟩
    go_wp2
    go_ret
    exact ⟨rfl, HB7.out.trans (hbz.mono HB7.out.size)⟩
  have hk0' : decide (0 < k) = false := decide_eq_false hk0
  have HZ := Lib.hid (HON.out (may_of HMQ.out) (by rw [HK.out]; omega))
  have hnq := norm_len_le Q
  have hql := HQL.out
  go_wp2_with fail
  refine (vars_any _ Q _ HOQ7.out HQS.out (by omega) (by omega)).mono ?_
  rintro r w9 ⟨vu, rfl, hou, hb9⟩
  have HOU := Lib.hid (Strs.of_own hou)
  have HB9 := Lib.hid (HB7.out.trans (hb9.mono hs7))
  have hs9 := HB9.out.size
  clear hou hb9
  go_wp2_with fail
  refine (count_lit _ (varsM Q) s 0 _ HOU.out HZ.out).mono ?_
  rintro r w10 ⟨rfl, rfl⟩
  go_wp2_with fail
  refine (live_any _).mono ?_
  rintro r wz ⟨rfl, hbz⟩
  go_wp2
  go_ret
  exact ⟨rfl, HB9.out.trans (hbz.mono HB9.out.size)⟩

theorem own : ownKnob Try.prog.godebug = none := by kernel_rfl
theorem laid : laidOutB Try.prog = true := by kernel_rfl
set_option maxRecDepth 100000 in
theorem lifted (os : Os) (started : os.Started) (H : Type) (enc : TypeId × Value → H) :
    ReturnsInHanded {} Try.checked os 10 .any (Rows.treePutOffSpec.pre6 enc Try.prog Try.f10 Rows.treePutOffRow.domain false) (Rows.treePutOffSpec.post enc Try.prog Try.f10 false true false false) := by
  refine returnsInHanded_of_change (C := Try.checked) own started (by kernel_rfl) Try.func10
    (ChangeSpec.witness6 (enc := enc) (C := Try.checked) false ⟨#[], #[.slice none 0 0, .slice none 0 0, .string ⟨#[]⟩], []⟩ 8 (by kernel_rfl) (by kernel_rfl) (by kernel_rfl) (by kernel_rfl)) ?_
  intro W base args ds gs before hval0 hW hcnd _
  have hval : ∀ (j : Nat) t v, Try.f10.params[j]? = some t → args[j]? = some v → Value.okWide Try.prog W .any base t v := hval0
  have hW' := hW
  obtain ⟨p, q, hA0, hV, rfl, hfz, hnd⟩ := hW
  have hA : DataW.TrodAll enc Try.prog W 0 (fun _ => true) true Try.f10.params.toList args.toList ds p := hA0
  rw [Try.params10] at hA hval
  obtain ⟨v0, vs0, d0, ds0, p0, q0, hargs, rfl, rfl, h0, r0⟩ := trodAll_cons hA
  obtain ⟨v1, vs1, d1, ds1, p1, q1, rfl, rfl, rfl, h1, r1⟩ := trodAll_cons r0
  obtain ⟨v2, vs2, d2, ds2, p2, q2, rfl, rfl, rfl, h2, r2⟩ := trodAll_cons r1
  obtain ⟨rfl, rfl, rfl⟩ := trodAll_nil r2
  obtain rfl : args = #[v0, v1, v2] := by cases args; simp_all
  obtain ⟨rfl, rfl⟩ := trodVars_none hV
  clear hA0 hval0
  simp only [List.append_nil] at hW'
  have hlt : ∀ x ∈ p0 ++ p1 ++ p2, x.block < W.heap.size := fun x hx => by
    apply hW'.lt x
    simpa using hx
  obtain ⟨a0, n0, s0, z0⟩ := open_nodes (hval 0 23 v0 rfl rfl) h0
  obtain ⟨a1, n1, s1, z1⟩ := open_nodes (hval 1 23 v1 rfl rfl) h1
  obtain ⟨a2, e2, -, -, s2⟩ := Go.ChangeMaps.open_string Try.underlying9 (hval 2 9 v2 rfl rfl) h2
  subst e2
  refine (walk W v0 a0 n0 s0 z0 v1 a1 n1 s1 z1 a2 s2).mono fun e W' ⟨he, hg⟩ => ?_
  subst he
  exact ⟨_, rfl, post_kept (pv := []) hW' (fun _ => (trodAll_cons_mk (shut_bool Try.underlying4 _) trodAll_mk0)) (trodAll_cons_mk (Below.trod laid (by kernel_rfl) (of_decide_eq_true (by kernel_rfl)) h0 hg (fun x hx => hlt x (by simp [hx]))) (trodAll_cons_mk (Below.trod laid (by kernel_rfl) (of_decide_eq_true (by kernel_rfl)) h1 hg (fun x hx => hlt x (by simp [hx]))) (trodAll_cons_mk (Below.trod laid (by kernel_rfl) (of_decide_eq_true (by kernel_rfl)) h2 hg (fun x hx => hlt x (by simp [hx]))) trodAll_mk0))) rfl hg⟩

theorem over : Rows.treePutOffRow.holds Try.pinned (OpenSpec.ofChange Rows.treePutOffSpec) :=
  OpenClaim.holds_of_wide 10 Try.f10 rfl rfl rfl rfl rfl rfl rfl ⟨rfl, rfl, rfl, rfl, rfl⟩ rfl rfl rfl rfl rfl (by kernel_rfl) Try.func10 (by kernel_rfl)
    (of_decide_eq_true (by kernel_rfl)) (by unfold Func.isWrapper; first | (rw [if_pos (by decide +kernel)]; kernel_rfl) | (rw [if_neg (by decide +kernel)]; exact ⟨rfl, rfl⟩))
    (fun os started H enc _ => lifted os started H enc)

theorem proved : Rows.TreePutOffSaid :=
  over
#print axioms proved
end Go.Proofs.Ytmggedjolocgdaa.treePutOff
