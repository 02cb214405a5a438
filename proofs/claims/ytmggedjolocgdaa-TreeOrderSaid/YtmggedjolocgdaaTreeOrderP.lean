/- What is put in order may be, is as long and as deep, and put in order again it is the same: TreeOrder returns true at every argument, and each argument reads afterwards as it read before. Conditions: none. -/
import Derived.Test.YtmggedjolocgdaaTreeLb
import Derived.Test.YtmggedjolocgdaaTreeLj
namespace Go.Proofs.Ytmggedjolocgdaa.treeOrder
open Go.ChangeShapes Go.WideShapes Go.ChangeAt Go.RowKit Go.Proofs.Ytmggedjolocgdaa.Tr
set_option linter.unusedVariables false
set_option linter.unusedSimpArgs false

set_option maxRecDepth 100000 in
set_option maxHeartbeats 1000000 in
theorem walk (w : World) (v : Value) (e : List Nd) (hv : Nodes w v e) (hs : Short e) (hz : ∀ c, v = .slice none 0 c → c = 0) : Calls Try.prog 6 #[v] w fun r w' => r = .returned (.bool true) ∧ Below w.heap.size w w' := by
  have HV := Lib.hid hv
  obtain ⟨A, c, rfl, h1, h2, _⟩ := hv
  unfold maxLen at h2
  clear hz hs
  by_cases hf : (e.length : Int) ≤ 300
  rotate_left
  · have HF := Lib.hid (decide_eq_false hf)
    clear hf
    go_enter Try.func6, Try.ntmps6
    go_wp2_with fail
    refine (few_lit _ e 300 false _ HV.out HF.out).mono ?_
    rintro r w1 ⟨rfl, rfl⟩
    go_wp2_with fail
    refine (live_any _).mono ?_
    rintro r w2 ⟨rfl, hb2⟩
    go_wp2
    go_ret
    exact ⟨rfl, hb2⟩
  have HF := Lib.hid (decide_eq_true hf)
  have hel : e.length ≤ 300 := by omega
  clear hf
  rcases Bool.eq_false_or_eq_true (mayB e) with hm | hm
  rotate_left
  · have HM := Lib.hid hm
    clear hm
    go_enter Try.func6, Try.ntmps6
    go_wp2_with fail
    refine (few_lit _ e 300 true _ HV.out HF.out).mono ?_
    rintro r w1 ⟨rfl, rfl⟩
    go_wp2_with fail
    refine (may_lit _ e false _ HV.out HM.out).mono ?_
    rintro r w1 ⟨rfl, hb1⟩
    have HB1 := Lib.hid hb1
    clear hb1
    go_wp2_with fail
    refine (live_any _).mono ?_
    rintro r w2 ⟨rfl, hb2⟩
    go_wp2
    go_ret
    exact ⟨rfl, HB1.out.trans (hb2.mono HB1.out.size)⟩
  have hM := may_of hm
  have HM := Lib.hid hm
  have HMAY := Lib.hid hM
  have HLEN := Lib.hid hM.norm_len
  have HN := Lib.hid (norm_eq hM)
  have HNM := Lib.hid (may_yes hM.norm)
  have HNN := Lib.hid (show subM (normM e) (((normM e).length : Int) - 1) = normM e from (norm_eq hM.norm).trans hM.norm_norm)
  have HD := Lib.hid (norm_depth hM)
  clear hm hM
  go_enter Try.func6, Try.ntmps6
  go_wp2_with fail
  refine (few_lit _ e 300 true _ HV.out HF.out).mono ?_
  rintro r w1 ⟨rfl, rfl⟩
  go_wp2_with fail
  refine (may_lit _ e true _ HV.out HM.out).mono ?_
  rintro r w1 ⟨rfl, hb1⟩
  have HB1 := Lib.hid hb1
  have HV1 := Lib.hid (HV.out.below hb1 (Nat.le_refl _))
  have hs1 := hb1.size
  clear hb1
  go_wp2_with fail
  refine (sub_norm _ e (normM e) _ HV1.out HN.out).mono ?_
  rintro r w2 ⟨va, rfl, hoa, hb2⟩
  have HB2 := Lib.hid (HB1.out.trans (hb2.mono hs1))
  have HV2 := Lib.hid (HV1.out.below hb2 (Nat.le_refl _))
  have hs2 := HB2.out.size
  have HA2 := Lib.hid (Nodes.of_own hoa)
  obtain ⟨Aa, ca, rfl, a1, a2, _⟩ := Nodes.of_own hoa
  unfold maxLen at a2
  have hln : (normM e).length ≤ 300 := by rw [HLEN.out]; exact hel
  clear hoa hb2
  go_wp2_with fail
  refine (sub_norm _ (normM e) (normM e) _ HA2.out HNN.out).mono ?_
  rintro r w3 ⟨vb, rfl, hob, hb3⟩
  have HB3 := Lib.hid (HB2.out.trans (hb3.mono hs2))
  have HV3 := Lib.hid (HV2.out.below hb3 (Nat.le_refl _))
  have HA3 := Lib.hid (HA2.out.below hb3 (Nat.le_refl _))
  have HB3' := Lib.hid (Nodes.of_own hob)
  have hs3 := HB3.out.size
  obtain ⟨Ab, cb, rfl, b1, b2, _⟩ := Nodes.of_own hob
  unfold maxLen at b2
  clear hob hb3
  go_wp2_with fail
  refine (may_lit _ (normM e) true _ HA3.out HNM.out).mono ?_
  rintro r w4 ⟨rfl, hb4⟩
  have HB4 := Lib.hid (HB3.out.trans (hb4.mono hs3))
  have HV4 := Lib.hid (HV3.out.below hb4 (Nat.le_refl _))
  have HA4 := Lib.hid (HA3.out.below hb4 (Nat.le_refl _))
  have HBB4 := Lib.hid (HB3'.out.below hb4 (Nat.le_refl _))
  have hs4 := HB4.out.size
  have hleq : (((normM e).length : Int) == (e.length : Int)) = true := by rw [beq_iff_eq, HLEN.out]
  clear hb4
  go_wp2_with fail
  refine (depth_lit _ (normM e) (depthM e) _ HA4.out (by omega) HD.out).mono ?_
  rintro r w5 ⟨rfl, hb5⟩
  have HB5 := Lib.hid (HB4.out.trans (hb5.mono hs4))
  have HV5 := Lib.hid (HV4.out.below hb5 (Nat.le_refl _))
  have HA5 := Lib.hid (HA4.out.below hb5 (Nat.le_refl _))
  have HBB5 := Lib.hid (HBB4.out.below hb5 (Nat.le_refl _))
  have hs5 := HB5.out.size
  clear hb5
  go_wp2_with fail
  refine (depth_lit _ e (depthM e) _ HV5.out (by omega) rfl).mono ?_
  rintro r w6 ⟨rfl, hb6⟩
  have HB6 := Lib.hid (HB5.out.trans (hb6.mono hs5))
  have HA6 := Lib.hid (HA5.out.below hb6 (Nat.le_refl _))
  have HBB6 := Lib.hid (HBB5.out.below hb6 (Nat.le_refl _))
  have hs6 := HB6.out.size
  clear hb6
  go_wp2_with fail
  refine (same_lit _ _ (normM e) (normM e) true _ HA6.out HBB6.out (by simp)).mono ?_
  rintro r w7 ⟨rfl, n7, rfl⟩
  go_wp2_with fail
  refine (live_any _).mono ?_
  rintro r w8 ⟨rfl, hb8⟩
  have hb8' : Below w6.heap.size w6 w8 := (below_drewN (Below.refl _ _) n7).trans hb8
  go_wp2
  go_ret
  exact ⟨rfl, HB6.out.trans (hb8'.mono hs6)⟩

theorem own : ownKnob Try.prog.godebug = none := by kernel_rfl
theorem laid : laidOutB Try.prog = true := by kernel_rfl
set_option maxRecDepth 100000 in
theorem lifted (os : Os) (started : os.Started) (H : Type) (enc : TypeId × Value → H) :
    ReturnsInHanded {} Try.checked os 6 .any (Rows.treeOrderSpec.pre6 enc Try.prog Try.f6 Rows.treeOrderRow.domain false) (Rows.treeOrderSpec.post enc Try.prog Try.f6 false true false false) := by
  refine returnsInHanded_of_change (C := Try.checked) own started (by kernel_rfl) Try.func6
    (ChangeSpec.witness6 (enc := enc) (C := Try.checked) false ⟨#[], #[.slice none 0 0], []⟩ 8 (by kernel_rfl) (by kernel_rfl) (by kernel_rfl) (by kernel_rfl)) ?_
  intro W base args ds gs before hval0 hW hcnd _
  have hval : ∀ (j : Nat) t v, Try.f6.params[j]? = some t → args[j]? = some v → Value.okWide Try.prog W .any base t v := hval0
  have hW' := hW
  obtain ⟨p, q, hA0, hV, rfl, hfz, hnd⟩ := hW
  have hA : DataW.TrodAll enc Try.prog W 0 (fun _ => true) true Try.f6.params.toList args.toList ds p := hA0
  rw [Try.params6] at hA hval
  obtain ⟨v0, vs0, d0, ds0, p0, q0, hargs, rfl, rfl, h0, r0⟩ := trodAll_cons hA
  obtain ⟨rfl, rfl, rfl⟩ := trodAll_nil r0
  obtain rfl : args = #[v0] := by cases args; simp_all
  obtain ⟨rfl, rfl⟩ := trodVars_none hV
  clear hA0 hval0
  simp only [List.append_nil] at hW'
  have hlt : ∀ x ∈ p0, x.block < W.heap.size := fun x hx => by
    apply hW'.lt x
    simpa using hx
  obtain ⟨a0, n0, s0, z0⟩ := open_nodes (hval 0 23 v0 rfl rfl) h0
  refine (walk W v0 a0 n0 s0 z0).mono fun e W' ⟨he, hg⟩ => ?_
  subst he
  exact ⟨_, rfl, post_kept (pv := []) hW' (fun _ => (trodAll_cons_mk (shut_bool Try.underlying4 _) trodAll_mk0)) (trodAll_cons_mk (Below.trod laid (by kernel_rfl) (of_decide_eq_true (by kernel_rfl)) h0 hg (fun x hx => hlt x (by simp [hx]))) trodAll_mk0) rfl hg⟩

theorem over : Rows.treeOrderRow.holds Try.pinned (OpenSpec.ofChange Rows.treeOrderSpec) :=
  OpenClaim.holds_of_wide 6 Try.f6 rfl rfl rfl rfl rfl rfl rfl ⟨rfl, rfl, rfl, rfl, rfl⟩ rfl rfl rfl rfl rfl (by kernel_rfl) Try.func6 (by kernel_rfl)
    (of_decide_eq_true (by kernel_rfl)) (by unfold Func.isWrapper; first | (rw [if_pos (by decide +kernel)]; kernel_rfl) | (rw [if_neg (by decide +kernel)]; exact ⟨rfl, rfl⟩))
    (fun os started H enc _ => lifted os started H enc)

theorem proved : Rows.TreeOrderSaid :=
  over
#print axioms proved
end Go.Proofs.Ytmggedjolocgdaa.treeOrder
