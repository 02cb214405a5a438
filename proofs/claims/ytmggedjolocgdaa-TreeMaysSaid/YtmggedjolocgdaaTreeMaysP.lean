/- Whether any nodes are an expression, how deep it is, what is in it, in order, is what the document says: TreeMays returns true at every argument, and each argument reads afterwards as it read before. Conditions: none. -/
import Derived.Test.YtmggedjolocgdaaTreeT8
import Derived.Test.YtmggedjolocgdaaTreeLb
import Derived.Test.YtmggedjolocgdaaTreeLj
namespace Go.Proofs.Ytmggedjolocgdaa.treeMays
open Go.ChangeShapes Go.WideShapes Go.ChangeAt Go.RowKit Go.Proofs.Ytmggedjolocgdaa.Tr
set_option linter.unusedVariables false
set_option linter.unusedSimpArgs false

set_option maxRecDepth 100000 in
set_option maxHeartbeats 2000000 in
theorem walk (w : World) (v1 : Value) (a : List Nd) (hv1 : Nodes w v1 a) (hsa : Short a) (hza : ∀ c, v1 = .slice none 0 c → c = 0) (i : Int) (hi : (Lit.int .i64 i).wf = true) : Calls Try.prog 3 #[v1, .int .i64 i] w fun r w' => r = .returned (.bool true) ∧ Below w.heap.size w w' := by
  have HSA := Lib.hid (short_norm hsa)
  have HV1 := Lib.hid hv1
  obtain ⟨A1, c1, rfl, x1, x2, hA1⟩ := hv1
  have HA1 := Lib.hid hA1
  unfold maxLen at x2
  clear hsa hza hA1
  by_cases hf1 : (a.length : Int) ≤ 300
  rotate_left
  · have HF1 := Lib.hid (decide_eq_false hf1)
    clear hf1
    go_enter Try.func3, Try.ntmps3
    go_wp2_with fail
    refine (few_lit _ a 300 false _ HV1.out HF1.out).mono ?_
    rintro r wf ⟨rfl, rfl⟩
    go_wp2_with fail
    refine (live_any _).mono ?_
    rintro r wz ⟨rfl, hbz⟩
    go_wp2
    go_ret
    exact ⟨rfl, hbz⟩
  have HF1 := Lib.hid (decide_eq_true hf1)
  have hal : a.length ≤ 300 := by omega
  have hna := norm_len_le a
  clear hf1 hi
  go_enter Try.func3, Try.ntmps3
  go_wp2_with fail
  refine (few_lit _ a 300 true _ HV1.out HF1.out).mono ?_
  rintro r wf ⟨rfl, rfl⟩
  go_wp2
  go_loopw [5] (fun i wr => ∃ k : Nat, k ≤ a.length ∧ i = .int .i64 k ∧ Below w.heap.size w wr) (fun i _ => a.length - (intOf i).toNat)
  case atStart => exact ⟨0, Nat.zero_le _, rfl, Below.refl _ _⟩
  case round =>
    obtain ⟨k, hk, rfl, hb⟩ := hrel
    have HB := Lib.hid hb
    have hs := hb.size
    clear hb
    by_cases hlt : k < a.length
    · obtain ⟨x, hx⟩ : ∃ x, a[k]? = some x := ⟨_, List.getElem?_eq_getElem hlt⟩
      obtain ⟨g, o, rfl, hg, a0, a1, a2, a3, a4, a5⟩ := HA1.out k x hx
      have b0 := (HB.out.cell (p := ⟨g, o + k * 6, none⟩) hg).trans a0
      have b1 := (HB.out.cell (p := ⟨g, o + k * 6 + 1, none⟩) hg).trans a1
      have b2 := (HB.out.cell (p := ⟨g, o + k * 6 + 2, none⟩) hg).trans a2
      have b3 := (HB.out.cell (p := ⟨g, o + k * 6 + 3, none⟩) hg).trans a3
      have b4 := (HB.out.cell (p := ⟨g, o + k * 6 + 4, none⟩) hg).trans a4
      have b5 := (HB.out.cell (p := ⟨g, o + k * 6 + 5, none⟩) hg).trans a5
      have hgr : g < wr.heap.size := by omega
      obtain ⟨K, hK⟩ : ∃ K, kidsM x = K := ⟨_, rfl⟩
      have HK := Lib.hid hK
      clear hx a0 a1 a2 a3 a4 a5 hK
      go_wp2_with fail
      go_region_held3 (fun w' => w'.cell? ⟨g, o + k * 6, none⟩ = some (.int .i64 x.op) ∧ w'.cell? ⟨g, o + k * 6 + 1, none⟩ = some (.int .i64 x.a) ∧ w'.cell? ⟨g, o + k * 6 + 2, none⟩ = some (.int .i64 x.b) ∧ w'.cell? ⟨g, o + k * 6 + 3, none⟩ = some (.int .i64 x.c) ∧ w'.cell? ⟨g, o + k * 6 + 4, none⟩ = some (.int .i64 x.n) ∧ w'.cell? ⟨g, o + k * 6 + 5, none⟩ = some (.string (str x.name)))
        (first | go_keep | exact hnk | exact hnq)
        ((first
          | (go_at_call 14; refine (kids_any x _).mono ?_; rintro r wk ⟨kv, rfl, hok, hbk⟩; have hsk := hbk.size; (try simp at hsk); have hnk := nd_below (g := g) (o := o + k * 6) (x := x) hbk (by first | omega | (simp; omega)) (by first | exact hnq | simp [*]))
          | (go_at_call 15; refine (rkids_any x _).mono ?_; rintro r wq ⟨qv, rfl, hoq, hbq⟩; have hsq := hbq.size; (try simp at hsq); have hnq := nd_below (g := g) (o := o + k * 6) (x := x) hbq (by first | omega | (simp; omega)) (by first | exact hnk | simp [*]))
          | (go_at_call 13; refine (ints_lit2 _ _ (kidsM x) (kidsM x) true _ (by first | exact (Ints.of_own hok).below hbq (Nat.le_refl _) | exact Ints.of_own hok) (by first | exact (Ints.of_own hoq).below hbk (Nat.le_refl _) | exact Ints.of_own hoq) (by simp)).mono ?_; rintro r wi ⟨rfl, ni, rfl⟩)))
      all_goals
        go_wp2
        refine ⟨⟨k + 1, by omega, by go_num, ?_⟩, by simp [intOf]; omega⟩
        first
          | (have h1 : Below wr.heap.size wr wk := ⟨hbk.os, hbk.tape, hbk.output, hbk.size, hbk.block⟩; have h2 := h1.size; exact below_drewN ((HB.out.trans (h1.mono hs)).trans (hbq.mono (by omega))) _)
          | (have h1 : Below wr.heap.size wr wq := ⟨hbq.os, hbq.tape, hbq.output, hbq.size, hbq.block⟩; have h2 := h1.size; exact below_drewN ((HB.out.trans (h1.mono hs)).trans (hbk.mono (by omega))) _)
    · have hkl : k = a.length := by omega
      subst hkl
      have HV2 := Lib.hid (HV1.out.below HB.out (Nat.le_refl _))
      obtain ⟨m, hm⟩ : ∃ m, mayB a = m := ⟨_, rfl⟩
      have HM := Lib.hid hm
      obtain ⟨d, hd⟩ : ∃ d, depthM a = d := ⟨_, rfl⟩
      have HD := Lib.hid hd
      clear hm hd
      go_wp2_with fail
      refine (rmay_lit _ a m _ HV2.out HM.out).mono ?_
      rintro r w2 ⟨rfl, hb2⟩
      have HV3 := Lib.hid (HV2.out.below hb2 (Nat.le_refl _))
      have HB2 := Lib.hid (HB.out.trans (hb2.mono hs))
      have hs2 := HB2.out.size
      clear hb2
      go_wp2_with fail
      refine (may_lit _ a m _ HV3.out HM.out).mono ?_
      rintro r w3 ⟨rfl, hb3⟩
      have HV4 := Lib.hid (HV3.out.below hb3 (Nat.le_refl _))
      have HB3 := Lib.hid (HB2.out.trans (hb3.mono hs2))
      have hs3 := HB3.out.size
      clear hb3
      cases m
      all_goals
        first
          | (go_wp2_with fail; refine (depth_lit _ a d _ HV4.out (by omega) HD.out).mono ?_; rintro r w4 ⟨rfl, hb4⟩; have HV5 := Lib.hid (HV4.out.below hb4 (Nat.le_refl _)); have HB4 := Lib.hid (HB3.out.trans (hb4.mono hs3)); have hs4 := HB4.out.size; clear hb4; go_wp2_with fail; refine (rdepth_lit _ a d _ HV5.out (by omega) HD.out).mono ?_; rintro r w5 ⟨rfl, hb5⟩; have HV6 := Lib.hid (HV5.out.below hb5 (Nat.le_refl _)); have HB5 := Lib.hid (HB4.out.trans (hb5.mono hs4)); have hs5 := HB5.out.size; clear hb5; go_wp2_with fail; refine (depth_lit _ a d _ HV6.out (by omega) HD.out).mono ?_; rintro r w6 ⟨rfl, hb6⟩)
          | (go_wp2_with fail; have HV6 := HV4; have HB5 := HB3; have hs5 := hs3; refine (depth_lit _ a d _ HV6.out (by omega) HD.out).mono ?_; rintro r w6 ⟨rfl, hb6⟩)
      all_goals
        have HV7 := Lib.hid (HV6.out.below hb6 (Nat.le_refl _))
        have HB6 := Lib.hid (HB5.out.trans (hb6.mono hs5))
        have hs6 := HB6.out.size
        clear hb6
        go_wp2_with fail
        refine (sub_lit _ a i (subM a i) _ HV7.out rfl).mono ?_
        rintro r w7 ⟨vs, rfl, hos, hb7⟩
        have HOS := Lib.hid (Nodes.of_own hos)
        have HV8 := Lib.hid (HV7.out.below hb7 (Nat.le_refl _))
        have HB7 := Lib.hid (HB6.out.trans (hb7.mono hs6))
        have hs7 := HB7.out.size
        clear hos hb7
        go_wp2_with fail
        refine (rsub_any _ a i _ HV8.out).mono ?_
        rintro r w8 ⟨vt, rfl, hot, hb8⟩
        have HOT := Lib.hid (Nodes.of_own hot)
        have HOS8 := Lib.hid (HOS.out.below hb8 (Nat.le_refl _))
        have HV9 := Lib.hid (HV8.out.below hb8 (Nat.le_refl _))
        have HB8 := Lib.hid (HB7.out.trans (hb8.mono hs7))
        have hs8 := HB8.out.size
        clear hot hb8
        go_wp2_with fail
        refine (same_lit _ _ (subM a i) (subM a i) true _ HOS8.out HOT.out (by simp)).mono ?_
        rintro r w9 ⟨rfl, n1, rfl⟩
        go_wp2_with fail
        refine (vars_any _ a _ (HV9.out.drewN n1) HSA.out (by omega) (by omega)).mono ?_
        rintro r w10 ⟨vv, rfl, hov, hb10⟩
        have hb10' : Below w8.heap.size w8 w10 := (below_drewN (Below.refl _ _) n1).trans hb10
        have HOV := Lib.hid (Strs.of_own hov)
        have HV10 := Lib.hid (HV9.out.below hb10' (Nat.le_refl _))
        have HB10 := Lib.hid (HB8.out.trans (hb10'.mono hs8))
        have hs10 := HB10.out.size
        clear hov hb10 hb10'
        go_wp2_with fail
        refine (rvars_any _ a _ HV10.out (by omega)).mono ?_
        rintro r w11 ⟨vw, rfl, how, hb11⟩
        have HOW := Lib.hid (Strs.of_own how)
        have HOV11 := Lib.hid (HOV.out.below hb11 (Nat.le_refl _))
        have HB11 := Lib.hid (HB10.out.trans (hb11.mono hs10))
        have hs11 := HB11.out.size
        clear how hb11
        go_wp2_with fail
        refine (texts_lit _ _ (varsM a) (varsM a) true _ HOV11.out HOW.out (by simp)).mono ?_
        rintro r w12 ⟨rfl, n2, rfl⟩
        go_wp2_with fail
        refine (live_any _).mono ?_
        rintro r wz ⟨rfl, hbz⟩
        have hbz' : Below w11.heap.size w11 wz := (below_drewN (Below.refl _ _) n2).trans hbz
        go_wp2
        go_ret
        exact ⟨rfl, HB11.out.trans (hbz'.mono hs11)⟩

theorem own : ownKnob Try.prog.godebug = none := by kernel_rfl
theorem laid : laidOutB Try.prog = true := by kernel_rfl
set_option maxRecDepth 100000 in
theorem lifted (os : Os) (started : os.Started) (H : Type) (enc : TypeId × Value → H) :
    ReturnsInHanded {} Try.checked os 3 .any (Rows.treeMaysSpec.pre6 enc Try.prog Try.f3 Rows.treeMaysRow.domain false) (Rows.treeMaysSpec.post enc Try.prog Try.f3 false true false false) := by
  refine returnsInHanded_of_change (C := Try.checked) own started (by kernel_rfl) Try.func3
    (ChangeSpec.witness6 (enc := enc) (C := Try.checked) false ⟨#[], #[.slice none 0 0, .int .i64 0], []⟩ 8 (by kernel_rfl) (by kernel_rfl) (by kernel_rfl) (by kernel_rfl)) ?_
  intro W base args ds gs before hval0 hW hcnd _
  have hval : ∀ (j : Nat) t v, Try.f3.params[j]? = some t → args[j]? = some v → Value.okWide Try.prog W .any base t v := hval0
  have hW' := hW
  obtain ⟨p, q, hA0, hV, rfl, hfz, hnd⟩ := hW
  have hA : DataW.TrodAll enc Try.prog W 0 (fun _ => true) true Try.f3.params.toList args.toList ds p := hA0
  rw [Try.params3] at hA hval
  obtain ⟨v0, vs0, d0, ds0, p0, q0, hargs, rfl, rfl, h0, r0⟩ := trodAll_cons hA
  obtain ⟨v1, vs1, d1, ds1, p1, q1, rfl, rfl, rfl, h1, r1⟩ := trodAll_cons r0
  obtain ⟨rfl, rfl, rfl⟩ := trodAll_nil r1
  obtain rfl : args = #[v0, v1] := by cases args; simp_all
  obtain ⟨rfl, rfl⟩ := trodVars_none hV
  clear hA0 hval0
  simp only [List.append_nil] at hW'
  have hlt : ∀ x ∈ p0 ++ p1, x.block < W.heap.size := fun x hx => by
    apply hW'.lt x
    simpa using hx
  obtain ⟨a0, n0, s0, z0⟩ := open_nodes (hval 0 23 v0 rfl rfl) h0
  obtain ⟨a1, e1, -, -, s1⟩ := open_int Try.underlying3 (hval 1 3 v1 rfl rfl) h1
  subst e1
  refine (walk W v0 a0 n0 s0 z0 a1 s1).mono fun e W' ⟨he, hg⟩ => ?_
  subst he
  exact ⟨_, rfl, post_kept (pv := []) hW' (fun _ => (trodAll_cons_mk (shut_bool Try.underlying4 _) trodAll_mk0)) (trodAll_cons_mk (Below.trod laid (by kernel_rfl) (of_decide_eq_true (by kernel_rfl)) h0 hg (fun x hx => hlt x (by simp [hx]))) (trodAll_cons_mk (Below.trod laid (by kernel_rfl) (of_decide_eq_true (by kernel_rfl)) h1 hg (fun x hx => hlt x (by simp [hx]))) trodAll_mk0)) rfl hg⟩

theorem over : Rows.treeMaysRow.holds Try.pinned (OpenSpec.ofChange Rows.treeMaysSpec) :=
  OpenClaim.holds_of_wide 3 Try.f3 rfl rfl rfl rfl rfl rfl rfl ⟨rfl, rfl, rfl, rfl, rfl⟩ rfl rfl rfl rfl rfl (by kernel_rfl) Try.func3 (by kernel_rfl)
    (of_decide_eq_true (by kernel_rfl)) (by unfold Func.isWrapper; first | (rw [if_pos (by decide +kernel)]; kernel_rfl) | (rw [if_neg (by decide +kernel)]; exact ⟨rfl, rfl⟩))
    (fun os started H enc _ => lifted os started H enc)

theorem proved : Rows.TreeMaysSaid :=
  over
#print axioms proved
end Go.Proofs.Ytmggedjolocgdaa.treeMays
