/- Streams that are put in their own places change nothing but the order: TreeSame returns true at every argument, and each argument reads afterwards as it read before. Conditions: none. -/
import Derived.Test.YtmggedjolocgdaaTreeT7
import Derived.Test.YtmggedjolocgdaaTreeLb
import Derived.Test.YtmggedjolocgdaaTreeLj
namespace Go.Proofs.Ytmggedjolocgdaa.treeSame
open Go.ChangeShapes Go.WideShapes Go.ChangeAt Go.RowKit Go.Proofs.Ytmggedjolocgdaa.Tr
set_option linter.unusedVariables false
set_option linter.unusedSimpArgs false

set_option maxRecDepth 100000 in
set_option maxHeartbeats 2000000 in
theorem walk (w : World) (v1 : Value) (a : List Nd) (hv1 : Nodes w v1 a) (hsa : Short a) (hza : ∀ c, v1 = .slice none 0 c → c = 0) : Calls Try.prog 8 #[v1] w fun r w' => r = .returned (.bool true) ∧ Below w.heap.size w w' := by
  have HSA := Lib.hid (short_norm hsa)
  have HV1 := Lib.hid hv1
  obtain ⟨A1, c1, rfl, x1, x2, _⟩ := hv1
  unfold maxLen at x2
  clear hsa hza
  by_cases hf1 : (a.length : Int) ≤ 100
  rotate_left
  · have HF1 := Lib.hid (decide_eq_false hf1)
    clear hf1
    go_enter Try.func8, Try.ntmps8
    go_wp2_with fail
    refine (few_lit _ a 100 false _ HV1.out HF1.out).mono ?_
    rintro r wf ⟨rfl, rfl⟩
    go_wp2_with fail
    refine (live_any _).mono ?_
    rintro r wz ⟨rfl, hbz⟩
    go_wp2
    go_ret
    exact ⟨rfl, hbz⟩
  have HF1 := Lib.hid (decide_eq_true hf1)
  have hal : a.length ≤ 100 := by omega
  clear hf1
  rcases Bool.eq_false_or_eq_true (mayB a) with hma | hma
  rotate_left
  · have HMA := Lib.hid hma
    clear hma
    go_enter Try.func8, Try.ntmps8
    go_wp2_with fail
    refine (few_lit _ a 100 true _ HV1.out HF1.out).mono ?_
    rintro r wf ⟨rfl, rfl⟩
    go_wp2_with fail
    refine (may_lit _ a false _ HV1.out HMA.out).mono ?_
    rintro r w1 ⟨rfl, hb1⟩
    have HB1 := Lib.hid (hb1)
    clear hb1
    go_wp2_with fail
    refine (live_any _).mono ?_
    rintro r wz ⟨rfl, hbz⟩
    go_wp2
    go_ret
    exact ⟨rfl, HB1.out.trans (hbz.mono HB1.out.size)⟩
  have HMA := Lib.hid hma
  have HA := Lib.hid (may_of hma)
  have hna := norm_len_le a
  have HNL := Lib.hid (show ∀ s ∈ varsM a, s.length ≤ maxLen from fun s hs => by
    obtain ⟨x, hx, _, rfl⟩ := (name_mem HA.out s).1 hs
    exact short_labs HA.out HSA.out hx)
  have HROOM := Lib.hid (room_put (e := a) (fun _ _ => trivial) (varsM a) ((varsM a).map leafL) (fun p hp => by rw [List.mem_map] at hp; obtain ⟨s, _, rfl⟩ := hp; simp [leafL]) (by omega))
  have HSELF := Lib.hid (put_self HA.out)
  obtain ⟨ls, hls⟩ : ∃ ls, varsM a = ls := ⟨_, rfl⟩
  have HLS := Lib.hid hls
  have hll : ls.length ≤ 100 := by
    rw [← hls]; unfold varsM
    have := vars_len_le (normB a) (normB a).length
    rw [List.take_length] at this
    omega
  rw [hls] at HNL HROOM HSELF
  obtain ⟨i2, hi2, hw0, hw1, hw2⟩ := info_parts info23
  clear hma hls
  go_enter Try.func8, Try.ntmps8
  go_wp2_with fail
  refine (few_lit _ a 100 true _ HV1.out HF1.out).mono ?_
  rintro r wf ⟨rfl, rfl⟩
  go_wp2_with fail
  refine (may_lit _ a true _ HV1.out HMA.out).mono ?_
  rintro r w1 ⟨rfl, hb1⟩
  have HB1 := Lib.hid (hb1)
  have HV11 := Lib.hid (HV1.out.below hb1 (Nat.le_refl _))
  have hs1 := hb1.size
  clear hb1
  go_wp2_with fail
  refine (vars_any _ a _ HV11.out HSA.out (by omega) (by omega)).mono ?_
  rintro r w2 ⟨vl, rfl, hol, hb2⟩
  rw [HLS.out] at hol
  have HOL := Lib.hid (Strs.of_own hol)
  obtain ⟨Al, cl, rfl, l1, l2, hAl⟩ := Strs.of_own hol
  have HAL := Lib.hid hAl
  unfold maxLen at l2
  have HV12 := Lib.hid (HV11.out.below hb2 (Nat.le_refl _))
  have HB2 := Lib.hid (HB1.out.trans (hb2.mono hs1))
  have hs2 := HB2.out.size
  have hlm : (ls.map leafL).length = ls.length := List.length_map _
  have HLM := Lib.hid hlm
  have HREL0 := Lib.hid (RowsRel.start w2 (ls.map leafL))
  clear hol hb2 hAl hlm
  go_wp2
  go_loopw [4, 5] (fun s0 i wr => ∃ (k : Nat) (ov : Value) (vs : List Value), ov = s0 ∧ i = .int .i64 k ∧ RowsRel w2 (ls.map leafL) k wr ov vs) (fun _ i _ => ls.length - (intOf i).toNat)
  case atStart => exact ⟨0, _, _, rfl, rfl, HREL0.out⟩
  case round =>
    obtain ⟨k, ov, vs, rfl, rfl, hrel⟩ := hrel
    have hk : k ≤ ls.length := by have := hrel.le; rwa [HLM.out] at this
    have HREL := Lib.hid hrel
    have hs := hrel.below.size
    by_cases hlt : k < ls.length
    · obtain ⟨s, hsk⟩ : ∃ s, ls[k]? = some s := ⟨_, List.getElem?_eq_getElem hlt⟩
      obtain ⟨g, o, rfl, hg, d0'⟩ := HAL.out k s hsk
      have d0 := (hrel.below.cell (p := ⟨g, o + k, none⟩) hg).trans d0'
      have HSK := Lib.hid (show (ls.map leafL)[k]? = some (leafL s) by rw [List.getElem?_map, hsk]; rfl)
      clear hsk d0' hrel
      go_wp2_with fail
      refine (join_any _ [] 3 0 s _ (parts_none _) (by decide)).mono ?_
      rintro r w3 ⟨vj, rfl, hoj, hb3⟩
      rw [join_var] at hoj
      obtain ⟨Aj, cj, rfl, j1, j2, _⟩ := Nodes.of_own hoj
      have hlj : (leafL s).length = 1 := rfl
      unfold maxLen at j2
      have HOJ := Lib.hid hoj
      have HB3 := Lib.hid hb3
      have hs3 := hb3.size
      have HROW := Lib.hid (own_below HREL.out.row hb3)
      rw [hlj] at j1 HOJ ⊢
      clear hoj hb3
      go_wp2_with (at_builtin; refine wpList_append_own _ rfl (.tmp 23) (.tmp 29) 38 rfl w2.heap.size 23 i2 _ 1 24 Try.underlying38 hi2 hw0 hw1 hw2 rfl (by decide) _ _ _ rfl (HROW.out.alloc _) ⟨w3.heap.size, 0, none⟩ 1 1 [.slice Aj 1 cj] rfl rfl ?a1 ?b1 ?c1 ?d1 ?e1 ?_)
      case a1 => exact cell_one_new _ _ _
      case b1 => first | rfl | (intro u hu; simp at hu; subst hu; rfl)
      case c1 => unfold maxLen; omega
      case d1 => omega
      case e1 => simp; omega
      intro ov' w4 hrow hg4 _
      have R := Lib.hid (HREL.out.step HB3.out (q := leafL s) HOJ.out HSK.out hrow hg4)
      clear hrow hg4
      go_wp2
      refine ⟨⟨k + 1, _, _, rfl, by go_num, R.out⟩, by simp [intOf]; omega⟩
    · have hkl : k = (ls.map leafL).length := by rw [HLM.out]; omega
      subst hkl
      have HV13 := Lib.hid (HV12.out.below hrel.below (Nat.le_refl _))
      have HOL3 := Lib.hid (HOL.out.below hrel.below (Nat.le_refl _))
      have HP3 := Lib.hid hrel.parts
      have HB3 := Lib.hid (HB2.out.trans (hrel.below.mono hs2))
      have hs3 := HB3.out.size
      obtain ⟨Ap, cp, hpv, p1, p2, _⟩ := hrel.parts
      subst hpv
      rw [HLM.out] at p1 HP3
      rw [HLM.out]
      unfold maxLen at p2
      clear hrel HREL
      go_wp2_with fail
      refine (put_any _ _ _ a ls (ls.map leafL) _ HV13.out HOL3.out HP3.out HNL.out HSA.out (by rw [HLM.out]; omega) (by omega) HROOM.out).mono ?_
      rintro r w4 ⟨vq, rfl, hoq, hb4⟩
      rw [HSELF.out] at hoq
      have HOQ := Lib.hid (Nodes.of_own hoq)
      have HV14 := Lib.hid (HV13.out.below hb4 (Nat.le_refl _))
      have HB4 := Lib.hid (HB3.out.trans (hb4.mono hs3))
      have hs4 := HB4.out.size
      clear hoq hb4
      go_wp2_with fail
      refine (sub_norm _ a (normB a) _ HV14.out rfl).mono ?_
      rintro r w5 ⟨vs5, rfl, hos, hb5⟩
      have HOS := Lib.hid (Nodes.of_own hos)
      have HOQ5 := Lib.hid (HOQ.out.below hb5 (Nat.le_refl _))
      have HB5 := Lib.hid (HB4.out.trans (hb5.mono hs4))
      have hs5 := HB5.out.size
      clear hos hb5
      go_wp2_with fail
      refine (same_lit _ _ (normB a) (normB a) true _ HOQ5.out HOS.out (by simp)).mono ?_
      rintro r w6 ⟨rfl, n1, rfl⟩
      go_wp2_with fail
      refine (live_any _).mono ?_
      rintro r wz ⟨rfl, hbz⟩
      have hbz' : Below w5.heap.size w5 wz := (below_drewN (Below.refl _ _) n1).trans hbz
      go_wp2
      go_ret
      exact ⟨rfl, HB5.out.trans (hbz'.mono hs5)⟩

theorem own : ownKnob Try.prog.godebug = none := by kernel_rfl
theorem laid : laidOutB Try.prog = true := by kernel_rfl
set_option maxRecDepth 100000 in
theorem lifted (os : Os) (started : os.Started) (H : Type) (enc : TypeId × Value → H) :
    ReturnsInHanded {} Try.checked os 8 .any (Rows.treeSameSpec.pre6 enc Try.prog Try.f8 Rows.treeSameRow.domain false) (Rows.treeSameSpec.post enc Try.prog Try.f8 false true false false) := by
  refine returnsInHanded_of_change (C := Try.checked) own started (by kernel_rfl) Try.func8
    (ChangeSpec.witness6 (enc := enc) (C := Try.checked) false ⟨#[], #[.slice none 0 0], []⟩ 8 (by kernel_rfl) (by kernel_rfl) (by kernel_rfl) (by kernel_rfl)) ?_
  intro W base args ds gs before hval0 hW hcnd _
  have hval : ∀ (j : Nat) t v, Try.f8.params[j]? = some t → args[j]? = some v → Value.okWide Try.prog W .any base t v := hval0
  have hW' := hW
  obtain ⟨p, q, hA0, hV, rfl, hfz, hnd⟩ := hW
  have hA : DataW.TrodAll enc Try.prog W 0 (fun _ => true) true Try.f8.params.toList args.toList ds p := hA0
  rw [Try.params8] at hA hval
  obtain ⟨v0, vs0, d0, ds0, p0, q0, hargs, rfl, rfl, h0, r0⟩ := trodAll_cons hA
  obtain ⟨rfl, rfl, rfl⟩ := trodAll_nil r0
  obtain rfl : args = #[v0] := by cases args; simp_all
  obtain ⟨rfl, rfl⟩ := trodVars_none hV
  clear hA0 hval0
  simp only [List.append_nil] at hW'
  have hlt : ∀ x ∈ p0, x.block < W.heap.size := fun x hx => by
    apply hW'.lt x
    simpa using hx
  obtain ⟨a0, n0, s0, z0⟩ := open_nodes (hval 0 23 v0 rfl rfl) h0
  refine (walk W v0 a0 n0 s0 z0).mono fun e W' ⟨he, hg⟩ => ?_
  subst he
  exact ⟨_, rfl, post_kept (pv := []) hW' (fun _ => (trodAll_cons_mk (shut_bool Try.underlying4 _) trodAll_mk0)) (trodAll_cons_mk (Below.trod laid (by kernel_rfl) (of_decide_eq_true (by kernel_rfl)) h0 hg (fun x hx => hlt x (by simp [hx]))) trodAll_mk0) rfl hg⟩

theorem over : Rows.treeSameRow.holds Try.pinned (OpenSpec.ofChange Rows.treeSameSpec) :=
  OpenClaim.holds_of_wide 8 Try.f8 rfl rfl rfl rfl rfl rfl rfl ⟨rfl, rfl, rfl, rfl, rfl⟩ rfl rfl rfl rfl rfl (by kernel_rfl) Try.func8 (by kernel_rfl)
    (of_decide_eq_true (by kernel_rfl)) (by unfold Func.isWrapper; first | (rw [if_pos (by decide +kernel)]; kernel_rfl) | (rw [if_neg (by decide +kernel)]; exact ⟨rfl, rfl⟩))
    (fun os started H enc _ => lifted os started H enc)

theorem proved : Rows.TreeSameSaid :=
  over
#print axioms proved
end Go.Proofs.Ytmggedjolocgdaa.treeSame
