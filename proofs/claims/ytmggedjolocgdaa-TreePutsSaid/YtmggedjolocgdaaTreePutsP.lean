/- Expressions in the places of streams are what the document says: TreePuts returns true at every argument, and each argument reads afterwards as it read before. Conditions: none. -/
import Derived.Test.YtmggedjolocgdaaTreeT6
import Derived.Test.YtmggedjolocgdaaTreeLb
import Derived.Test.YtmggedjolocgdaaTreeLj
namespace Go.Proofs.Ytmggedjolocgdaa.treePuts
open Go.ChangeShapes Go.WideShapes Go.ChangeAt Go.RowKit Go.Proofs.Ytmggedjolocgdaa.Tr
set_option linter.unusedVariables false
set_option linter.unusedSimpArgs false

set_option maxRecDepth 100000 in
set_option maxHeartbeats 2000000 in
theorem walk (w : World) (v1 : Value) (a : List Nd) (hv1 : Nodes w v1 a) (hsa : Short a) (hza : ∀ c, v1 = .slice none 0 c → c = 0) (v2 : Value) (names : List Bytes) (hv2 : Strs w v2 names) (hnl : ∀ s ∈ names, s.length ≤ maxLen) (v3 : Value) (ps : List (List Nd)) (hv3 : Parts w w.heap.size v3 ps) (hps : ∀ l ∈ ps, Short l) (hzp : NilZ w v3 ps) : Calls Try.prog 5 #[v1, v2, v3] w fun r w' => r = .returned (.bool true) ∧ Below w.heap.size w w' := by
  have HSA := Lib.hid (short_norm hsa)
  clear hsa hps hzp hza
  have HV1 := Lib.hid hv1
  have HV2 := Lib.hid hv2
  have HV3 := Lib.hid hv3
  have HNL := Lib.hid hnl
  obtain ⟨A1, c1, rfl, x1, x2, _⟩ := hv1
  obtain ⟨A2, c2, rfl, x3, x4, _⟩ := hv2
  obtain ⟨A3, c3, rfl, x5, x6, hA3⟩ := hv3
  have HA3 := Lib.hid hA3
  unfold maxLen at x2 x4 x6
  clear hA3 hnl
  by_cases hf1 : (a.length : Int) ≤ 100
  rotate_left
  · have HF1 := Lib.hid (decide_eq_false hf1)
    clear hf1
    go_enter Try.func5, Try.ntmps5
    go_wp2_with fail
    refine (few_lit _ a 100 false _ HV1.out HF1.out).mono ?_
    rintro r wf ⟨rfl, rfl⟩
    go_wp2_with fail
    refine (live_any _).mono ?_
    rintro r wz ⟨rfl, hbz⟩
    go_wp2
    go_ret
    exact ⟨rfl, hbz⟩
  have HF1 := Lib.hid (decide_eq_true hf1)
  have hal : a.length ≤ 100 := by omega
  clear hf1
  by_cases hn : 10 < names.length
  · have hn' : (10 : Int) < (names.length : Int) := by omega
    go_enter Try.func5, Try.ntmps5
    go_wp2_with fail
    refine (few_lit _ a 100 true _ HV1.out HF1.out).mono ?_
    rintro r wf ⟨rfl, rfl⟩
    go_wp2_with fail
    refine (live_any _).mono ?_
    rintro r wz ⟨rfl, hbz⟩
    go_wp2
    go_ret
    exact ⟨rfl, hbz⟩
  have hn' : decide (10 < names.length) = false := decide_eq_false hn
  by_cases hp : 10 < ps.length
  · have hp' : (10 : Int) < (ps.length : Int) := by omega
    go_enter Try.func5, Try.ntmps5
    go_wp2_with fail
    refine (few_lit _ a 100 true _ HV1.out HF1.out).mono ?_
    rintro r wf ⟨rfl, rfl⟩
    go_wp2_with fail
    refine (live_any _).mono ?_
    rintro r wz ⟨rfl, hbz⟩
    go_wp2
    go_ret
    exact ⟨rfl, hbz⟩
  have hp' : decide (10 < ps.length) = false := decide_eq_false hp
  go_enter Try.func5, Try.ntmps5
  go_wp2_with fail
  refine (few_lit _ a 100 true _ HV1.out HF1.out).mono ?_
  rintro r wf ⟨rfl, rfl⟩
  go_wp2
  go_loop [7] (fun i => ∃ k : Nat, k ≤ ps.length ∧ i = .int .i64 k ∧ Hid (∀ (j : Nat) p, j < k → ps[j]? = some p → p.length ≤ 100)) (fun i => ps.length - (intOf i).toNat)
  case atStart => exact ⟨0, Nat.zero_le _, rfl, fun j p h => by omega⟩
  case round =>
    obtain ⟨k, hk, rfl, hall⟩ := hrel
    by_cases hlt : k < ps.length
    · obtain ⟨p, hpk⟩ : ∃ p, ps[k]? = some p := ⟨_, List.getElem?_eq_getElem hlt⟩
      obtain ⟨g, o, u, rfl, hgb, hg, d0, hu, hul⟩ := HA3.out k p hpk
      have HU := Lib.hid hu
      have HPK := Lib.hid hpk
      clear hpk hu hul
      by_cases hf : (p.length : Int) ≤ 100
      rotate_left
      · have HF := Lib.hid (decide_eq_false hf)
        clear hf
        go_wp2_with fail
        refine (few_lit _ p 100 false _ HU.out HF.out).mono ?_
        rintro r wf ⟨rfl, rfl⟩
        go_wp2_with fail
        refine (live_any _).mono ?_
        rintro r wz ⟨rfl, hbz⟩
        go_wp2
        go_ret
        exact ⟨rfl, hbz⟩
      have HF := Lib.hid (decide_eq_true hf)
      have hpl : p.length ≤ 100 := by omega
      clear hf
      go_wp2_with fail
      refine (few_lit _ p 100 true _ HU.out HF.out).mono ?_
      rintro r wf ⟨rfl, rfl⟩
      go_wp2
      refine ⟨⟨k + 1, by omega, by go_num, fun j q hj hq => ?_⟩, by simp [intOf]; omega⟩
      by_cases hjk : j < k
      · exact hall.out j q hjk hq
      · have : j = k := by omega
        subst this
        have := HPK.out.symm.trans hq
        simp only [Option.some.injEq] at this
        subst this; exact hpl
    · have hkl : k = ps.length := by omega
      subst hkl
      have HALL := Lib.hid (show ∀ p ∈ ps, p.length ≤ 100 from fun p hp => by
        obtain ⟨j, hj⟩ := List.mem_iff_getElem?.1 hp
        exact hall.out j p (List.getElem?_eq_some_iff.1 hj).1 hj)
      clear hall
      have hnl2 := norm_len_le a
      have HROOM := Lib.hid (room_put (e := a) (fun _ _ => trivial) names ps HALL.out (by omega))
      go_wp2_with fail
      refine (put_any _ _ _ a names ps _ HV1.out HV2.out HV3.out HNL.out HSA.out (by omega) (by omega) HROOM.out).mono ?_
      rintro r w1 ⟨vq, rfl, hoq, hb1⟩
      have HV11 := Lib.hid (HV1.out.below hb1 (Nat.le_refl _))
      have HV21 := Lib.hid (HV2.out.below hb1 (Nat.le_refl _))
      have HV31 := Lib.hid (parts_below HV3.out hb1)
      have HOQ := Lib.hid (Nodes.of_own hoq)
      have HB1 := Lib.hid hb1
      have hs1 := hb1.size
      clear hoq hb1
      go_wp2_with fail
      refine (rput_any _ _ _ a names ps _ HV11.out HV21.out HV31.out (by omega) (by omega) HROOM.out).mono ?_
      rintro r w2 ⟨vr, rfl, hor, hb2⟩
      have HOR := Lib.hid (Nodes.of_own hor)
      have HOQ2 := Lib.hid (HOQ.out.below hb2 (Nat.le_refl _))
      have HB2 := Lib.hid (HB1.out.trans (hb2.mono hs1))
      have hs2 := HB2.out.size
      clear hor hb2
      go_wp2_with fail
      refine (same_lit _ _ (putM a names ps) (putM a names ps) true _ HOQ2.out HOR.out (by simp)).mono ?_
      rintro r w3 ⟨rfl, n1, rfl⟩
      go_wp2_with fail
      refine (live_any _).mono ?_
      rintro r wz ⟨rfl, hbz⟩
      have hbz' : Below w2.heap.size w2 wz := (below_drewN (Below.refl _ _) n1).trans hbz
      go_wp2
      go_ret
      exact ⟨rfl, HB2.out.trans (hbz'.mono hs2)⟩

theorem own : ownKnob Try.prog.godebug = none := by kernel_rfl
theorem laid : laidOutB Try.prog = true := by kernel_rfl
set_option maxRecDepth 100000 in
theorem lifted (os : Os) (started : os.Started) (H : Type) (enc : TypeId × Value → H) :
    ReturnsInHanded {} Try.checked os 5 .any (Rows.treePutsSpec.pre6 enc Try.prog Try.f5 Rows.treePutsRow.domain false) (Rows.treePutsSpec.post enc Try.prog Try.f5 false true false false) := by
  refine returnsInHanded_of_change (C := Try.checked) own started (by kernel_rfl) Try.func5
    (ChangeSpec.witness6 (enc := enc) (C := Try.checked) false ⟨#[], #[.slice none 0 0, .slice none 0 0, .slice none 0 0], []⟩ 8 (by kernel_rfl) (by kernel_rfl) (by kernel_rfl) (by kernel_rfl)) ?_
  intro W base args ds gs before hval0 hW hcnd _
  have hval : ∀ (j : Nat) t v, Try.f5.params[j]? = some t → args[j]? = some v → Value.okWide Try.prog W .any base t v := hval0
  have hW' := hW
  obtain ⟨p, q, hA0, hV, rfl, hfz, hnd⟩ := hW
  have hA : DataW.TrodAll enc Try.prog W 0 (fun _ => true) true Try.f5.params.toList args.toList ds p := hA0
  rw [Try.params5] at hA hval
  obtain ⟨v0, vs0, d0, ds0, p0, q0, hargs, rfl, rfl, h0, r0⟩ := trodAll_cons hA
  obtain ⟨v1, vs1, d1, ds1, p1, q1, rfl, rfl, rfl, h1, r1⟩ := trodAll_cons r0
  obtain ⟨v2, vs2, d2, ds2, p2, q2, rfl, rfl, rfl, h2, r2⟩ := trodAll_cons r1
  obtain ⟨rfl, rfl, rfl⟩ := trodAll_nil r2
  obtain rfl : args = #[v0, v1, v2] := by cases args; simp_all
  obtain ⟨rfl, rfl⟩ := trodVars_none hV
  clear hA0 hval0
  simp only [List.append_nil] at hW'
  have hlt : ∀ x ∈ p0 ++ p1 ++ p2, x.block < W.heap.size := fun x hx => by
    apply hW'.lt x
    simpa using hx
  obtain ⟨a0, n0, s0, z0⟩ := open_nodes (hval 0 23 v0 rfl rfl) h0
  obtain ⟨a1, n1, s1⟩ := open_names (hval 1 36 v1 rfl rfl) h1
  obtain ⟨a2, n2, s2⟩ := open_parts (hval 2 38 v2 rfl rfl) h2
  have z2 := open_nilz (hval 2 38 v2 rfl rfl) h2 a2 (fun A n c e => by obtain ⟨A', c', e', _⟩ := n2; rw [e'] at e; injection e with _ e _; exact e.symm)
  refine (walk W v0 a0 n0 s0 z0 v1 a1 n1 s1 v2 a2 n2 s2 z2).mono fun e W' ⟨he, hg⟩ => ?_
  subst he
  exact ⟨_, rfl, post_kept (pv := []) hW' (fun _ => (trodAll_cons_mk (shut_bool Try.underlying4 _) trodAll_mk0)) (trodAll_cons_mk (Below.trod laid (by kernel_rfl) (of_decide_eq_true (by kernel_rfl)) h0 hg (fun x hx => hlt x (by simp [hx]))) (trodAll_cons_mk (Below.trod laid (by kernel_rfl) (of_decide_eq_true (by kernel_rfl)) h1 hg (fun x hx => hlt x (by simp [hx]))) (trodAll_cons_mk (Below.trod laid (by kernel_rfl) (of_decide_eq_true (by kernel_rfl)) h2 hg (fun x hx => hlt x (by simp [hx]))) trodAll_mk0))) rfl hg⟩

theorem over : Rows.treePutsRow.holds Try.pinned (OpenSpec.ofChange Rows.treePutsSpec) :=
  OpenClaim.holds_of_wide 5 Try.f5 rfl rfl rfl rfl rfl rfl rfl ⟨rfl, rfl, rfl, rfl, rfl⟩ rfl rfl rfl rfl rfl (by kernel_rfl) Try.func5 (by kernel_rfl)
    (of_decide_eq_true (by kernel_rfl)) (by unfold Func.isWrapper; first | (rw [if_pos (by decide +kernel)]; kernel_rfl) | (rw [if_neg (by decide +kernel)]; exact ⟨rfl, rfl⟩))
    (fun os started H enc _ => lifted os started H enc)

theorem proved : Rows.TreePutsSaid :=
  over
#print axioms proved
end Go.Proofs.Ytmggedjolocgdaa.treePuts
