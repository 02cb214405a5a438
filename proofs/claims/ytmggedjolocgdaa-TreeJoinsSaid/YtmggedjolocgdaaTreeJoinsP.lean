/- What any expressions are, put together under any operator, is what the document says, and they are as they were: TreeJoins returns true at every argument, and each argument reads afterwards as it read before. Conditions: none. -/
import Derived.Test.YtmggedjolocgdaaTreeT8
import Derived.Test.YtmggedjolocgdaaTreeLb
import Derived.Test.YtmggedjolocgdaaTreeLj
namespace Go.Proofs.Ytmggedjolocgdaa.treeJoins
open Go.ChangeShapes Go.WideShapes Go.ChangeAt Go.RowKit Go.Proofs.Ytmggedjolocgdaa.Tr
set_option linter.unusedVariables false
set_option linter.unusedSimpArgs false

set_option maxRecDepth 100000 in
set_option maxHeartbeats 2000000 in
theorem walk (w : World) (x : Nd) (hx : x.name.length ≤ maxLen) (v2 : Value) (ps : List (List Nd)) (hv2 : Parts w w.heap.size v2 ps) (hps : ∀ l ∈ ps, Short l) (hzp : NilZ w v2 ps) : Calls Try.prog 4 #[.agg #[.int .i64 x.op, .int .i64 x.a, .int .i64 x.b, .int .i64 x.c, .int .i64 x.n, .string (str x.name)], v2] w fun r w' => r = .returned (.bool true) ∧ Below w.heap.size w w' := by
  have HV2 := Lib.hid hv2
  have HZ := Lib.hid hzp
  obtain ⟨A2, c2, rfl, x3, x4, hA2⟩ := hv2
  have HA2 := Lib.hid hA2
  unfold maxLen at x4
  clear hps hzp hA2
  by_cases hp : 20 < ps.length
  · have hp' : (20 : Int) < (ps.length : Int) := by omega
    go_enter Try.func4, Try.ntmps4
    go_wp2_with fail
    refine (live_any _).mono ?_
    rintro r wz ⟨rfl, hbz⟩
    go_wp2
    go_ret
    exact ⟨rfl, (below_new w _).trans (hbz.mono (by simp))⟩
  have hp' : decide (20 < ps.length) = false := decide_eq_false hp
  obtain ⟨i2, hi2, hw0, hw1, hw2⟩ := info_parts info23
  obtain ⟨w0, hw⟩ : ∃ w0, w0 = w.alloc (.cells #[.int .i64 x.op, .int .i64 x.a, .int .i64 x.b, .int .i64 x.c, .int .i64 x.n, .string (str x.name)] 30) := ⟨_, rfl⟩
  have hb0 : Below w.heap.size w w0 := by rw [hw]; exact below_new w _
  have HBX := Lib.hid (show w0.heap[w.heap.size]? = some (.cells #[.int .i64 x.op, .int .i64 x.a, .int .i64 x.b, .int .i64 x.c, .int .i64 x.n, .string (str x.name)] 30 (0, 0)) by rw [hw]; exact heap_alloc_new w _)
  have hs0 : w.heap.size < w0.heap.size := by rw [hw]; simp
  have HB0 := Lib.hid hb0
  have HREL0 := Lib.hid (RowsRel.start w0 ps)
  clear hb0
  go_enter Try.func4, Try.ntmps4
  go_wp2
  rw [← hw]
  have HW0 := Lib.hid hw
  clear hw
  go_loopw [5, 6] (fun s0 i wr => ∃ (k : Nat) (ov : Value) (vs : List Value), ov = s0 ∧ i = .int .i64 k ∧ RowsRel w0 ps k wr ov vs ∧ Hid (∀ (j : Nat) p, j < k → ps[j]? = some p → p.length ≤ 100)) (fun _ i _ => ps.length - (intOf i).toNat)
  case atStart => exact ⟨0, _, _, rfl, rfl, HREL0.out, fun j p h => by omega⟩
  case round =>
    obtain ⟨k, ov, vs, rfl, rfl, hrel, hall⟩ := hrel
    have hk := hrel.le
    have HREL := Lib.hid hrel
    have hs := hrel.below.size
    have HBW := Lib.hid (HB0.out.trans (hrel.below.mono HB0.out.size))
    clear hrel
    by_cases hlt : k < ps.length
    · obtain ⟨p, hpk⟩ : ∃ p, ps[k]? = some p := ⟨_, List.getElem?_eq_getElem hlt⟩
      obtain ⟨g, o, u, rfl, hgb, hg, d0, hu, hul⟩ := HA2.out k p hpk
      have c0 := (HBW.out.cell (p := ⟨g, o + k, none⟩) hg).trans d0
      have HU := Lib.hid (hu.below HBW.out (Nat.le_refl _))
      have HZU := Lib.hid (show ∀ c, u = .slice none 0 c → c = 0 from fun c hc => HZ.out k g o _ _ c hlt rfl (by rw [d0, hc]))
      have HPK := Lib.hid hpk
      clear hpk hu hul d0
      by_cases hf : (p.length : Int) ≤ 100
      rotate_left
      · have HF := Lib.hid (decide_eq_false hf)
        clear hf
        go_wp2_with fail
        refine (few_lit _ p 100 false _ HU.out HF.out).mono ?_
        rintro r wf ⟨rfl, rfl⟩
        go_wp2_with fail
        refine (live_any _).mono ?_
        rintro r wz ⟨rfl, hbz⟩
        go_wp2
        go_ret
        exact ⟨rfl, HBW.out.trans (hbz.mono HBW.out.size)⟩
      have HF := Lib.hid (decide_eq_true hf)
      have hpl : p.length ≤ 100 := by omega
      clear hf
      go_wp2_with fail
      refine (few_lit _ p 100 true _ HU.out HF.out).mono ?_
      rintro r wf ⟨rfl, rfl⟩
      go_wp2_with fail
      refine (copy_any _ p _ HU.out (by omega) HZU.out).mono ?_
      rintro r w3 ⟨vj, rfl, hoj, hb3⟩
      obtain ⟨Aj, cj, rfl, j1, j2, _⟩ := Nodes.of_own hoj
      unfold maxLen at j2
      have HOJ := Lib.hid hoj
      have HB3 := Lib.hid hb3
      have hs3 := hb3.size
      have HROW := Lib.hid (own_below HREL.out.row hb3)
      clear hoj hb3
      go_wp2_with (at_builtin; refine wpList_append_own _ rfl (.tmp 26) (.tmp 32) 38 rfl w0.heap.size 23 i2 _ 1 24 Try.underlying38 hi2 hw0 hw1 hw2 rfl (by decide) _ _ _ rfl (HROW.out.alloc _) ⟨w3.heap.size, 0, none⟩ 1 1 [.slice Aj p.length cj] rfl rfl ?a1 ?b1 ?c1 ?d1 ?e1 ?_)
      case a1 => exact cell_one_new _ _ _
      case b1 => first | rfl | (intro u hu; simp at hu; subst hu; rfl)
      case c1 => unfold maxLen; omega
      case d1 => omega
      case e1 => simp; omega
      intro ov' w4 hrow hg4 _
      have R := Lib.hid (HREL.out.step HB3.out (q := p) HOJ.out HPK.out hrow hg4)
      clear hrow hg4
      go_wp2
      refine ⟨⟨k + 1, _, _, rfl, by go_num, R.out, fun j q hj hq => ?_⟩, by simp [intOf]; omega⟩
      by_cases hjk : j < k
      · exact hall.out j q hjk hq
      · have : j = k := by omega
        subst this
        have := HPK.out.symm.trans hq
        simp only [Option.some.injEq] at this
        subst this; exact hpl
    · have hkl : k = ps.length := by omega
      subst hkl
      have HALL := Lib.hid (show ∀ p ∈ ps, p.length ≤ 100 from fun p hp => by
        obtain ⟨j, hj⟩ := List.mem_iff_getElem?.1 hp
        exact hall.out j p (List.getElem?_eq_some_iff.1 hj).1 hj)
      clear hall
      have HRM := Lib.hid (show roomM ps ≤ 80000 from Nat.le_trans (room_all ps 100 HALL.out) (by omega))
      have hbox := (HREL.out.below.block w.heap.size hs0).trans HBX.out
      have HBOX := Lib.hid hbox
      have X : ∀ k, wr.cell? ⟨w.heap.size, k, none⟩ = (#[.int .i64 x.op, .int .i64 x.a, .int .i64 x.b, .int .i64 x.c, .int .i64 x.n, .string (str x.name)] : Array Value)[k]? := fun k => by unfold World.cell?; rw [hbox]; rfl
      have e0 := X 0
      have e4 := X 4
      have e5 := X 5
      simp at e0 e4 e5
      have HP := Lib.hid HREL.out.parts
      obtain ⟨Ap, cp, hpv, p1, p2, _⟩ := HREL.out.parts
      subst hpv
      unfold maxLen at p2
      have hsw := HBW.out.size
      clear X hbox
      go_wp2_with fail
      refine (join_any _ ps x.op x.n x.name _ HP.out HRM.out).mono ?_
      rintro r w3 ⟨ve, rfl, hoe, hb3⟩
      have HOE := Lib.hid (Nodes.of_own hoe)
      have HB3 := Lib.hid (HBW.out.trans (hb3.mono hsw))
      have hs3 := HB3.out.size
      have HR3 := Lib.hid (HREL.out.kept hb3)
      have HV23 := Lib.hid (parts_below HV2.out HB3.out)
      have HBOX3 := Lib.hid ((hb3.block _ (lt_of_block HBOX.out)).trans HBOX.out)
      clear hoe hb3 e0 e4 e5
      go_wp2
      obtain ⟨wo, rfl⟩ : ∃ wo : World, wo = wr := ⟨_, rfl⟩
      go_loopw [8] (fun i wr => ∃ k : Nat, k ≤ ps.length ∧ i = .int .i64 k ∧ Below w3.heap.size w3 wr) (fun i _ => ps.length - (intOf i).toNat)
      case atStart => exact ⟨0, Nat.zero_le _, rfl, Below.refl _ _⟩
      case round =>
        obtain ⟨j, hj, rfl, hbj⟩ := hrel
        have HBJ := Lib.hid hbj
        by_cases hltj : j < ps.length
        · obtain ⟨p, hpj⟩ : ∃ p, ps[j]? = some p := ⟨_, List.getElem?_eq_getElem hltj⟩
          obtain ⟨v, hvj⟩ : ∃ v, vs[j]? = some v := ⟨_, List.getElem?_eq_getElem (by rw [HR3.out.vlen]; exact hltj)⟩
          have HO := Lib.hid ((Nodes.of_own (HR3.out.nds j v p hvj hpj)).below hbj (Nat.le_refl _))
          obtain ⟨go_, hgo, cO'⟩ : ∃ go_, Ap = some ⟨go_, 0, none⟩ ∧ w3.cell? ⟨go_, j, none⟩ = some v := by
            rcases HR3.out.row.2 with ⟨h0, h00⟩ | ⟨g', cap', cur', h0, _⟩
            · omega
            · have h1 := HR3.out.row
              rw [h0] at h1
              have h2 := h1.cellAt j (by omega)
              rw [hvj] at h2
              simp only [Value.slice.injEq] at h0
              exact ⟨g', h0.1, h2⟩
          subst hgo
          have cO := (hbj.cell (p := ⟨go_, j, none⟩) (World.block_lt_of_cell? _ _ cO')).trans cO'
          obtain ⟨A', c', e1, _, _, hA'⟩ := HV23.out
          simp only [Value.slice.injEq, true_and] at e1
          obtain ⟨rfl, rfl⟩ := e1
          obtain ⟨g, o, u, rfl, hgb, hg, cP', hu, hul⟩ := hA' j p hpj
          have cP := (hbj.cell (p := ⟨g, o + j, none⟩) hg).trans cP'
          have HU := Lib.hid (hu.below hbj (Nat.le_refl _))
          clear hpj hvj hu hul hA' cO' cP' hbj
          go_wp2_with fail
          go_quiet ((go_at_call 20; refine Calls.quiet_of (same_lit _ _ p p true _ (HO.out.drewN _) (HU.out.drewN _) (by simp))))
          go_wp2
          refine ⟨⟨j + 1, by omega, by go_num, below_drewN HBJ.out _⟩, by simp [intOf]; omega⟩
        · have hjl : j = ps.length := by omega
          subst hjl
          have HOE4 := Lib.hid (HOE.out.below hbj (Nat.le_refl _))
          have HV24 := Lib.hid (parts_below HV23.out hbj)
          have HB4 := Lib.hid (HB3.out.trans (hbj.mono hs3))
          have hs4 := HB4.out.size
          have hbox := (hbj.block _ (lt_of_block HBOX3.out)).trans HBOX3.out
          have X : ∀ k, wr.cell? ⟨w.heap.size, k, none⟩ = (#[.int .i64 x.op, .int .i64 x.a, .int .i64 x.b, .int .i64 x.c, .int .i64 x.n, .string (str x.name)] : Array Value)[k]? := fun k => by unfold World.cell?; rw [hbox]; rfl
          have e0 := X 0
          have e4 := X 4
          have e5 := X 5
          simp at e0 e4 e5
          clear X hbox hbj
          go_wp2_with fail
          refine (rjoin_all _ ps x.op x.n x.name _ HV24.out HRM.out).mono ?_
          rintro r w5 ⟨vr, rfl, hor, hb5⟩
          have HOR := Lib.hid (Nodes.of_own hor)
          have HOE5 := Lib.hid (HOE4.out.below hb5 (Nat.le_refl _))
          have HB5 := Lib.hid (HB4.out.trans (hb5.mono hs4))
          have hs5 := HB5.out.size
          clear hor hb5 e0 e4 e5
          go_wp2_with fail
          refine (same_lit _ _ (joinM x.op x.n x.name ps) (joinM x.op x.n x.name ps) true _ HOE5.out HOR.out (by simp)).mono ?_
          rintro r w6 ⟨rfl, n1, rfl⟩
          go_wp2_with fail
          refine (live_any _).mono ?_
          rintro r wz ⟨rfl, hbz⟩
          have hbz' : Below w5.heap.size w5 wz := (below_drewN (Below.refl _ _) n1).trans hbz
          go_wp2
          go_ret
          exact ⟨rfl, HB5.out.trans (hbz'.mono hs5)⟩

theorem own : ownKnob Try.prog.godebug = none := by kernel_rfl
theorem laid : laidOutB Try.prog = true := by kernel_rfl
set_option maxRecDepth 100000 in
theorem lifted (os : Os) (started : os.Started) (H : Type) (enc : TypeId × Value → H) :
    ReturnsInHanded {} Try.checked os 4 .any (Rows.treeJoinsSpec.pre6 enc Try.prog Try.f4 Rows.treeJoinsRow.domain false) (Rows.treeJoinsSpec.post enc Try.prog Try.f4 false true false false) := by
  refine returnsInHanded_of_change (C := Try.checked) own started (by kernel_rfl) Try.func4
    (ChangeSpec.witness6 (enc := enc) (C := Try.checked) false ⟨#[], #[.agg #[.int .i64 0, .int .i64 0, .int .i64 0, .int .i64 0, .int .i64 0, .string ⟨#[]⟩], .slice none 0 0], []⟩ 8 (by kernel_rfl) (by kernel_rfl) (by kernel_rfl) (by kernel_rfl)) ?_
  intro W base args ds gs before hval0 hW hcnd _
  have hval : ∀ (j : Nat) t v, Try.f4.params[j]? = some t → args[j]? = some v → Value.okWide Try.prog W .any base t v := hval0
  have hW' := hW
  obtain ⟨p, q, hA0, hV, rfl, hfz, hnd⟩ := hW
  have hA : DataW.TrodAll enc Try.prog W 0 (fun _ => true) true Try.f4.params.toList args.toList ds p := hA0
  rw [Try.params4] at hA hval
  obtain ⟨v0, vs0, d0, ds0, p0, q0, hargs, rfl, rfl, h0, r0⟩ := trodAll_cons hA
  obtain ⟨v1, vs1, d1, ds1, p1, q1, rfl, rfl, rfl, h1, r1⟩ := trodAll_cons r0
  obtain ⟨rfl, rfl, rfl⟩ := trodAll_nil r1
  obtain rfl : args = #[v0, v1] := by cases args; simp_all
  obtain ⟨rfl, rfl⟩ := trodVars_none hV
  clear hA0 hval0
  simp only [List.append_nil] at hW'
  have hlt : ∀ x ∈ p0 ++ p1, x.block < W.heap.size := fun x hx => by
    apply hW'.lt x
    simpa using hx
  obtain ⟨a0, e0, s0⟩ := open_node (hval 0 30 v0 rfl rfl) h0
  subst e0
  obtain ⟨a1, n1, s1⟩ := open_parts (hval 1 38 v1 rfl rfl) h1
  have z1 := open_nilz (hval 1 38 v1 rfl rfl) h1 a1 (fun A n c e => by obtain ⟨A', c', e', _⟩ := n1; rw [e'] at e; injection e with _ e _; exact e.symm)
  refine (walk W a0 s0 v1 a1 n1 s1 z1).mono fun e W' ⟨he, hg⟩ => ?_
  subst he
  exact ⟨_, rfl, post_kept (pv := []) hW' (fun _ => (trodAll_cons_mk (shut_bool Try.underlying4 _) trodAll_mk0)) (trodAll_cons_mk (Below.trod laid (by kernel_rfl) (of_decide_eq_true (by kernel_rfl)) h0 hg (fun x hx => hlt x (by simp [hx]))) (trodAll_cons_mk (Below.trod laid (by kernel_rfl) (of_decide_eq_true (by kernel_rfl)) h1 hg (fun x hx => hlt x (by simp [hx]))) trodAll_mk0)) rfl hg⟩

theorem over : Rows.treeJoinsRow.holds Try.pinned (OpenSpec.ofChange Rows.treeJoinsSpec) :=
  OpenClaim.holds_of_wide 4 Try.f4 rfl rfl rfl rfl rfl rfl rfl ⟨rfl, rfl, rfl, rfl, rfl⟩ rfl rfl rfl rfl rfl (by kernel_rfl) Try.func4 (by kernel_rfl)
    (of_decide_eq_true (by kernel_rfl)) (by unfold Func.isWrapper; first | (rw [if_pos (by decide +kernel)]; kernel_rfl) | (rw [if_neg (by decide +kernel)]; exact ⟨rfl, rfl⟩))
    (fun os started H enc _ => lifted os started H enc)

theorem proved : Rows.TreeJoinsSaid :=
  over
#print axioms proved
end Go.Proofs.Ytmggedjolocgdaa.treeJoins
