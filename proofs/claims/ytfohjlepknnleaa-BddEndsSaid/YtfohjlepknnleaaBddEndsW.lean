/- The walk of BddEnds. Conditions: as it says. -/
import Derived.Test.YtfohjlepknnleaaBdLg
namespace Go.Proofs.Ytfohjlepknnleaa.bddEnds
open Go.ChangeShapes Go.WideShapes Go.ChangeAt Go.RowKit Go.Proofs.Ytfohjlepknnleaa.Bd
set_option linter.unusedVariables false
set_option linter.unusedSimpArgs false

set_option maxRecDepth 100000 in
set_option maxHeartbeats 8000000 in
theorem walk (w : World) (vars : Int) (hvw : (Lit.int .i64 vars).wf = true) (sv : Value) (l0 : List Op6) (hso : OpsIn w sv l0) :
    Calls Try.prog 7 #[.int .i64 vars, sv] w (fun e w' => e = .returned (.bool true) ∧ Below w.heap.size w w') := by
  have HSO := Lib.hid hso
  obtain ⟨SA, sc, rfl, hs1, hs2, -⟩ := hso
  obtain ⟨m, hm⟩ : ∃ m, l0.length = m := ⟨_, rfl⟩
  rw [hm] at HSO hs1 ⊢
  unfold maxLen at hs2
  have HL0 := Lib.hid hm
  clear hm
  by_cases hbig : vars < 1 ∨ 5 < vars ∨ 30 < m
  · have hgo : ∀ (Q : Prop), (vars < 1 → Q) → (¬ vars < 1 → 5 < vars → Q) → (¬ vars < 1 → ¬ 5 < vars → (30 : Int) < (m : Int) → Q) → Q := fun Q q1 q2 q3 => by
      by_cases e : vars < 1
      · exact q1 e
      · by_cases e2 : 5 < vars
        · exact q2 e e2
        · exact q3 e e2 (by omega)
    clear hbig
    refine hgo _ (fun he => ?_) (fun he he2 => ?_) (fun he he2 he3 => ?_)
    all_goals
      clear hgo
      go_enter Try.func7, Try.ntmps7
      go_wp2_with fail
      refine (live_any _).mono ?_
      rintro e w1 ⟨rfl, hb⟩
      have HEND := Lib.hid hb
      clear hb
      go_wp2_with fail
      refine bodyPost_ret (v := .bool true) (by simp [results, Try.results7, go_sem]) rfl ⟨rfl, HEND.out⟩
  · obtain ⟨vn, hvn⟩ : ∃ v : Nat, vars = (v : Int) := ⟨vars.toNat, by omega⟩
    subst hvn
    have hv1 : ¬ (vn : Int) < 1 := by omega
    have hv5 : ¬ (5 : Int) < (vn : Int) := by omega
    have hm3 : ¬ (30 : Int) < (m : Int) := by omega
    have hn1 : 1 ≤ vn := by omega
    have hn5 : vn ≤ 5 := by omega
    have hm30 : m ≤ 30 := by omega
    obtain ⟨p, hp⟩ : ∃ p, 2 ^ vn = p := ⟨_, rfl⟩
    have hp32 : p ≤ 32 := by rw [← hp]; exact (show 2 ^ vn ≤ 2 ^ 5 from Nat.pow_le_pow_right (by omega) hn5)
    have hp1 : 1 ≤ p := by rw [← hp]; exact Nat.two_pow_pos _
    have hwr : wrap64 ((2 : Int) ^ vn) = (p : Int) := by
      have : ((2 : Int) ^ vn) = ((2 ^ vn : Nat) : Int) := by simp
      rw [this, hp]
      unfold wrap64; omega
    have HPP := Lib.hid hp
    have HNO : Hid (∀ L : Nat, L ≤ 2 + 93 * 30 → 10000 ≤ L + 3 * (p - 1) → False) := Lib.hid (fun L h1 h2 => by clear hwr hs2; omega)
    have HNX : Hid (∀ L L' i : Nat, L ≤ 2 + 93 * i → L' ≤ L + 3 * (p - 1) → L' ≤ 2 + 93 * (i + 1)) := Lib.hid (fun L L' i h1 h2 => by clear hwr hs2; omega)
    have HNEW := Lib.hid (new_law w vn hn5)
    have HC1 := Lib.hid (rconst_tab · vn false (by omega))
    have HC2 := Lib.hid (rconst_tab · vn true (by omega))
    obtain ⟨i0, hi0, hz0⟩ := Option.map_eq_some_iff.1 infoMd
    simp only [Prod.mk.injEq] at hz0
    obtain ⟨hz0, hz1, hz3⟩ := hz0
    clear hbig hvw hp
    rw [HPP.out] at HC1 HC2
    go_enter Try.func7, Try.ntmps7
    go_wp2_with fail
    refine HNEW.out.mono ?_
    rintro e w1 ⟨b, rfl, hst1, hb1⟩
    have HB1 := Lib.hid hb1
    have HST1 := Lib.hid hst1
    clear hst1 hb1 HNEW
    go_wp2_with fail
    refine (HC1.out w1).mono ?_
    rintro e w2 ⟨t0, rfl, ht0, hb2⟩
    have HT0 := Lib.hid ht0
    have HB2 := Lib.hid (HB1.out.trans (hb2.mono HB1.out.size))
    have HST2 := Lib.hid (HST1.out.below hb2)
    clear ht0 hb2
    go_wp2_with fail
    refine (HC2.out w2).mono ?_
    rintro e w3 ⟨t1, rfl, ht1, hb3⟩
    obtain ⟨w4, hw4⟩ : ∃ W, w3.alloc (.cells #[.int .i64 0, .slice (some ⟨t0, 0, none⟩) p p, .int .i64 1, .slice (some ⟨t1, 0, none⟩) p p] 32) = W := ⟨_, rfl⟩
    have hb4 : Below w3.heap.size w3 w4 := by rw [← hw4]; exact below_new _ _
    have HST3 := Lib.hid (HST2.out.below hb3)
    have HST4 := Lib.hid (HST3.out.below hb4)
    have HB3 := Lib.hid (HB2.out.trans (hb3.mono HB2.out.size))
    have HB4 := Lib.hid (HB3.out.trans (hb4.mono HB3.out.size))
    have HMD4 : Hid (Mds w.heap.size w4 (.slice (some ⟨w3.heap.size, 0, none⟩) 2 2) vn [(vn, 0, 0), (vn, 1, 1)] [(0, t0), (1, t1)]) := Lib.hid
      (mds_two HST3.out.good (HT0.out.keeps (Keeps.of hb3)) ht1 HB3.out.size (by rw [HPP.out]; exact hw4))
    have HW4 := Lib.hid hw4
    clear ht1 hb3 hb4 hw4 HC1 HC2
    go_wp2_with fail
    rw [HW4.out]
    go_loopw [7, 8] (fun vl vi wr => ∃ (i : Nat) (S : List Nd) (l : List (Nat × Nat)), i ≤ m ∧ vi = .int .i64 (i : Int) ∧ Mds w.heap.size wr vl vn S l ∧ StAt w.heap.size wr b vn 10000 S ∧ l.length = i + 2 ∧ S.length ≤ 2 + 93 * i ∧ Below w.heap.size w wr) (fun _ vi _ => m - intV vi)
    case atStart => exact ⟨0, _, _, Nat.zero_le _, rfl, HMD4.out, HST4.out, rfl, by simp, HB4.out⟩
    case round =>
      obtain ⟨i, S, l, hi, rfl, hmd, hst, hln, hsl, hbw⟩ := hrel
      obtain ⟨A, c, hvl, hlc, hcm⟩ := hmd.form
      rw [hvl] at hmd
      have HMD := Lib.hid hmd
      have HST := Lib.hid hst
      have HBW := Lib.hid hbw
      have HG := Lib.hid hst.good
      have HLN := Lib.hid hln
      have hln2 : l.length ≤ 32 := by omega
      obtain ⟨n, hn⟩ : ∃ n, l.length = n := ⟨_, rfl⟩
      rw [hn] at hvl hlc HMD hln2 hln
      have HNN := Lib.hid hn
      have hsz := hbw.size
      have HL2 := Lib.hid hln
      clear hmd hst hbw hn hln
      subst hvl
      by_cases hin : i < m
      · obtain ⟨o, ho⟩ : ∃ o, l0[i]? = some o := ⟨_, List.getElem?_eq_getElem (by rw [HL0.out]; exact hin)⟩
        obtain ⟨A', c', e', -, -, hcells⟩ := HSO.out.below HBW.out
        obtain ⟨ok, g, og, eA, hglt, c0, c1, c2, c3, c4, c5⟩ := hcells i o ho
        have HOK := Lib.hid ok
        simp only [Value.slice.injEq] at e'
        obtain ⟨rfl, -, -⟩ := e'
        subst eA
        have HCL := Lib.hid (call_any w.heap.size wr b vn 10000 S HST.out hn1 hn5 (.slice A n c) l HMD.out (by rw [HNN.out, HL2.out]; omega) (by rw [HNN.out, HL2.out]; omega) o.a0 o.a1 o.a2 o.a3 o.a4 o.cb HOK.out.2.1 HOK.out.2.2.1 HOK.out.2.2.2.1 HOK.out.2.2.2.2)
        clear hcells ho ok
        go_wp2_with fail
        refine HCL.out.mono ?_
        rintro e w6 ⟨hb6, hk6, x, y, t, rfl, harm⟩
        rcases harm with ⟨-, -, harm, -⟩ | ⟨m', z, rfl, rfl, hst6, hlen6, hz6, hr6⟩
        · rw [HPP.out] at harm
          exact (HNO.out _ (Nat.le_trans hsl (Nat.add_le_add_left (Nat.mul_le_mul_left 93 (Nat.le_trans hi hm30)) 2)) harm).elim
        have hmd6 := HMD.out.keeps HG.out hk6 m'
        have HO6 := Lib.hid hmd6.row
        have HMD6 := Lib.hid hmd6
        have HST6 := Lib.hid hst6
        have HZ6 := Lib.hid hz6
        have HR6 := Lib.hid hr6
        have HB6 := Lib.hid (HBW.out.trans hb6)
        have HL6 : Hid ((S ++ m').length ≤ 2 + 93 * (i + 1)) := Lib.hid (by rw [HPP.out] at hlen6; exact HNX.out _ _ _ hsl hlen6)
        have hsz6 := HB6.out.size
        rw [HNN.out] at HO6
        rw [HPP.out]
        clear hb6 hk6 hst6 hlen6 hz6 hr6 hmd6 HCL c0 c1 c2 c3 c4 c5
        go_wp2_with (at_builtin; refine wpList_append_lies _ rfl (.tmp 75) (.tmp 79) 33 rfl w.heap.size 32 i0 _ 2 32 Try.underlying33 hi0 hz0 hz1 hz3 rfl (by decide) (.slice A n c) n _ rfl (HO6.out.alloc _) ⟨w6.heap.size, 0, none⟩ 1 1 [.int .i64 (z : Int), .slice (some ⟨t, 0, none⟩) p p] rfl rfl ?a2 ?b2 (by omega) ?c2 ?d2 ?e2 (w6.heap.size + 1) ?f2 ?_)
        case a2 => exact World.news_of_block (t := 32) (fr := (0, 0)) (heap_alloc_new _ _)
        case b2 => simp [Value.oneCell']
        case c2 => unfold maxLen; omega
        case d2 => omega
        case e2 => simp; omega
        case f2 => simp
        intro gg cap w7 hown7 hg7 hat7 hlt7
        have hbn := below_new w6 (.cells #[.int .i64 (z : Int), .slice (some ⟨t, 0, none⟩) p p] 32)
        have hmdA := HMD6.out.below HST6.out.good hbn
        have hE : Mds w.heap.size w7 (.slice (some ⟨gg, 0, none⟩) (n + 1) cap) vn (S ++ m') (l ++ [(z, t)]) ∧ StAt w.heap.size w7 b vn 10000 (S ++ m') ∧ Below w.heap.size w w7 :=
          ⟨hmdA.snoc (by rw [HNN.out]; unfold mdV; rw [HPP.out]; exact hown7) hg7 (fun g hg => own_type hmdA.row hg) HZ6.out (HR6.out.keeps (Keeps.of hbn)), (HST6.out.below hbn).grown hg7 (fun g hg => own_type hmdA.row hg), (HB6.out.trans (hbn.mono hsz6)).grown hg7 (by simp; omega) (fun g e => (HO6.out.lt g e).1)⟩
        have HE := Lib.hid hE
        have HL7 : Hid ((l ++ [(z, t)]).length = i + 1 + 2) := Lib.hid (by rw [List.length_append, HNN.out, HL2.out]; rfl)
        clear hown7 hg7 hat7 hlt7 hE hmdA hbn
        go_wp2
        refine ⟨⟨i + 1, S ++ m', l ++ [(z, t)], by omega, by go_num, HE.out.1, HE.out.2.1, HL7.out, HL6.out, HE.out.2.2⟩, by simp [intV]; omega⟩
      · obtain rfl : i = m := by omega
        obtain ⟨k, hk⟩ : ∃ k, n = k + 1 := ⟨i + 1, by have := HL2.out; omega⟩
        subst hk
        obtain ⟨⟨f, tf⟩, hfl⟩ : ∃ q, l[k]? = some q := ⟨_, List.getElem?_eq_getElem (by rw [HNN.out]; omega)⟩
        obtain ⟨g, rfl, q0, q1⟩ := HMD.out.at hfl
        have HF := Lib.hid (HMD.out.each k f tf hfl).1
        have HOP := Lib.hid ((not_any w.heap.size wr b vn 10000 S HST.out f HF.out).mono fun e w' h => h.ok (by rw [HPP.out]; exact Nat.lt_of_le_of_lt (Nat.add_le_add (Nat.le_trans hsl (Nat.add_le_add_left (Nat.mul_le_mul_left 93 hm30) 2)) (Nat.sub_le_sub_right hp32 1)) (by omega)))
        clear hfl
        go_wp2_with fail
        refine HOP.out.mono ?_
        rintro e w6 ⟨m', nn, rfl, hst6, hl6, hn6, hb6, -⟩
        obtain ⟨N, hN⟩ : ∃ N, S ++ m' = N := ⟨_, rfl⟩
        have hfN : f < N.length := by rw [← hN, List.length_append]; have := HF.out; omega
        have hdf : ∀ r, den N f r = den S f r := fun r => by rw [← hN]; exact den_app HG.out r HF.out
        rw [hN] at hst6 hl6 hn6
        have hdn : ∀ r, den N nn r = !den N f r := fun r => (hn6.2 r).trans (by rw [hdf])
        obtain ⟨ca, hca⟩ : ∃ x, cntD vn N f = x := ⟨_, rfl⟩
        obtain ⟨cb, hcb⟩ : ∃ x, cntD vn N nn = x := ⟨_, rfl⟩
        have hsum : ca + cb = p := by rw [← hca, ← hcb]; have := cnt_not vn 0 (den N f) (den N nn) hdn zeros; rw [HPP.out] at this; exact this
        have hpos := cntD_pos hst6.good hfN
        rw [hca] at hpos
        have HST6 := Lib.hid hst6
        have HB6 := Lib.hid (HBW.out.trans hb6)
        have HCA := Lib.hid (count_any w.heap.size w6 b vn 10000 N hst6 f hfN)
        have HFN := Lib.hid hfN
        have HNN2 := Lib.hid hn6.1
        have HDN := Lib.hid hdn
        rw [hca] at HCA
        have hcap : ca ≤ 32 := by omega
        have hcbp : cb ≤ 32 := by omega
        have hsumi : (ca : Int) + (cb : Int) = (p : Int) := by omega
        clear hN hdf hst6 hl6 hn6 hdn hb6 hca q0 q1 hsum HOP
        go_wp2_with fail
        refine HCA.out.mono ?_
        rintro e w7 ⟨rfl, hb7⟩
        have HST7 := Lib.hid (HST6.out.below hb7)
        have HB7 := Lib.hid (HB6.out.trans (hb7.mono HB6.out.size))
        have HCB := Lib.hid (count_any w.heap.size w7 b vn 10000 N HST7.out nn HNN2.out)
        rw [hcb] at HCB
        clear hb7 hcb HCA
        go_wp2_with fail
        refine HCB.out.mono ?_
        rintro e w8 ⟨rfl, hb8⟩
        have HST8 := Lib.hid (HST7.out.below hb8)
        have HB8 := Lib.hid (HB7.out.trans (hb8.mono HB7.out.size))
        clear hb8 HCB
        by_cases hf0 : f = 0
        · subst hf0
          have hca0 : ca = 0 := by by_cases h : 0 < ca; exact absurd rfl (hpos.1 h); omega
          subst hca0
          have hn1' : nn = 1 := canon HST8.out.good HNN2.out (by have := HST8.out.good.two; omega) (fun r => by rw [HDN.out, den_zero, den_one]; rfl)
          subst hn1'
          clear hpos
          go_wp2_with fail
          refine (witness_zero w8 _).mono ?_
          rintro e w9 ⟨rfl, hw9⟩
          subst hw9
          go_wp2_with fail
          refine (live_any _).mono ?_
          rintro e wA ⟨rfl, hbA⟩
          have HEND := Lib.hid (HB8.out.trans (hbA.mono HB8.out.size))
          clear hbA
          go_wp2_with fail
          refine bodyPost_ret (v := .bool true) (by simp [results, Try.results7, go_sem]) rfl ⟨rfl, HEND.out⟩
        · have hcapN : 0 < ca := hpos.2 hf0
          have hcap1 : ¬ ca = 0 := by omega
          have hcap2 : decide ((0 : Int) < (ca : Int)) = true := decide_eq_true (by omega)
          have HWI := Lib.hid (witness_any w.heap.size w8 b vn 10000 N HST8.out f HFN.out hf0)
          have HTRUE : Hid (den N f (fun i => ((List.range vn).map (witF N f f)).getD i false) = true) := Lib.hid (by
            rw [← wit_true HST8.out.good HFN.out hf0]
            congr 1; funext v
            rw [List.getD_eq_getElem?_getD, List.getElem?_map]
            by_cases hv : v < vn
            · rw [List.getElem?_range hv, if_pos hv]; rfl
            · rw [List.getElem?_eq_none (by simp; omega), if_neg hv]; rfl)
          clear hpos hf0
          go_wp2_with fail
          refine HWI.out.mono ?_
          rintro e w9 ⟨⟨g2, rfl, hrow⟩, hb9⟩
          have HST9 := Lib.hid (HST8.out.below hb9)
          have HB9 := Lib.hid (HB8.out.trans (hb9.mono HB8.out.size))
          have HR9 := Lib.hid hrow
          have HV1 := Lib.hid (value_any w.heap.size w9 b vn 10000 N HST9.out f HFN.out _ _ (hrow.bools (n := vn) (by simp)) (by simp))
          rw [HTRUE.out] at HV1
          clear hrow hb9 HWI
          go_wp2_with fail
          refine HV1.out.mono ?_
          rintro e wA ⟨rfl, hbA⟩
          have HSTA := Lib.hid (HST9.out.below hbA)
          have HBA := Lib.hid (HB9.out.trans (hbA.mono HB9.out.size))
          have HV2 := Lib.hid (value_any w.heap.size wA b vn 10000 N HSTA.out nn HNN2.out _ _ ((HR9.out.keeps (Keeps.of hbA)).bools (n := vn) (by simp)) (by simp))
          rw [HDN.out, HTRUE.out] at HV2
          clear hbA HV1
          go_wp2_with fail
          refine HV2.out.mono ?_
          rintro e wB ⟨rfl, hbB⟩
          have HBB := Lib.hid (HBA.out.trans (hbB.mono HBA.out.size))
          clear hbB HV2
          go_wp2_with fail
          refine (live_any _).mono ?_
          rintro e wC ⟨rfl, hbC⟩
          have HEND := Lib.hid (HBB.out.trans (hbC.mono HBB.out.size))
          clear hbC
          go_wp2_with fail
          refine bodyPost_ret (v := .bool true) (by simp [results, Try.results7, go_sem]) rfl ⟨rfl, HEND.out⟩
end Go.Proofs.Ytfohjlepknnleaa.bddEnds
