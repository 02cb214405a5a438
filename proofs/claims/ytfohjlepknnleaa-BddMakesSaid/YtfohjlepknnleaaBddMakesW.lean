/- The walk of BddMakes. Conditions: as it says. -/
import Derived.Test.YtfohjlepknnleaaBdAl
namespace Go.Proofs.Ytfohjlepknnleaa.bddMakes
open Go.ChangeShapes Go.WideShapes Go.ChangeAt Go.RowKit Go.Proofs.Ytfohjlepknnleaa.Bd
set_option linter.unusedVariables false
set_option linter.unusedSimpArgs false

set_option maxRecDepth 100000 in
set_option maxHeartbeats 8000000 in
theorem walk (w : World) (vars : Int) (hvw : (Lit.int .i64 vars).wf = true) (bud : Int) (hbw0 : (Lit.int .i64 bud).wf = true) (sv : Value) (l0 : List Op6) (hso : OpsIn w sv l0) :
    Calls Try.prog 3 #[.int .i64 vars, .int .i64 bud, sv] w (fun e w' => e = .returned (.bool true) ∧ Below w.heap.size w w') := by
  have HSO := Lib.hid hso
  obtain ⟨SA, sc, rfl, hs1, hs2, -⟩ := hso
  obtain ⟨m, hm⟩ : ∃ m, l0.length = m := ⟨_, rfl⟩
  rw [hm] at HSO hs1 ⊢
  unfold maxLen at hs2
  have HL0 := Lib.hid hm
  clear hm
  by_cases hbig : vars < 1 ∨ 5 < vars ∨ 30 < m
  · have hgo : ∀ (Q : Prop), (vars < 1 → Q) → (¬ vars < 1 → 5 < vars → Q) → (¬ vars < 1 → ¬ 5 < vars → (30 : Int) < (m : Int) → Q) → Q := fun Q q1 q2 q3 => by
      by_cases e : vars < 1
      · exact q1 e
      · by_cases e2 : 5 < vars
        · exact q2 e e2
        · exact q3 e e2 (by omega)
    clear hbig
    refine hgo _ (fun he => ?_) (fun he he2 => ?_) (fun he he2 he3 => ?_)
    all_goals
      clear hgo
      go_enter Try.func3, Try.ntmps3
      go_wp2_with fail
      refine (live_any _).mono ?_
      rintro e w1 ⟨rfl, hb⟩
      have HEND := Lib.hid hb
      clear hb
      go_wp2_with fail
      refine bodyPost_ret (v := .bool true) (by simp [results, Try.results3, go_sem]) rfl ⟨rfl, HEND.out⟩
  · obtain ⟨vn, hvn⟩ : ∃ v : Nat, vars = (v : Int) := ⟨vars.toNat, by omega⟩
    subst hvn
    have hv1 : ¬ (vn : Int) < 1 := by omega
    have hv5 : ¬ (5 : Int) < (vn : Int) := by omega
    have hm3 : ¬ (30 : Int) < (m : Int) := by omega
    have hn1 : 1 ≤ vn := by omega
    have hn5 : vn ≤ 5 := by omega
    have hm30 : m ≤ 30 := by omega
    obtain ⟨p, hp⟩ : ∃ p, 2 ^ vn = p := ⟨_, rfl⟩
    have hp32 : p ≤ 32 := by rw [← hp]; exact (show 2 ^ vn ≤ 2 ^ 5 from Nat.pow_le_pow_right (by omega) hn5)
    have hp1 : 1 ≤ p := by rw [← hp]; exact Nat.two_pow_pos _
    have hwr : wrap64 ((2 : Int) ^ vn) = (p : Int) := by
      have : ((2 : Int) ^ vn) = ((2 ^ vn : Nat) : Int) := by simp
      rw [this, hp]
      unfold wrap64; omega
    have HPP := Lib.hid hp
    have HNX : Hid (∀ L L' i : Nat, L ≤ 2 + 93 * i → L' ≤ L + 3 * (p - 1) → L' ≤ 2 + 93 * (i + 1)) := Lib.hid (fun L L' i h1 h2 => by clear hwr hs2; omega)
    by_cases hbb : bud < 2 ∨ 10000 < bud
    · have HNB := Lib.hid (new_bad w vn bud (by omega))
      have hgo : ∀ (Q : Prop), (bud < 2 → Q) → (¬ bud < 2 → 10000 < bud → Q) → Q := fun Q q1 q2 => by
        by_cases e : bud < 2
        · exact q1 e
        · exact q2 e (by omega)
      clear hbb
      refine hgo _ (fun he => ?_) (fun he he2 => ?_)
      all_goals
        clear hgo
        go_enter Try.func3, Try.ntmps3
        go_wp2_with fail
        refine HNB.out.mono ?_
        rintro e w1 ⟨rfl, rfl⟩
        go_wp2_with fail
        refine (live_any _).mono ?_
        rintro e w2 ⟨rfl, hb⟩
        have HEND := Lib.hid hb
        clear hb
        go_wp2_with fail
        refine bodyPost_ret (v := .bool true) (by simp [results, Try.results3, go_sem]) rfl ⟨rfl, HEND.out⟩
    obtain ⟨bn, hbn⟩ : ∃ v : Nat, bud = (v : Int) := ⟨bud.toNat, by omega⟩
    subst hbn
    have hbn1 : ¬ (bn : Int) < 2 := by omega
    have hbn2 : ¬ (10000 : Int) < (bn : Int) := by omega
    have HNO : Hid (∀ L : Nat, L ≤ 2 + 93 * 30 → bn ≤ L + 3 * (p - 1) → bn ≤ 5000) := Lib.hid (fun L h1 h2 => by clear hwr hs2; omega)
    have HNEW : Hid (Calls Try.prog 9 #[.int .i64 (vn : Int), .int .i64 (bn : Int)] w (fun e w' => ∃ b, e = .returned (.tuple #[.pointer (some ⟨b, 0, none⟩), .int .i64 0]) ∧ StAt w.heap.size w' b vn bn [(vn, 0, 0), (vn, 1, 1)] ∧ Below w.heap.size w w')) := Lib.hid
      ((new_ok w vn bn ⟨by omega, by omega, by omega⟩).mono (by
        rintro e w' ⟨h1, b, rfl, h2⟩
        exact ⟨b, rfl, h2.at (by omega) (by omega) (by simp; omega), h1⟩))
    have HC1 := Lib.hid (rconst_tab · vn false (by omega))
    have HC2 := Lib.hid (rconst_tab · vn true (by omega))
    obtain ⟨i0, hi0, hz0⟩ := Option.map_eq_some_iff.1 infoMd
    simp only [Prod.mk.injEq] at hz0
    obtain ⟨hz0, hz1, hz3⟩ := hz0
    clear hbig hvw hbw0 hbb hp
    rw [HPP.out] at HC1 HC2
    go_enter Try.func3, Try.ntmps3
    go_wp2_with fail
    refine HNEW.out.mono ?_
    rintro e w1 ⟨b, rfl, hst1, hb1⟩
    have HB1 := Lib.hid hb1
    have HST1 := Lib.hid hst1
    clear hst1 hb1 HNEW
    go_wp2_with fail
    refine (HC1.out w1).mono ?_
    rintro e w2 ⟨t0, rfl, ht0, hb2⟩
    have HT0 := Lib.hid ht0
    have HB2 := Lib.hid (HB1.out.trans (hb2.mono HB1.out.size))
    have HST2 := Lib.hid (HST1.out.below hb2)
    clear ht0 hb2
    go_wp2_with fail
    refine (HC2.out w2).mono ?_
    rintro e w3 ⟨t1, rfl, ht1, hb3⟩
    obtain ⟨w4, hw4⟩ : ∃ W, w3.alloc (.cells #[.int .i64 0, .slice (some ⟨t0, 0, none⟩) p p, .int .i64 1, .slice (some ⟨t1, 0, none⟩) p p] 32) = W := ⟨_, rfl⟩
    have hb4 : Below w3.heap.size w3 w4 := by rw [← hw4]; exact below_new _ _
    have HST3 := Lib.hid (HST2.out.below hb3)
    have HST4 := Lib.hid (HST3.out.below hb4)
    have HB3 := Lib.hid (HB2.out.trans (hb3.mono HB2.out.size))
    have HB4 := Lib.hid (HB3.out.trans (hb4.mono HB3.out.size))
    have HMD4 : Hid (Mds w.heap.size w4 (.slice (some ⟨w3.heap.size, 0, none⟩) 2 2) vn [(vn, 0, 0), (vn, 1, 1)] [(0, t0), (1, t1)]) := Lib.hid
      (mds_two HST3.out.good (HT0.out.keeps (Keeps.of hb3)) ht1 HB3.out.size (by rw [HPP.out]; exact hw4))
    have HW4 := Lib.hid hw4
    clear ht1 hb3 hb4 hw4 HC1 HC2
    go_wp2_with fail
    rw [HW4.out]
    go_loopw [9, 10] (fun vl vi wr => ∃ (i : Nat) (S : List Nd) (l : List (Nat × Nat)), i ≤ m ∧ vi = .int .i64 (i : Int) ∧ Mds w.heap.size wr vl vn S l ∧ StAt w.heap.size wr b vn bn S ∧ (2 ≤ l.length ∧ l.length ≤ i + 2) ∧ S.length ≤ 2 + 93 * i ∧ Below w.heap.size w wr) (fun _ vi _ => m - intV vi)
    case atStart => exact ⟨0, _, _, Nat.zero_le _, rfl, HMD4.out, HST4.out, ⟨by simp, by simp⟩, by simp, HB4.out⟩
    case round =>
      obtain ⟨i, S, l, hi, rfl, hmd, hst, hln, hsl, hbw⟩ := hrel
      obtain ⟨A, c, hvl, hlc, hcm⟩ := hmd.form
      rw [hvl] at hmd
      have HMD := Lib.hid hmd
      have HST := Lib.hid hst
      have HBW := Lib.hid hbw
      have HG := Lib.hid hst.good
      have HLN := Lib.hid hln
      have hln2 : l.length ≤ 32 := by omega
      obtain ⟨n, hn⟩ : ∃ n, l.length = n := ⟨_, rfl⟩
      rw [hn] at hvl hlc HMD hln2 hln
      obtain ⟨hn2, hln⟩ := hln
      have HNN := Lib.hid hn
      have hsz := hbw.size
      have HL2 := Lib.hid hln
      clear hmd hst hbw hn
      subst hvl
      by_cases hin : i < m
      · obtain ⟨o, ho⟩ : ∃ o, l0[i]? = some o := ⟨_, List.getElem?_eq_getElem (by rw [HL0.out]; exact hin)⟩
        obtain ⟨A', c', e', -, -, hcells⟩ := HSO.out.below HBW.out
        obtain ⟨ok, g, og, eA, hglt, c0, c1, c2, c3, c4, c5⟩ := hcells i o ho
        have HOK := Lib.hid ok
        simp only [Value.slice.injEq] at e'
        obtain ⟨rfl, -, -⟩ := e'
        subst eA
        have HCL := Lib.hid (call_any w.heap.size wr b vn bn S HST.out hn1 hn5 (.slice A n c) l HMD.out (by rw [HNN.out]; omega) (by rw [HNN.out]; omega) o.a0 o.a1 o.a2 o.a3 o.a4 o.cb HOK.out.2.1 HOK.out.2.2.1 HOK.out.2.2.2.1 HOK.out.2.2.2.2)
        clear hcells ho ok
        go_wp2_with fail
        refine HCL.out.mono ?_
        rintro e w6 ⟨hb6, hk6, x, y, t, rfl, harm⟩
        rcases harm with ⟨rfl, rfl, harm, hst6⟩ | ⟨m', z, rfl, rfl, hst6, hlen6, hz6, hr6⟩
        · rw [HPP.out] at harm ⊢
          have h50 : ¬ (5000 : Int) < (bn : Int) := by
            have := HNO.out _ (Nat.le_trans hsl (Nat.add_le_add_left (Nat.mul_le_mul_left 93 (Nat.le_trans hi hm30)) 2)) harm
            omega
          have HMD6 := Lib.hid (HMD.out.keeps HG.out hk6 [])
          rw [List.append_nil] at HMD6
          have HST6 := Lib.hid hst6
          have HB6 := Lib.hid (HBW.out.trans hb6)
          clear harm hst6 hb6 hk6 HCL c0 c1 c2 c3 c4 c5
          go_wp2
          refine ⟨⟨i + 1, S, l, by omega, by go_num, HMD6.out, HST6.out, ⟨by rw [HNN.out]; exact hn2, by rw [HNN.out]; omega⟩, by omega, HB6.out⟩, by simp [intV]; omega⟩
        have hmd6 := HMD.out.keeps HG.out hk6 m'
        have HO6 := Lib.hid hmd6.row
        have HMD6 := Lib.hid hmd6
        have HST6 := Lib.hid hst6
        have HZ6 := Lib.hid hz6
        have HR6 := Lib.hid hr6
        have HB6 := Lib.hid (HBW.out.trans hb6)
        have HL6 : Hid ((S ++ m').length ≤ 2 + 93 * (i + 1)) := Lib.hid (by rw [HPP.out] at hlen6; exact HNX.out _ _ _ hsl hlen6)
        have hsz6 := HB6.out.size
        rw [HNN.out] at HO6
        rw [HPP.out]
        clear hb6 hk6 hst6 hlen6 hz6 hr6 hmd6 HCL c0 c1 c2 c3 c4 c5
        go_wp2_with (at_builtin; refine wpList_append_lies _ rfl (.tmp 90) (.tmp 94) 33 rfl w.heap.size 32 i0 _ 2 32 Try.underlying33 hi0 hz0 hz1 hz3 rfl (by decide) (.slice A n c) n _ rfl (HO6.out.alloc _) ⟨w6.heap.size, 0, none⟩ 1 1 [.int .i64 (z : Int), .slice (some ⟨t, 0, none⟩) p p] rfl rfl ?a2 ?b2 (by omega) ?c2 ?d2 ?e2 (w6.heap.size + 1) ?f2 ?_)
        case a2 => exact World.news_of_block (t := 32) (fr := (0, 0)) (heap_alloc_new _ _)
        case b2 => simp [Value.oneCell']
        case c2 => unfold maxLen; omega
        case d2 => omega
        case e2 => simp; omega
        case f2 => simp
        intro gg cap w7 hown7 hg7 hat7 hlt7
        have hbn := below_new w6 (.cells #[.int .i64 (z : Int), .slice (some ⟨t, 0, none⟩) p p] 32)
        have hmdA := HMD6.out.below HST6.out.good hbn
        have hE : Mds w.heap.size w7 (.slice (some ⟨gg, 0, none⟩) (n + 1) cap) vn (S ++ m') (l ++ [(z, t)]) ∧ StAt w.heap.size w7 b vn bn (S ++ m') ∧ Below w.heap.size w w7 :=
          ⟨hmdA.snoc (by rw [HNN.out]; unfold mdV; rw [HPP.out]; exact hown7) hg7 (fun g hg => own_type hmdA.row hg) HZ6.out (HR6.out.keeps (Keeps.of hbn)), (HST6.out.below hbn).grown hg7 (fun g hg => own_type hmdA.row hg), (HB6.out.trans (hbn.mono hsz6)).grown hg7 (by simp; omega) (fun g e => (HO6.out.lt g e).1)⟩
        have HE := Lib.hid hE
        have HSZ : Hid (Calls Try.prog 12 #[.pointer (some ⟨b, 0, none⟩)] w7 (fun e w' => e = .returned (.int .i64 ((S ++ m').length : Nat)) ∧ w' = w7)) := Lib.hid (psize_any w7 _ _ (st_pt hE.2.1))
        obtain ⟨N, hN⟩ : ∃ z, (S ++ m').length = z := ⟨_, rfl⟩
        have hNb : N ≤ bn := by rw [← hN]; obtain ⟨nv, pb, h⟩ := hE.2.1; exact h.hlen
        have hNz : z < N := by rw [← hN]; exact HZ6.out
        have hNl : N ≤ 2 + 93 * (i + 1) := by rw [← hN]; exact HL6.out
        rw [hN] at HSZ
        have HNN3 := Lib.hid hN
        have f1 : ¬ (z : Int) < 0 := by omega
        have f2 : ¬ (N : Int) ≤ (z : Int) := by omega
        have f3 : ¬ (bn : Int) < (N : Int) := by omega
        have HL7 : Hid (2 ≤ (l ++ [(z, t)]).length ∧ (l ++ [(z, t)]).length ≤ i + 1 + 2) := Lib.hid (by rw [List.length_append, HNN.out]; simp; omega)
        clear hown7 hg7 hat7 hlt7 hE hmdA hbn hN
        go_wp2_with fail
        refine HSZ.out.mono ?_
        rintro e w8 ⟨rfl, hw8⟩
        subst hw8
        go_wp2_with fail
        refine HSZ.out.mono ?_
        rintro e w9 ⟨rfl, hw9⟩
        subst hw9
        go_wp2
        refine ⟨⟨i + 1, S ++ m', l ++ [(z, t)], by omega, by go_num, HE.out.1, HE.out.2.1, HL7.out, HL6.out, HE.out.2.2⟩, by simp [intV]; omega⟩
      · obtain rfl : i = m := by omega
        have HAL := Lib.hid (all_any w.heap.size wr b vn bn S HST.out hn5 _ l HMD.out (by rw [HNN.out]; omega))
        go_wp2_with fail
        refine HAL.out.mono ?_
        rintro e w6 ⟨rfl, hb6⟩
        have HB6 := Lib.hid (HBW.out.trans (hb6.mono HBW.out.size))
        clear hb6 HAL
        go_wp2_with fail
        refine (live_any _).mono ?_
        rintro e w7 ⟨rfl, hb7⟩
        have HEND := Lib.hid (HB6.out.trans (hb7.mono HB6.out.size))
        clear hb7
        go_wp2_with fail
        refine bodyPost_ret (v := .bool true) (by simp [results, Try.results3, go_sem]) rfl ⟨rfl, HEND.out⟩
end Go.Proofs.Ytfohjlepknnleaa.bddMakes
