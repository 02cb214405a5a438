/- The walk of BddLaws. Conditions: as it says. -/
import Derived.Test.YtfohjlepknnleaaBdLg
namespace Go.Proofs.Ytfohjlepknnleaa.bddLaws
open Go.ChangeShapes Go.WideShapes Go.ChangeAt Go.RowKit Go.Proofs.Ytfohjlepknnleaa.Bd
set_option linter.unusedVariables false
set_option linter.unusedSimpArgs false

theorem iff_or (p q : Bool) : (if p = true then p else q) = (p || q) := by cases p <;> rfl
set_option maxRecDepth 100000 in
set_option maxHeartbeats 8000000 in
theorem walk (w : World) (vars : Int) (hvw : (Lit.int .i64 vars).wf = true) (sv : Value) (l0 : List Op6) (hso : OpsIn w sv l0) :
    Calls Try.prog 5 #[.int .i64 vars, sv] w (fun e w' => e = .returned (.bool true) ∧ Below w.heap.size w w') := by
  have HSO := Lib.hid hso
  obtain ⟨SA, sc, rfl, hs1, hs2, -⟩ := hso
  obtain ⟨m, hm⟩ : ∃ m, l0.length = m := ⟨_, rfl⟩
  rw [hm] at HSO hs1 ⊢
  unfold maxLen at hs2
  have HL0 := Lib.hid hm
  clear hm
  by_cases hbig : vars < 1 ∨ 5 < vars ∨ 30 < m
  · have hgo : ∀ (Q : Prop), (vars < 1 → Q) → (¬ vars < 1 → 5 < vars → Q) → (¬ vars < 1 → ¬ 5 < vars → (30 : Int) < (m : Int) → Q) → Q := fun Q q1 q2 q3 => by
      by_cases e : vars < 1
      · exact q1 e
      · by_cases e2 : 5 < vars
        · exact q2 e e2
        · exact q3 e e2 (by omega)
    clear hbig
    refine hgo _ (fun he => ?_) (fun he he2 => ?_) (fun he he2 he3 => ?_)
    all_goals
      clear hgo
      go_enter Try.func5, Try.ntmps5
      go_wp2_with fail
      refine (live_any _).mono ?_
      rintro e w1 ⟨rfl, hb⟩
      have HEND := Lib.hid hb
      clear hb
      go_wp2_with fail
      refine bodyPost_ret (v := .bool true) (by simp [results, Try.results5, go_sem]) rfl ⟨rfl, HEND.out⟩
  · obtain ⟨vn, hvn⟩ : ∃ v : Nat, vars = (v : Int) := ⟨vars.toNat, by omega⟩
    subst hvn
    have hv1 : ¬ (vn : Int) < 1 := by omega
    have hv5 : ¬ (5 : Int) < (vn : Int) := by omega
    have hm3 : ¬ (30 : Int) < (m : Int) := by omega
    have hn1 : 1 ≤ vn := by omega
    have hn5 : vn ≤ 5 := by omega
    have hm30 : m ≤ 30 := by omega
    obtain ⟨p, hp⟩ : ∃ p, 2 ^ vn = p := ⟨_, rfl⟩
    have hp32 : p ≤ 32 := by rw [← hp]; exact (show 2 ^ vn ≤ 2 ^ 5 from Nat.pow_le_pow_right (by omega) hn5)
    have hp1 : 1 ≤ p := by rw [← hp]; exact Nat.two_pow_pos _
    have hwr : wrap64 ((2 : Int) ^ vn) = (p : Int) := by
      have : ((2 : Int) ^ vn) = ((2 ^ vn : Nat) : Int) := by simp
      rw [this, hp]
      unfold wrap64; omega
    have HPP := Lib.hid hp
    have HNO : Hid (∀ L : Nat, L ≤ 2 + 93 * 30 → 10000 ≤ L + 3 * (p - 1) → False) := Lib.hid (fun L h1 h2 => by clear hwr hs2; omega)
    have HNX : Hid (∀ L L' i : Nat, L ≤ 2 + 93 * i → L' ≤ L + 3 * (p - 1) → L' ≤ 2 + 93 * (i + 1)) := Lib.hid (fun L L' i h1 h2 => by clear hwr hs2; omega)
    have HNEW := Lib.hid (new_law w vn hn5)
    have HC1 := Lib.hid (rconst_tab · vn false (by omega))
    have HC2 := Lib.hid (rconst_tab · vn true (by omega))
    obtain ⟨i0, hi0, hz0⟩ := Option.map_eq_some_iff.1 infoMd
    simp only [Prod.mk.injEq] at hz0
    obtain ⟨hz0, hz1, hz3⟩ := hz0
    clear hbig hvw hp
    rw [HPP.out] at HC1 HC2
    go_enter Try.func5, Try.ntmps5
    go_wp2_with fail
    refine HNEW.out.mono ?_
    rintro e w1 ⟨b, rfl, hst1, hb1⟩
    have HB1 := Lib.hid hb1
    have HST1 := Lib.hid hst1
    clear hst1 hb1 HNEW
    go_wp2_with fail
    refine (HC1.out w1).mono ?_
    rintro e w2 ⟨t0, rfl, ht0, hb2⟩
    have HT0 := Lib.hid ht0
    have HB2 := Lib.hid (HB1.out.trans (hb2.mono HB1.out.size))
    have HST2 := Lib.hid (HST1.out.below hb2)
    clear ht0 hb2
    go_wp2_with fail
    refine (HC2.out w2).mono ?_
    rintro e w3 ⟨t1, rfl, ht1, hb3⟩
    obtain ⟨w4, hw4⟩ : ∃ W, w3.alloc (.cells #[.int .i64 0, .slice (some ⟨t0, 0, none⟩) p p, .int .i64 1, .slice (some ⟨t1, 0, none⟩) p p] 32) = W := ⟨_, rfl⟩
    have hb4 : Below w3.heap.size w3 w4 := by rw [← hw4]; exact below_new _ _
    have HST3 := Lib.hid (HST2.out.below hb3)
    have HST4 := Lib.hid (HST3.out.below hb4)
    have HB3 := Lib.hid (HB2.out.trans (hb3.mono HB2.out.size))
    have HB4 := Lib.hid (HB3.out.trans (hb4.mono HB3.out.size))
    have HMD4 : Hid (Mds w.heap.size w4 (.slice (some ⟨w3.heap.size, 0, none⟩) 2 2) vn [(vn, 0, 0), (vn, 1, 1)] [(0, t0), (1, t1)]) := Lib.hid
      (mds_two HST3.out.good (HT0.out.keeps (Keeps.of hb3)) ht1 HB3.out.size (by rw [HPP.out]; exact hw4))
    have HW4 := Lib.hid hw4
    clear ht1 hb3 hb4 hw4 HC1 HC2
    go_wp2_with fail
    rw [HW4.out]
    go_loopw [7, 8] (fun vl vi wr => ∃ (i : Nat) (S : List Nd) (l : List (Nat × Nat)), i ≤ m ∧ vi = .int .i64 (i : Int) ∧ Mds w.heap.size wr vl vn S l ∧ StAt w.heap.size wr b vn 10000 S ∧ l.length = i + 2 ∧ S.length ≤ 2 + 93 * i ∧ Below w.heap.size w wr) (fun _ vi _ => m - intV vi)
    case atStart => exact ⟨0, _, _, Nat.zero_le _, rfl, HMD4.out, HST4.out, rfl, by simp, HB4.out⟩
    case round =>
      obtain ⟨i, S, l, hi, rfl, hmd, hst, hln, hsl, hbw⟩ := hrel
      obtain ⟨A, c, hvl, hlc, hcm⟩ := hmd.form
      rw [hvl] at hmd
      have HMD := Lib.hid hmd
      have HST := Lib.hid hst
      have HBW := Lib.hid hbw
      have HG := Lib.hid hst.good
      have HLN := Lib.hid hln
      have hln2 : l.length ≤ 32 := by omega
      obtain ⟨n, hn⟩ : ∃ n, l.length = n := ⟨_, rfl⟩
      rw [hn] at hvl hlc HMD hln2 hln
      have HNN := Lib.hid hn
      have hsz := hbw.size
      have HL2 := Lib.hid hln
      clear hmd hst hbw hn hln
      subst hvl
      by_cases hin : i < m
      · obtain ⟨o, ho⟩ : ∃ o, l0[i]? = some o := ⟨_, List.getElem?_eq_getElem (by rw [HL0.out]; exact hin)⟩
        obtain ⟨A', c', e', -, -, hcells⟩ := HSO.out.below HBW.out
        obtain ⟨ok, g, og, eA, hglt, c0, c1, c2, c3, c4, c5⟩ := hcells i o ho
        have HOK := Lib.hid ok
        simp only [Value.slice.injEq] at e'
        obtain ⟨rfl, -, -⟩ := e'
        subst eA
        have HCL := Lib.hid (call_any w.heap.size wr b vn 10000 S HST.out hn1 hn5 (.slice A n c) l HMD.out (by rw [HNN.out, HL2.out]; omega) (by rw [HNN.out, HL2.out]; omega) o.a0 o.a1 o.a2 o.a3 o.a4 o.cb HOK.out.2.1 HOK.out.2.2.1 HOK.out.2.2.2.1 HOK.out.2.2.2.2)
        clear hcells ho ok
        go_wp2_with fail
        refine HCL.out.mono ?_
        rintro e w6 ⟨hb6, hk6, x, y, t, rfl, harm⟩
        rcases harm with ⟨-, -, harm, -⟩ | ⟨m', z, rfl, rfl, hst6, hlen6, hz6, hr6⟩
        · rw [HPP.out] at harm
          exact (HNO.out _ (Nat.le_trans hsl (Nat.add_le_add_left (Nat.mul_le_mul_left 93 (Nat.le_trans hi hm30)) 2)) harm).elim
        have hmd6 := HMD.out.keeps HG.out hk6 m'
        have HO6 := Lib.hid hmd6.row
        have HMD6 := Lib.hid hmd6
        have HST6 := Lib.hid hst6
        have HZ6 := Lib.hid hz6
        have HR6 := Lib.hid hr6
        have HB6 := Lib.hid (HBW.out.trans hb6)
        have HL6 : Hid ((S ++ m').length ≤ 2 + 93 * (i + 1)) := Lib.hid (by rw [HPP.out] at hlen6; exact HNX.out _ _ _ hsl hlen6)
        have hsz6 := HB6.out.size
        rw [HNN.out] at HO6
        rw [HPP.out]
        clear hb6 hk6 hst6 hlen6 hz6 hr6 hmd6 HCL c0 c1 c2 c3 c4 c5
        go_wp2_with (at_builtin; refine wpList_append_lies _ rfl (.tmp 86) (.tmp 90) 33 rfl w.heap.size 32 i0 _ 2 32 Try.underlying33 hi0 hz0 hz1 hz3 rfl (by decide) (.slice A n c) n _ rfl (HO6.out.alloc _) ⟨w6.heap.size, 0, none⟩ 1 1 [.int .i64 (z : Int), .slice (some ⟨t, 0, none⟩) p p] rfl rfl ?a2 ?b2 (by omega) ?c2 ?d2 ?e2 (w6.heap.size + 1) ?f2 ?_)
        case a2 => exact World.news_of_block (t := 32) (fr := (0, 0)) (heap_alloc_new _ _)
        case b2 => simp [Value.oneCell']
        case c2 => unfold maxLen; omega
        case d2 => omega
        case e2 => simp; omega
        case f2 => simp
        intro gg cap w7 hown7 hg7 hat7 hlt7
        have hbn := below_new w6 (.cells #[.int .i64 (z : Int), .slice (some ⟨t, 0, none⟩) p p] 32)
        have hmdA := HMD6.out.below HST6.out.good hbn
        have hE : Mds w.heap.size w7 (.slice (some ⟨gg, 0, none⟩) (n + 1) cap) vn (S ++ m') (l ++ [(z, t)]) ∧ StAt w.heap.size w7 b vn 10000 (S ++ m') ∧ Below w.heap.size w w7 :=
          ⟨hmdA.snoc (by rw [HNN.out]; unfold mdV; rw [HPP.out]; exact hown7) hg7 (fun g hg => own_type hmdA.row hg) HZ6.out (HR6.out.keeps (Keeps.of hbn)), (HST6.out.below hbn).grown hg7 (fun g hg => own_type hmdA.row hg), (HB6.out.trans (hbn.mono hsz6)).grown hg7 (by simp; omega) (fun g e => (HO6.out.lt g e).1)⟩
        have HE := Lib.hid hE
        have HL7 : Hid ((l ++ [(z, t)]).length = i + 1 + 2) := Lib.hid (by rw [List.length_append, HNN.out, HL2.out]; rfl)
        clear hown7 hg7 hat7 hlt7 hE hmdA hbn
        go_wp2
        refine ⟨⟨i + 1, S ++ m', l ++ [(z, t)], by omega, by go_num, HE.out.1, HE.out.2.1, HL7.out, HL6.out, HE.out.2.2⟩, by simp [intV]; omega⟩
      · obtain rfl : i = m := by omega
        obtain ⟨k, hk⟩ : ∃ k, n = k + 1 := ⟨i + 1, by have := HL2.out; omega⟩
        subst hk
        obtain ⟨⟨f, tf⟩, hfl⟩ : ∃ q, l[k]? = some q := ⟨_, List.getElem?_eq_getElem (by rw [HNN.out]; omega)⟩
        obtain ⟨g, rfl, q0, q1⟩ := HMD.out.at hfl
        have HF := Lib.hid (HMD.out.each k f tf hfl).1
        obtain ⟨k2, hk2⟩ : ∃ q, (k + 1) / 2 = q := ⟨_, rfl⟩
        have hk2n : k2 < k + 1 := by omega
        obtain ⟨⟨f2, tf2⟩, hfl2⟩ : ∃ q, l[k2]? = some q := ⟨_, List.getElem?_eq_getElem (by rw [HNN.out]; exact hk2n)⟩
        obtain ⟨g', eg, q2, q3⟩ := HMD.out.at hfl2
        obtain rfl : g' = g := by injection eg with eg; injection eg with eg; exact eg.symm
        have HF2 := Lib.hid (HMD.out.each k2 f2 tf2 hfl2).1
        clear eg
        clear hfl hfl2
        have hsm : S.length ≤ 2792 := Nat.le_trans hsl (Nat.add_le_add_left (Nat.mul_le_mul_left 93 hm30) 2)
        have hp31 : 2 ^ vn - 1 ≤ 31 := by rw [HPP.out]; exact Nat.sub_le_sub_right hp32 1
        obtain ⟨P, hP⟩ : ∃ P, den S f = P := ⟨_, rfl⟩
        obtain ⟨Q, hQ⟩ : ∃ P, den S f2 = P := ⟨_, rfl⟩
        have Hf0 := Lib.hid (show FnAt S f P from ⟨HF.out, fun r => by rw [hP]⟩)
        have Hg0 := Lib.hid (show FnAt S f2 Q from ⟨HF2.out, fun r => by rw [hQ]⟩)
        have HK2 := Lib.hid hk2
        have HO1 := Lib.hid ((not_any w.heap.size wr b vn 10000 S HST.out f Hf0.out.1).mono fun e w' h => h.ok (by omega))
        clear hP hQ
        go_wp2_with fail
        refine HO1.out.mono ?_
        rintro e w1 ⟨m1, na, rfl, hst1, hl1, hy1, hb1, -⟩
        have hl1 : (S ++ m1).length ≤ 2823 := by have : (S ++ m1).length ≤ S.length + 1 * (2 ^ vn - 1) := (by simpa using hl1); omega
        have hf1 := Hf0.out.app HST.out.good m1
        have hg1 := Hg0.out.app HST.out.good m1
        have hy1 : FnAt (S ++ m1) na (fun r => !P r) := ⟨hy1.1, fun r => (hy1.2 r).trans (by simp [Hf0.out.2])⟩
        have hna1 := hy1
        obtain ⟨S1, hS1⟩ : ∃ N, S ++ m1 = N := ⟨_, rfl⟩
        rw [hS1] at hst1 hl1 hf1 hg1 hna1
        have HST1 := Lib.hid hst1
        have Hf1 := Lib.hid hf1
        have Hg1 := Lib.hid hg1
        have Hna1 := Lib.hid hna1
        have HB1 := Lib.hid (HBW.out.trans hb1)
        have HO2 := Lib.hid ((not_any w.heap.size w1 b vn 10000 S1 HST1.out f2 Hg1.out.1).mono fun e w' h => h.ok (by omega))
        clear hst1 hy1 hf1 hg1 hna1 hb1 hS1 HO1 q0 q1 q2 q3
        go_wp2_with fail
        refine HO2.out.mono ?_
        rintro e w2 ⟨m2, nb, rfl, hst2, hl2, hy2, hb2, -⟩
        have hl2 : (S1 ++ m2).length ≤ 2854 := by have : (S1 ++ m2).length ≤ S1.length + 1 * (2 ^ vn - 1) := (by simpa using hl2); omega
        have hf2 := Hf1.out.app HST1.out.good m2
        have hg2 := Hg1.out.app HST1.out.good m2
        have hna2 := Hna1.out.app HST1.out.good m2
        have hy2 : FnAt (S1 ++ m2) nb (fun r => !Q r) := ⟨hy2.1, fun r => (hy2.2 r).trans (by simp [Hg1.out.2])⟩
        have hnb2 := hy2
        obtain ⟨S2, hS2⟩ : ∃ N, S1 ++ m2 = N := ⟨_, rfl⟩
        rw [hS2] at hst2 hl2 hf2 hg2 hna2 hnb2
        have HST2 := Lib.hid hst2
        have Hf2 := Lib.hid hf2
        have Hg2 := Lib.hid hg2
        have Hna2 := Lib.hid hna2
        have Hnb2 := Lib.hid hnb2
        have HB2 := Lib.hid (HB1.out.trans hb2)
        have HO3 := Lib.hid ((not_any w.heap.size w2 b vn 10000 S2 HST2.out na Hna2.out.1).mono fun e w' h => h.ok (by omega))
        clear hst2 hy2 hf2 hg2 hna2 hnb2 hb2 hS2 HO2
        go_wp2_with fail
        refine HO3.out.mono ?_
        rintro e w3 ⟨m3, y3, rfl, hst3, hl3, hy3, hb3, -⟩
        have hl3 : (S2 ++ m3).length ≤ 2885 := by have : (S2 ++ m3).length ≤ S2.length + 1 * (2 ^ vn - 1) := (by simpa using hl3); omega
        have hf3 := Hf2.out.app HST2.out.good m3
        have hg3 := Hg2.out.app HST2.out.good m3
        have hna3 := Hna2.out.app HST2.out.good m3
        have hnb3 := Hnb2.out.app HST2.out.good m3
        have hy3 : FnAt (S2 ++ m3) y3 (fun r => P r) := ⟨hy3.1, fun r => (hy3.2 r).trans (by simp [Hna2.out.2])⟩
        obtain rfl : f = y3 := FnAt.one hst3.good hf3 hy3 (fun r => rfl)
        obtain ⟨S3, hS3⟩ : ∃ N, S2 ++ m3 = N := ⟨_, rfl⟩
        rw [hS3] at hst3 hl3 hf3 hg3 hna3 hnb3
        have HST3 := Lib.hid hst3
        have Hf3 := Lib.hid hf3
        have Hg3 := Lib.hid hg3
        have Hna3 := Lib.hid hna3
        have Hnb3 := Lib.hid hnb3
        have HB3 := Lib.hid (HB2.out.trans hb3)
        obtain ⟨u4, hu4⟩ : ∃ W, w3.alloc (.cells #[.int .i64 (f : Int), .int .i64 (f2 : Int)] 3) = W := ⟨_, rfl⟩
        have hbu4 : Below w3.heap.size w3 u4 := by rw [← hu4]; exact below_new _ _
        have HSU4 := Lib.hid (HST3.out.below hbu4)
        have HBU4 := Lib.hid (HB3.out.trans (hbu4.mono HB3.out.size))
        have HU4 := Lib.hid hu4
        have HO4 := Lib.hid ((and_any w.heap.size u4 b vn 10000 S3 HSU4.out _ [f, f2] (ints_two w3 f f2 u4 hu4) (by simp [Hf3.out.1, Hg3.out.1]) (by show 2 * (2 ^ vn - 1) ≤ 1000000; omega) (by simp)).mono fun e w' h => h.ok (by show S3.length + 2 * (2 ^ vn - 1) < 10000; omega))
        clear hu4 hbu4
        clear hst3 hy3 hf3 hg3 hna3 hnb3 hb3 hS3 HO3
        go_wp2_with fail
        rw [HU4.out]
        refine HO4.out.mono ?_
        rintro e w4 ⟨m4, bo, rfl, hst4, hl4, hy4, hb4, -⟩
        have hl4 : (S3 ++ m4).length ≤ 2947 := by have : (S3 ++ m4).length ≤ S3.length + 2 * (2 ^ vn - 1) := (by exact hl4); omega
        have hf4 := Hf3.out.app HSU4.out.good m4
        have hg4 := Hg3.out.app HSU4.out.good m4
        have hna4 := Hna3.out.app HSU4.out.good m4
        have hnb4 := Hnb3.out.app HSU4.out.good m4
        have hy4 : FnAt (S3 ++ m4) bo (fun r => P r && Q r) := ⟨hy4.1, fun r => (hy4.2 r).trans (by simp [Hf3.out.2, Hg3.out.2])⟩
        have hbo4 := hy4
        obtain ⟨S4, hS4⟩ : ∃ N, S3 ++ m4 = N := ⟨_, rfl⟩
        rw [hS4] at hst4 hl4 hf4 hg4 hna4 hnb4 hbo4
        have HST4 := Lib.hid hst4
        have Hf4 := Lib.hid hf4
        have Hg4 := Lib.hid hg4
        have Hna4 := Lib.hid hna4
        have Hnb4 := Lib.hid hnb4
        have Hbo4 := Lib.hid hbo4
        have HB4 := Lib.hid (HBU4.out.trans hb4)
        obtain ⟨u5, hu5⟩ : ∃ W, w4.alloc (.cells #[.int .i64 (na : Int), .int .i64 (nb : Int)] 3) = W := ⟨_, rfl⟩
        have hbu5 : Below w4.heap.size w4 u5 := by rw [← hu5]; exact below_new _ _
        have HSU5 := Lib.hid (HST4.out.below hbu5)
        have HBU5 := Lib.hid (HB4.out.trans (hbu5.mono HB4.out.size))
        have HU5 := Lib.hid hu5
        have HO5 := Lib.hid ((or_any w.heap.size u5 b vn 10000 S4 HSU5.out _ [na, nb] (ints_two w4 na nb u5 hu5) (by simp [Hna4.out.1, Hnb4.out.1]) (by show 2 * (2 ^ vn - 1) ≤ 1000000; omega) (by simp)).mono fun e w' h => h.ok (by show S4.length + 2 * (2 ^ vn - 1) < 10000; omega))
        clear hu5 hbu5
        clear hst4 hy4 hf4 hg4 hna4 hnb4 hbo4 hb4 hS4 HO4
        go_wp2_with fail
        rw [HU5.out]
        refine HO5.out.mono ?_
        rintro e w5 ⟨m5, ei, rfl, hst5, hl5, hy5, hb5, -⟩
        have hl5 : (S4 ++ m5).length ≤ 3009 := by have : (S4 ++ m5).length ≤ S4.length + 2 * (2 ^ vn - 1) := (by exact hl5); omega
        have hf5 := Hf4.out.app HSU5.out.good m5
        have hg5 := Hg4.out.app HSU5.out.good m5
        have hna5 := Hna4.out.app HSU5.out.good m5
        have hnb5 := Hnb4.out.app HSU5.out.good m5
        have hbo5 := Hbo4.out.app HSU5.out.good m5
        have hy5 : FnAt (S4 ++ m5) ei (fun r => !P r || !Q r) := ⟨hy5.1, fun r => (hy5.2 r).trans (by simp [Hna4.out.2, Hnb4.out.2])⟩
        have hei5 := hy5
        obtain ⟨S5, hS5⟩ : ∃ N, S4 ++ m5 = N := ⟨_, rfl⟩
        rw [hS5] at hst5 hl5 hf5 hg5 hna5 hnb5 hbo5 hei5
        have HST5 := Lib.hid hst5
        have Hf5 := Lib.hid hf5
        have Hg5 := Lib.hid hg5
        have Hna5 := Lib.hid hna5
        have Hnb5 := Lib.hid hnb5
        have Hbo5 := Lib.hid hbo5
        have Hei5 := Lib.hid hei5
        have HB5 := Lib.hid (HBU5.out.trans hb5)
        have HO6 := Lib.hid ((not_any w.heap.size w5 b vn 10000 S5 HST5.out ei Hei5.out.1).mono fun e w' h => h.ok (by omega))
        clear hst5 hy5 hf5 hg5 hna5 hnb5 hbo5 hei5 hb5 hS5 HO5
        go_wp2_with fail
        refine HO6.out.mono ?_
        rintro e w6 ⟨m6, y6, rfl, hst6, hl6, hy6, hb6, -⟩
        have hl6 : (S5 ++ m6).length ≤ 3040 := by have : (S5 ++ m6).length ≤ S5.length + 1 * (2 ^ vn - 1) := (by simpa using hl6); omega
        have hf6 := Hf5.out.app HST5.out.good m6
        have hg6 := Hg5.out.app HST5.out.good m6
        have hna6 := Hna5.out.app HST5.out.good m6
        have hnb6 := Hnb5.out.app HST5.out.good m6
        have hbo6 := Hbo5.out.app HST5.out.good m6
        have hei6 := Hei5.out.app HST5.out.good m6
        have hy6 : FnAt (S5 ++ m6) y6 (fun r => P r && Q r) := ⟨hy6.1, fun r => (hy6.2 r).trans (by simp [Hei5.out.2])⟩
        obtain rfl : bo = y6 := FnAt.one hst6.good hbo6 hy6 (fun r => rfl)
        obtain ⟨S6, hS6⟩ : ∃ N, S5 ++ m6 = N := ⟨_, rfl⟩
        rw [hS6] at hst6 hl6 hf6 hg6 hna6 hnb6 hbo6 hei6
        have HST6 := Lib.hid hst6
        have Hf6 := Lib.hid hf6
        have Hg6 := Lib.hid hg6
        have Hna6 := Lib.hid hna6
        have Hnb6 := Lib.hid hnb6
        have Hbo6 := Lib.hid hbo6
        have Hei6 := Lib.hid hei6
        have HB6 := Lib.hid (HB5.out.trans hb6)
        obtain ⟨u7, hu7⟩ : ∃ W, w6.alloc (.cells #[.int .i64 (f : Int)] 3) = W := ⟨_, rfl⟩
        have hbu7 : Below w6.heap.size w6 u7 := by rw [← hu7]; exact below_new _ _
        have HSU7 := Lib.hid (HST6.out.below hbu7)
        have HBU7 := Lib.hid (HB6.out.trans (hbu7.mono HB6.out.size))
        have HU7 := Lib.hid hu7
        have HO7 := Lib.hid ((and_any w.heap.size u7 b vn 10000 S6 HSU7.out _ [f] (ints_one w6 (f : Int) u7 hu7) (by simp [Hf6.out.1]) (by show 1 * (2 ^ vn - 1) ≤ 1000000; omega) (by simp)).mono fun e w' h => h.ok (by show S6.length + 1 * (2 ^ vn - 1) < 10000; omega))
        clear hu7 hbu7
        clear hst6 hy6 hf6 hg6 hna6 hnb6 hbo6 hei6 hb6 hS6 HO6
        go_wp2_with fail
        rw [HU7.out]
        refine HO7.out.mono ?_
        rintro e w7 ⟨m7, y7, rfl, hst7, hl7, hy7, hb7, -⟩
        have hl7 : (S6 ++ m7).length ≤ 3071 := by have : (S6 ++ m7).length ≤ S6.length + 1 * (2 ^ vn - 1) := (by exact hl7); omega
        have hf7 := Hf6.out.app HSU7.out.good m7
        have hg7 := Hg6.out.app HSU7.out.good m7
        have hbo7 := Hbo6.out.app HSU7.out.good m7
        have hy7 : FnAt (S6 ++ m7) y7 (fun r => P r) := ⟨hy7.1, fun r => (hy7.2 r).trans (by simp [Hf6.out.2])⟩
        obtain rfl : f = y7 := FnAt.one hst7.good hf7 hy7 (fun r => rfl)
        obtain ⟨S7, hS7⟩ : ∃ N, S6 ++ m7 = N := ⟨_, rfl⟩
        rw [hS7] at hst7 hl7 hf7 hg7 hbo7
        have HST7 := Lib.hid hst7
        have Hf7 := Lib.hid hf7
        have Hg7 := Lib.hid hg7
        have Hbo7 := Lib.hid hbo7
        have HB7 := Lib.hid (HBU7.out.trans hb7)
        have HO8 := Lib.hid ((ite_any w.heap.size w7 b vn 10000 S7 HST7.out f f f2 Hf7.out.1 Hf7.out.1 Hg7.out.1).mono fun e w' h => h.ok (by omega))
        clear hst7 hy7 hf7 hg7 hbo7 hb7 hS7 HO7
        go_wp2_with fail
        refine HO8.out.mono ?_
        rintro e w8 ⟨m8, it, rfl, hst8, hl8, hy8, hb8, -⟩
        have hl8 : (S7 ++ m8).length ≤ 3102 := by have : (S7 ++ m8).length ≤ S7.length + 1 * (2 ^ vn - 1) := (by simpa using hl8); omega
        have hf8 := Hf7.out.app HST7.out.good m8
        have hg8 := Hg7.out.app HST7.out.good m8
        have hbo8 := Hbo7.out.app HST7.out.good m8
        have hy8 : FnAt (S7 ++ m8) it (fun r => P r || Q r) := ⟨hy8.1, fun r => (hy8.2 r).trans (by simp [Hf7.out.2, Hg7.out.2, iff_or])⟩
        have hit8 := hy8
        obtain ⟨S8, hS8⟩ : ∃ N, S7 ++ m8 = N := ⟨_, rfl⟩
        rw [hS8] at hst8 hl8 hf8 hg8 hbo8 hit8
        have HST8 := Lib.hid hst8
        have Hf8 := Lib.hid hf8
        have Hg8 := Lib.hid hg8
        have Hbo8 := Lib.hid hbo8
        have Hit8 := Lib.hid hit8
        have HB8 := Lib.hid (HB7.out.trans hb8)
        obtain ⟨u9, hu9⟩ : ∃ W, w8.alloc (.cells #[.int .i64 (f : Int), .int .i64 (f2 : Int)] 3) = W := ⟨_, rfl⟩
        have hbu9 : Below w8.heap.size w8 u9 := by rw [← hu9]; exact below_new _ _
        have HSU9 := Lib.hid (HST8.out.below hbu9)
        have HBU9 := Lib.hid (HB8.out.trans (hbu9.mono HB8.out.size))
        have HU9 := Lib.hid hu9
        have HO9 := Lib.hid ((or_any w.heap.size u9 b vn 10000 S8 HSU9.out _ [f, f2] (ints_two w8 f f2 u9 hu9) (by simp [Hf8.out.1, Hg8.out.1]) (by show 2 * (2 ^ vn - 1) ≤ 1000000; omega) (by simp)).mono fun e w' h => h.ok (by show S8.length + 2 * (2 ^ vn - 1) < 10000; omega))
        clear hu9 hbu9
        clear hst8 hy8 hf8 hg8 hbo8 hit8 hb8 hS8 HO8
        go_wp2_with fail
        rw [HU9.out]
        refine HO9.out.mono ?_
        rintro e w9 ⟨m9, y9, rfl, hst9, hl9, hy9, hb9, -⟩
        have hl9 : (S8 ++ m9).length ≤ 3164 := by have : (S8 ++ m9).length ≤ S8.length + 2 * (2 ^ vn - 1) := (by exact hl9); omega
        have hf9 := Hf8.out.app HSU9.out.good m9
        have hg9 := Hg8.out.app HSU9.out.good m9
        have hbo9 := Hbo8.out.app HSU9.out.good m9
        have hit9 := Hit8.out.app HSU9.out.good m9
        have hy9 : FnAt (S8 ++ m9) y9 (fun r => P r || Q r) := ⟨hy9.1, fun r => (hy9.2 r).trans (by simp [Hf8.out.2, Hg8.out.2])⟩
        obtain rfl : it = y9 := FnAt.one hst9.good hit9 hy9 (fun r => rfl)
        obtain ⟨S9, hS9⟩ : ∃ N, S8 ++ m9 = N := ⟨_, rfl⟩
        rw [hS9] at hst9 hl9 hf9 hg9 hbo9 hit9
        have HST9 := Lib.hid hst9
        have Hf9 := Lib.hid hf9
        have Hg9 := Lib.hid hg9
        have Hbo9 := Lib.hid hbo9
        have Hit9 := Lib.hid hit9
        have HB9 := Lib.hid (HBU9.out.trans hb9)
        have HO10 := Lib.hid ((or_any w.heap.size w9 b vn 10000 S9 HST9.out _ [] (ints_nil w9) (by simp) (by simp) (by simp)).mono fun e w' h => h.ok (by show S9.length + 0 * (2 ^ vn - 1) < 10000; omega))
        clear hst9 hy9 hf9 hg9 hbo9 hit9 hb9 hS9 HO9
        go_wp2_with fail
        refine HO10.out.mono ?_
        rintro e w10 ⟨m10, y10, rfl, hst10, hl10, hy10, hb10, -⟩
        have hl10 : (S9 ++ m10).length ≤ 3164 := by have : (S9 ++ m10).length ≤ S9.length + 0 * (2 ^ vn - 1) := (by exact hl10); omega
        have hy10 : FnAt (S9 ++ m10) y10 (fun r => false) := ⟨hy10.1, fun r => (hy10.2 r).trans (by simp)⟩
        obtain rfl : 0 = y10 := FnAt.one hst10.good (fn_no hst10.good) hy10 (fun r => rfl)
        obtain ⟨S10, hS10⟩ : ∃ N, S9 ++ m10 = N := ⟨_, rfl⟩
        rw [hS10] at hst10 hl10 
        have HST10 := Lib.hid hst10
        have HB10 := Lib.hid (HB9.out.trans hb10)
        have HO11 := Lib.hid ((and_any w.heap.size w10 b vn 10000 S10 HST10.out _ [] (ints_nil w10) (by simp) (by simp) (by simp)).mono fun e w' h => h.ok (by show S10.length + 0 * (2 ^ vn - 1) < 10000; omega))
        clear hst10 hy10  hb10 hS10 HO10
        go_wp2_with fail
        refine HO11.out.mono ?_
        rintro e w11 ⟨m11, y11, rfl, hst11, hl11, hy11, hb11, -⟩
        have hl11 : (S10 ++ m11).length ≤ 3164 := by have : (S10 ++ m11).length ≤ S10.length + 0 * (2 ^ vn - 1) := (by exact hl11); omega
        have hy11 : FnAt (S10 ++ m11) y11 (fun r => true) := ⟨hy11.1, fun r => (hy11.2 r).trans (by simp)⟩
        obtain rfl : 1 = y11 := FnAt.one hst11.good (fn_yes hst11.good) hy11 (fun r => rfl)
        obtain ⟨S11, hS11⟩ : ∃ N, S10 ++ m11 = N := ⟨_, rfl⟩
        rw [hS11] at hst11 hl11 
        have HST11 := Lib.hid hst11
        have HB11 := Lib.hid (HB10.out.trans hb11)
        have HBL := Lib.hid HB11.out
        clear hst11 hy11  hb11 hS11 HO11
        go_wp2_with fail
        refine (live_any _).mono ?_
        rintro e wZ ⟨rfl, hbZ⟩
        have HEND := Lib.hid (HBL.out.trans (hbZ.mono HBL.out.size))
        clear hbZ
        go_wp2_with fail
        refine bodyPost_ret (v := .bool true) (by simp [results, Try.results5, go_sem]) rfl ⟨rfl, HEND.out⟩
end Go.Proofs.Ytfohjlepknnleaa.bddLaws
