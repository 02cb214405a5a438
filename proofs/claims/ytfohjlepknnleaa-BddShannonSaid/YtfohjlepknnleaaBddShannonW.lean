/- The walk of BddShannon. Conditions: as it says. -/
import Derived.Test.YtfohjlepknnleaaBdLg
namespace Go.Proofs.Ytfohjlepknnleaa.bddShannon
open Go.ChangeShapes Go.WideShapes Go.ChangeAt Go.RowKit Go.Proofs.Ytfohjlepknnleaa.Bd
set_option linter.unusedVariables false
set_option linter.unusedSimpArgs false

theorem pick_self (P : (Nat → Bool) → Bool) (r : Nat → Bool) (i : Nat) : (if r i = true then P (upd r i true) else P (upd r i false)) = P r := by
  have hu := upd_self r i
  cases c : r i with
  | true => rw [c] at hu; rw [if_pos rfl, hu]
  | false => rw [c] at hu; rw [if_neg (by simp), hu]
set_option maxRecDepth 100000 in
set_option maxHeartbeats 8000000 in
theorem walk (w : World) (vars : Int) (hvw : (Lit.int .i64 vars).wf = true) (sv : Value) (l0 : List Op6) (hso : OpsIn w sv l0) (iv : Int) (hiw : (Lit.int .i64 iv).wf = true) :
    Calls Try.prog 6 #[.int .i64 vars, sv, .int .i64 iv] w (fun e w' => e = .returned (.bool true) ∧ Below w.heap.size w w') := by
  have HSO := Lib.hid hso
  obtain ⟨SA, sc, rfl, hs1, hs2, -⟩ := hso
  obtain ⟨m, hm⟩ : ∃ m, l0.length = m := ⟨_, rfl⟩
  rw [hm] at HSO hs1 ⊢
  unfold maxLen at hs2
  have HL0 := Lib.hid hm
  clear hm
  by_cases hbig : vars < 1 ∨ 5 < vars ∨ 30 < m ∨ iv < 0 ∨ vars ≤ iv
  · have hgo : ∀ (Q : Prop), (vars < 1 → Q) → (¬ vars < 1 → 5 < vars → Q) → (¬ vars < 1 → ¬ 5 < vars → (30 : Int) < (m : Int) → Q) → (¬ vars < 1 → ¬ 5 < vars → ¬ (30 : Int) < (m : Int) → iv < 0 → Q) → (¬ vars < 1 → ¬ 5 < vars → ¬ (30 : Int) < (m : Int) → ¬ iv < 0 → vars ≤ iv → Q) → Q := fun Q q1 q2 q3 q4 q5 => by
      by_cases e : vars < 1
      · exact q1 e
      · by_cases e2 : 5 < vars
        · exact q2 e e2
        · by_cases e3 : (30 : Int) < (m : Int)
          · exact q3 e e2 e3
          · by_cases e4 : iv < 0
            · exact q4 e e2 e3 e4
            · exact q5 e e2 e3 e4 (by omega)
    clear hbig
    refine hgo _ (fun he => ?_) (fun he he2 => ?_) (fun he he2 he3 => ?_) (fun he he2 he3 he4 => ?_) (fun he he2 he3 he4 he5 => ?_)
    all_goals
      clear hgo
      go_enter Try.func6, Try.ntmps6
      go_wp2_with fail
      refine (live_any _).mono ?_
      rintro e w1 ⟨rfl, hb⟩
      have HEND := Lib.hid hb
      clear hb
      go_wp2_with fail
      refine bodyPost_ret (v := .bool true) (by simp [results, Try.results6, go_sem]) rfl ⟨rfl, HEND.out⟩
  · obtain ⟨vn, hvn⟩ : ∃ v : Nat, vars = (v : Int) := ⟨vars.toNat, by omega⟩
    subst hvn
    obtain ⟨v0, hv0⟩ : ∃ v : Nat, iv = (v : Int) := ⟨iv.toNat, by omega⟩
    subst hv0
    have hi0 : ¬ (v0 : Int) < 0 := by omega
    have hi1 : ¬ (vn : Int) ≤ (v0 : Int) := by omega
    have hiv : v0 < vn := by omega
    have hv1 : ¬ (vn : Int) < 1 := by omega
    have hv5 : ¬ (5 : Int) < (vn : Int) := by omega
    have hm3 : ¬ (30 : Int) < (m : Int) := by omega
    have hn1 : 1 ≤ vn := by omega
    have hn5 : vn ≤ 5 := by omega
    have hm30 : m ≤ 30 := by omega
    obtain ⟨p, hp⟩ : ∃ p, 2 ^ vn = p := ⟨_, rfl⟩
    have hp32 : p ≤ 32 := by rw [← hp]; exact (show 2 ^ vn ≤ 2 ^ 5 from Nat.pow_le_pow_right (by omega) hn5)
    have hp1 : 1 ≤ p := by rw [← hp]; exact Nat.two_pow_pos _
    have hwr : wrap64 ((2 : Int) ^ vn) = (p : Int) := by
      have : ((2 : Int) ^ vn) = ((2 ^ vn : Nat) : Int) := by simp
      rw [this, hp]
      unfold wrap64; omega
    have HPP := Lib.hid hp
    have HNO : Hid (∀ L : Nat, L ≤ 2 + 93 * 30 → 10000 ≤ L + 3 * (p - 1) → False) := Lib.hid (fun L h1 h2 => by clear hwr hs2; omega)
    have HNX : Hid (∀ L L' i : Nat, L ≤ 2 + 93 * i → L' ≤ L + 3 * (p - 1) → L' ≤ 2 + 93 * (i + 1)) := Lib.hid (fun L L' i h1 h2 => by clear hwr hs2; omega)
    have HNEW := Lib.hid (new_law w vn hn5)
    have HC1 := Lib.hid (rconst_tab · vn false (by omega))
    have HC2 := Lib.hid (rconst_tab · vn true (by omega))
    obtain ⟨i0, hif, hz0⟩ := Option.map_eq_some_iff.1 infoMd
    simp only [Prod.mk.injEq] at hz0
    obtain ⟨hz0, hz1, hz3⟩ := hz0
    clear hbig hvw hp
    rw [HPP.out] at HC1 HC2
    go_enter Try.func6, Try.ntmps6
    go_wp2_with fail
    refine HNEW.out.mono ?_
    rintro e w1 ⟨b, rfl, hst1, hb1⟩
    have HB1 := Lib.hid hb1
    have HST1 := Lib.hid hst1
    clear hst1 hb1 HNEW
    go_wp2_with fail
    refine (HC1.out w1).mono ?_
    rintro e w2 ⟨t0, rfl, ht0, hb2⟩
    have HT0 := Lib.hid ht0
    have HB2 := Lib.hid (HB1.out.trans (hb2.mono HB1.out.size))
    have HST2 := Lib.hid (HST1.out.below hb2)
    clear ht0 hb2
    go_wp2_with fail
    refine (HC2.out w2).mono ?_
    rintro e w3 ⟨t1, rfl, ht1, hb3⟩
    obtain ⟨w4, hw4⟩ : ∃ W, w3.alloc (.cells #[.int .i64 0, .slice (some ⟨t0, 0, none⟩) p p, .int .i64 1, .slice (some ⟨t1, 0, none⟩) p p] 32) = W := ⟨_, rfl⟩
    have hb4 : Below w3.heap.size w3 w4 := by rw [← hw4]; exact below_new _ _
    have HST3 := Lib.hid (HST2.out.below hb3)
    have HST4 := Lib.hid (HST3.out.below hb4)
    have HB3 := Lib.hid (HB2.out.trans (hb3.mono HB2.out.size))
    have HB4 := Lib.hid (HB3.out.trans (hb4.mono HB3.out.size))
    have HMD4 : Hid (Mds w.heap.size w4 (.slice (some ⟨w3.heap.size, 0, none⟩) 2 2) vn [(vn, 0, 0), (vn, 1, 1)] [(0, t0), (1, t1)]) := Lib.hid
      (mds_two HST3.out.good (HT0.out.keeps (Keeps.of hb3)) ht1 HB3.out.size (by rw [HPP.out]; exact hw4))
    have HW4 := Lib.hid hw4
    clear ht1 hb3 hb4 hw4 HC1 HC2
    go_wp2_with fail
    rw [HW4.out]
    go_loopw [9, 10] (fun vl vi wr => ∃ (i : Nat) (S : List Nd) (l : List (Nat × Nat)), i ≤ m ∧ vi = .int .i64 (i : Int) ∧ Mds w.heap.size wr vl vn S l ∧ StAt w.heap.size wr b vn 10000 S ∧ l.length = i + 2 ∧ S.length ≤ 2 + 93 * i ∧ Below w.heap.size w wr) (fun _ vi _ => m - intV vi)
    case atStart => exact ⟨0, _, _, Nat.zero_le _, rfl, HMD4.out, HST4.out, rfl, by simp, HB4.out⟩
    case round =>
      obtain ⟨i, S, l, hi, rfl, hmd, hst, hln, hsl, hbw⟩ := hrel
      obtain ⟨A, c, hvl, hlc, hcm⟩ := hmd.form
      rw [hvl] at hmd
      have HMD := Lib.hid hmd
      have HST := Lib.hid hst
      have HBW := Lib.hid hbw
      have HG := Lib.hid hst.good
      have HLN := Lib.hid hln
      have hln2 : l.length ≤ 32 := by omega
      obtain ⟨n, hn⟩ : ∃ n, l.length = n := ⟨_, rfl⟩
      rw [hn] at hvl hlc HMD hln2 hln
      have HNN := Lib.hid hn
      have hsz := hbw.size
      have HL2 := Lib.hid hln
      clear hmd hst hbw hn hln
      subst hvl
      by_cases hin : i < m
      · obtain ⟨o, ho⟩ : ∃ o, l0[i]? = some o := ⟨_, List.getElem?_eq_getElem (by rw [HL0.out]; exact hin)⟩
        obtain ⟨A', c', e', -, -, hcells⟩ := HSO.out.below HBW.out
        obtain ⟨ok, g, og, eA, hglt, c0, c1, c2, c3, c4, c5⟩ := hcells i o ho
        have HOK := Lib.hid ok
        simp only [Value.slice.injEq] at e'
        obtain ⟨rfl, -, -⟩ := e'
        subst eA
        have HCL := Lib.hid (call_any w.heap.size wr b vn 10000 S HST.out hn1 hn5 (.slice A n c) l HMD.out (by rw [HNN.out, HL2.out]; omega) (by rw [HNN.out, HL2.out]; omega) o.a0 o.a1 o.a2 o.a3 o.a4 o.cb HOK.out.2.1 HOK.out.2.2.1 HOK.out.2.2.2.1 HOK.out.2.2.2.2)
        clear hcells ho ok
        go_wp2_with fail
        refine HCL.out.mono ?_
        rintro e w6 ⟨hb6, hk6, x, y, t, rfl, harm⟩
        rcases harm with ⟨-, -, harm, -⟩ | ⟨m', z, rfl, rfl, hst6, hlen6, hz6, hr6⟩
        · rw [HPP.out] at harm
          exact (HNO.out _ (Nat.le_trans hsl (Nat.add_le_add_left (Nat.mul_le_mul_left 93 (Nat.le_trans hi hm30)) 2)) harm).elim
        have hmd6 := HMD.out.keeps HG.out hk6 m'
        have HO6 := Lib.hid hmd6.row
        have HMD6 := Lib.hid hmd6
        have HST6 := Lib.hid hst6
        have HZ6 := Lib.hid hz6
        have HR6 := Lib.hid hr6
        have HB6 := Lib.hid (HBW.out.trans hb6)
        have HL6 : Hid ((S ++ m').length ≤ 2 + 93 * (i + 1)) := Lib.hid (by rw [HPP.out] at hlen6; exact HNX.out _ _ _ hsl hlen6)
        have hsz6 := HB6.out.size
        rw [HNN.out] at HO6
        rw [HPP.out]
        clear hb6 hk6 hst6 hlen6 hz6 hr6 hmd6 HCL c0 c1 c2 c3 c4 c5
        go_wp2_with (at_builtin; refine wpList_append_lies _ rfl (.tmp 90) (.tmp 94) 33 rfl w.heap.size 32 i0 _ 2 32 Try.underlying33 hif hz0 hz1 hz3 rfl (by decide) (.slice A n c) n _ rfl (HO6.out.alloc _) ⟨w6.heap.size, 0, none⟩ 1 1 [.int .i64 (z : Int), .slice (some ⟨t, 0, none⟩) p p] rfl rfl ?a2 ?b2 (by omega) ?c2 ?d2 ?e2 (w6.heap.size + 1) ?f2 ?_)
        case a2 => exact World.news_of_block (t := 32) (fr := (0, 0)) (heap_alloc_new _ _)
        case b2 => simp [Value.oneCell']
        case c2 => unfold maxLen; omega
        case d2 => omega
        case e2 => simp; omega
        case f2 => simp
        intro gg cap w7 hown7 hg7 hat7 hlt7
        have hbn := below_new w6 (.cells #[.int .i64 (z : Int), .slice (some ⟨t, 0, none⟩) p p] 32)
        have hmdA := HMD6.out.below HST6.out.good hbn
        have hE : Mds w.heap.size w7 (.slice (some ⟨gg, 0, none⟩) (n + 1) cap) vn (S ++ m') (l ++ [(z, t)]) ∧ StAt w.heap.size w7 b vn 10000 (S ++ m') ∧ Below w.heap.size w w7 :=
          ⟨hmdA.snoc (by rw [HNN.out]; unfold mdV; rw [HPP.out]; exact hown7) hg7 (fun g hg => own_type hmdA.row hg) HZ6.out (HR6.out.keeps (Keeps.of hbn)), (HST6.out.below hbn).grown hg7 (fun g hg => own_type hmdA.row hg), (HB6.out.trans (hbn.mono hsz6)).grown hg7 (by simp; omega) (fun g e => (HO6.out.lt g e).1)⟩
        have HE := Lib.hid hE
        have HL7 : Hid ((l ++ [(z, t)]).length = i + 1 + 2) := Lib.hid (by rw [List.length_append, HNN.out, HL2.out]; rfl)
        clear hown7 hg7 hat7 hlt7 hE hmdA hbn
        go_wp2
        refine ⟨⟨i + 1, S ++ m', l ++ [(z, t)], by omega, by go_num, HE.out.1, HE.out.2.1, HL7.out, HL6.out, HE.out.2.2⟩, by simp [intV]; omega⟩
      · obtain rfl : i = m := by omega
        obtain ⟨k, hk⟩ : ∃ k, n = k + 1 := ⟨i + 1, by have := HL2.out; omega⟩
        subst hk
        obtain ⟨⟨f, tf⟩, hfl⟩ : ∃ q, l[k]? = some q := ⟨_, List.getElem?_eq_getElem (by rw [HNN.out]; omega)⟩
        obtain ⟨g, rfl, q0, q1⟩ := HMD.out.at hfl
        have HF := Lib.hid (HMD.out.each k f tf hfl).1
        clear hfl
        have hsm : S.length ≤ 2792 := Nat.le_trans hsl (Nat.add_le_add_left (Nat.mul_le_mul_left 93 hm30) 2)
        have hp31 : 2 ^ vn - 1 ≤ 31 := by rw [HPP.out]; exact Nat.sub_le_sub_right hp32 1
        obtain ⟨P, hP⟩ : ∃ P, den S f = P := ⟨_, rfl⟩
        have HFN := Lib.hid (show FnAt S f P from ⟨HF.out, fun r => by rw [hP]⟩)
        have HCNT : Hid (cntD vn S f = cnt vn 0 P zeros) := Lib.hid (by rw [← hP]; rfl)
        have HVA := Lib.hid ((var_any w.heap.size wr b vn 10000 S HST.out v0 hiv).mono fun e w' h => h.ok (by omega))
        clear hP
        go_wp2_with fail
        refine HVA.out.mono ?_
        rintro e w6 ⟨m6, v, rfl, hst6, hl6, hv6, hb6, -⟩
        have hf6 := HFN.out.app HG.out m6
        obtain ⟨S6, hS6⟩ : ∃ N, S ++ m6 = N := ⟨_, rfl⟩
        rw [hS6] at hst6 hl6 hv6 hf6
        have hl6 : S6.length ≤ 2793 := by omega
        have HST6 := Lib.hid hst6
        have HV6 := Lib.hid hv6
        have HF6 := Lib.hid hf6
        have HB6 := Lib.hid (HBW.out.trans hb6)
        have HRA := Lib.hid ((restrict_any w.heap.size w6 b vn 10000 S6 hst6 f v0 true hf6.1 hiv).mono fun e w' h => h.ok (by omega))
        clear hst6 hv6 hf6 hb6 hS6 HVA q0 q1
        go_wp2_with fail
        refine HRA.out.mono ?_
        rintro e w7 ⟨m7, hg, rfl, hst7, hl7, hh7, hb7, -⟩
        have hf7 := HF6.out.app HST6.out.good m7
        have hv7 := HV6.out.app HST6.out.good m7
        have hh7 : FnAt (S6 ++ m7) hg (fun r => P (upd r v0 true)) := ⟨hh7.1, fun r => (hh7.2 r).trans (HF6.out.2 _)⟩
        obtain ⟨S7, hS7⟩ : ∃ N, S6 ++ m7 = N := ⟨_, rfl⟩
        rw [hS7] at hst7 hl7 hv7 hf7 hh7
        have hl7 : S7.length ≤ 2824 := by omega
        have HST7 := Lib.hid hst7
        have HV7 := Lib.hid hv7
        have HF7 := Lib.hid hf7
        have HH7 := Lib.hid hh7
        have HB7 := Lib.hid (HB6.out.trans hb7)
        have HRB := Lib.hid ((restrict_any w.heap.size w7 b vn 10000 S7 hst7 f v0 false hf7.1 hiv).mono fun e w' h => h.ok (by omega))
        clear hst7 hv7 hf7 hh7 hb7 hS7 HRA
        go_wp2_with fail
        refine HRB.out.mono ?_
        rintro e w8 ⟨m8, lo, rfl, hst8, hl8, ho8, hb8, -⟩
        have hf8 := HF7.out.app HST7.out.good m8
        have hv8 := HV7.out.app HST7.out.good m8
        have hh8 := HH7.out.app HST7.out.good m8
        have ho8 : FnAt (S7 ++ m8) lo (fun r => P (upd r v0 false)) := ⟨ho8.1, fun r => (ho8.2 r).trans (HF7.out.2 _)⟩
        obtain ⟨S8, hS8⟩ : ∃ N, S7 ++ m8 = N := ⟨_, rfl⟩
        rw [hS8] at hst8 hl8 hv8 hf8 hh8 ho8
        have hl8 : S8.length ≤ 2855 := by omega
        have HST8 := Lib.hid hst8
        have HF8 := Lib.hid hf8
        have HH8 := Lib.hid hh8
        have HV8 := Lib.hid hv8
        have HO8 := Lib.hid ho8
        have HB8 := Lib.hid (HB7.out.trans hb8)
        have HIT := Lib.hid ((ite_any w.heap.size w8 b vn 10000 S8 hst8 v hg lo hv8.1 hh8.1 ho8.1).mono fun e w' h => h.ok (by omega))
        clear hst8 hv8 hf8 hh8 ho8 hb8 hS8 HRB
        go_wp2_with fail
        refine HIT.out.mono ?_
        rintro e w9 ⟨m9, wh, rfl, hst9, hl9, hw9, hb9, -⟩
        have hf9 := HF8.out.app HST8.out.good m9
        have hh9 := HH8.out.app HST8.out.good m9
        have ho9 := HO8.out.app HST8.out.good m9
        obtain rfl : wh = f := FnAt.one hst9.good ⟨hw9.1, fun r => hw9.2 r⟩ hf9 (fun r => by
          rw [HV8.out.2, HH8.out.2, HO8.out.2]
          exact pick_self P r v0)
        obtain ⟨S9, hS9⟩ : ∃ N, S8 ++ m9 = N := ⟨_, rfl⟩
        rw [hS9] at hst9 hl9 hf9 hh9 ho9
        have hl9 : S9.length ≤ 2886 := by omega
        have HST9 := Lib.hid hst9
        have HF9 := Lib.hid hf9
        have HH9 := Lib.hid hh9
        have HO9 := Lib.hid ho9
        have HB9 := Lib.hid (HB8.out.trans hb9)
        have HRC := Lib.hid ((restrict_any w.heap.size w9 b vn 10000 S9 hst9 hg v0 false hh9.1 hiv).mono fun e w' h => h.ok (by omega))
        clear hst9 hw9 hf9 hh9 ho9 hb9 hS9 HIT
        go_wp2_with fail
        refine HRC.out.mono ?_
        rintro e wA ⟨mA, ag, rfl, hstA, hlA, hgA, hbA, -⟩
        have hfA := HF9.out.app HST9.out.good mA
        have hhA := HH9.out.app HST9.out.good mA
        have hoA := HO9.out.app HST9.out.good mA
        obtain rfl : ag = hg := FnAt.one hstA.good hgA hhA (fun r => by
          show den S9 hg (upd r v0 false) = _
          rw [HH9.out.2]
          show P (upd (upd r v0 false) v0 true) = P (upd r v0 true)
          congr 1; funext x; unfold upd; by_cases c : x = v0
          · rw [if_pos c, if_pos c]
          · rw [if_neg c, if_neg c, if_neg c])
        obtain ⟨N, hN⟩ : ∃ N, S9 ++ mA = N := ⟨_, rfl⟩
        rw [hN] at hstA hfA hhA hoA
        have hsh : 2 * cntD vn N wh = cntD vn N ag + cntD vn N lo := by
          have e1 : den N wh = P := funext hfA.2
          have e2 : den N ag = (fun r => P (upd r v0 true)) := funext hhA.2
          have e3 : den N lo = (fun r => P (upd r v0 false)) := funext hoA.2
          unfold cntD
          rw [e1, e2, e3, Nat.add_comm]
          exact cnt_shannon hiv P
        have hbd : ∀ x, cntD vn N x ≤ 32 := fun x => by
          have := cnt_not vn 0 (den N x) (fun r => !(den N x r)) (fun r => rfl) zeros
          rw [HPP.out] at this
          unfold cntD; omega
        obtain ⟨ca, hca⟩ : ∃ x, cntD vn N wh = x := ⟨_, rfl⟩
        obtain ⟨cb, hcb⟩ : ∃ x, cntD vn N ag = x := ⟨_, rfl⟩
        obtain ⟨cc, hcc⟩ : ∃ x, cntD vn N lo = x := ⟨_, rfl⟩
        have ba := hbd wh
        have bb := hbd ag
        have bc := hbd lo
        rw [hca] at ba
        rw [hcb] at bb
        rw [hcc] at bc
        have HBA := Lib.hid (HB9.out.trans hbA)
        have HSTA := Lib.hid hstA
        have HLB := Lib.hid hhA.1
        have HLC := Lib.hid hoA.1
        have HCA := Lib.hid (count_any w.heap.size wA b vn 10000 N hstA wh hfA.1)
        rw [hca] at HCA
        have hsum : 2 * (ca : Int) = (cb : Int) + (cc : Int) := by rw [hca, hcb, hcc] at hsh; omega
        have HCB := Lib.hid hcb
        have HCC := Lib.hid hcc
        clear hstA hgA hfA hhA hoA hbA hN hsh hbd hca hcb hcc HRC
        go_wp2_with fail
        refine HCA.out.mono ?_
        rintro e wB ⟨rfl, hbB⟩
        have HSTB := Lib.hid (HSTA.out.below hbB)
        have HBB := Lib.hid (HBA.out.trans (hbB.mono HBA.out.size))
        have HK := Lib.hid (count_any w.heap.size wB b vn 10000 N HSTB.out ag HLB.out)
        rw [HCB.out] at HK
        clear hbB HCA
        go_wp2_with fail
        refine HK.out.mono ?_
        rintro e wC ⟨rfl, hbC⟩
        have HSTC := Lib.hid (HSTB.out.below hbC)
        have HBC := Lib.hid (HBB.out.trans (hbC.mono HBB.out.size))
        have HK2 := Lib.hid (count_any w.heap.size wC b vn 10000 N HSTC.out lo HLC.out)
        rw [HCC.out] at HK2
        clear hbC HK
        go_wp2_with fail
        refine HK2.out.mono ?_
        rintro e wD ⟨rfl, hbD⟩
        have HBD := Lib.hid (HBC.out.trans (hbD.mono HBC.out.size))
        clear hbD HK2
        go_wp2_with fail
        refine (live_any _).mono ?_
        rintro e wE ⟨rfl, hbE⟩
        have HEND := Lib.hid (HBD.out.trans (hbE.mono HBD.out.size))
        clear hbE
        go_wp2_with fail
        refine bodyPost_ret (v := .bool true) (by simp [results, Try.results6, go_sem]) rfl ⟨rfl, HEND.out⟩
end Go.Proofs.Ytfohjlepknnleaa.bddShannon
