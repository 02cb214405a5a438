/- A lean reader of expressions: the levels of operators, more. Conditions: the contracts at less fuel. -/
import Derived.Test.YtobkcdkffcenbaaGreatDoorSa08
import Derived.Test.YtobkcdkffcenbaaGreatDoorCb19
import Derived.Maps.AppendAt
set_option linter.unusedVariables false
set_option linter.unusedSimpArgs false
namespace Go.Proofs.YtobkcdkffcenbaaGreatDoor.Lr
open Go.ChangeShapes Go.WideShapes Go.ChangeAt Go.RowKit
open Go.Proofs.YtobkcdkffcenbaaGreatDoor.Tr (str ret_bool ret_int Bytes Nd Nodes joinM roomM own_block own_below own_ne ndsOf)
variable {L : List Lx.Tok} {lv : Value}
set_option maxRecDepth 100000 in
set_option maxHeartbeats 1600000 in
theorem since_ok {f : Nat} (hs : ∀ g, g ≤ f → C1 109 L lv g .or) : C1 104 L lv (f + 1) .since := by
  intro o i z k b w hrun hq
  simp only [run] at hrun
  obtain ⟨x, j, h1, h2⟩ := bnd_some hrun
  have HS := Lib.hid (hs f (Nat.le_refl _) o i x j b w h1 hq)
  have HR := Lib.hid hs
  have H2 := Lib.hid h2
  clear hrun h1 hs hq h2
  go_enter Tryz.func104, Tryz.ntmps104
  go_wp2_with fail
  refine HS.out.mono ?_
  rintro e w1 ⟨v1, rfl, n1, q1, m1⟩
  obtain ⟨A1, c1, rfl, y1, -⟩ := n1.form
  unfold maxLen at y1
  have N1 := Lib.hid n1
  have Q1 := Lib.hid q1
  have M1 := Lib.hid m1
  clear n1 q1 m1
  go_wp2
  go_loopg [3] f (fun g s3 wr => ∃ (x' : List Nd) (v' : Value) (j' : Nat), g ≤ f ∧ v' = s3 ∧ NdW wr v' x' ∧ Rq wr b L lv j' o ∧ Mv w wr b ∧ run L g .sinceL [x'] o j' = some ([z], k))
  case atStart => exact ⟨x, _, j, Nat.le_refl _, rfl, N1.out, Q1.out, M1.out, H2.out⟩
  case round =>
    obtain ⟨x', v', j', hgf, rfl, n', q', m', hr⟩ := hrel
    cases gk with
    | zero => simp [run] at hr
    | succ gk =>
    simp only [run, List.headD_cons] at hr
    obtain ⟨A0, c0, rfl, y0, -⟩ := n'.form
    unfold maxLen at y0
    have N0 := Lib.hid n'
    have Q0 := Lib.hid q'
    have M0 := Lib.hid m'
    clear n' q' m'
    cases hB : isAt L j' [115, 105, 110, 99, 101] with
    | true =>
      rw [hB, if_pos rfl] at hr
      obtain ⟨y, k2, h3, h4⟩ := bnd_some hr
      obtain ⟨y2, k3, h5, h6⟩ := bnd_some h4
      obtain ⟨h7, rfl⟩ := ok1_some h5
      have H3 := Lib.hid h3
      have H6 := Lib.hid h6
      have H7 := Lib.hid h7
      have HT2 := Lib.hid (take_ok (s := [115, 105, 110, 99, 101]) rfl hB Q0.out)
      go_wp2_with fail
      refine HT2.out.mono ?_
      rintro e w2 ⟨rfl, q2, m2⟩
      have Q2 := Lib.hid q2
      have M2 := Lib.hid (M0.out.trans m2)
      have N2 := Lib.hid (N0.out.mv Q0.out.blk m2)
      clear q2 m2 hr h3 h4 h5 h6 h7 hB HT2
      have HC3 := Lib.hid (HR.out gk (by omega) o (j' + 1) y k2 b w2 H3.out Q2.out)
      go_wp2_with fail
      refine HC3.out.mono ?_
      rintro e w3 ⟨v3, rfl, n3, q3, m3⟩
      obtain ⟨A3, c3, rfl, y3, -⟩ := n3.form
      unfold maxLen at y3
      have N3 := Lib.hid n3
      have Q3 := Lib.hid q3
      have M3 := Lib.hid (M2.out.trans m3)
      have N23 := Lib.hid (N2.out.mv Q2.out.blk m3)
      clear n3 q3 m3
      have HJ := Lib.hid (join_ok (op := 20) Q3.out N23.out N3.out H7.out)
      go_wp2_with fail
      refine HJ.out.mono ?_
      rintro e w4 ⟨v4, rfl, n4, b4⟩
      obtain ⟨A4, c4, rfl, -⟩ := n4.form
      have N4 := Lib.hid n4
      have Q4 := Lib.hid (Q3.out.below b4)
      have M4 := Lib.hid (M3.out.trans (Mv.of b4))
      clear n4 b4
      go_wp2
      go_roundg gk
      case measure => omega
      case rel => exact ⟨y2, _, k2, by omega, rfl, N4.out, Q4.out, M4.out, H6.out⟩
    | false =>
      rw [hB, if_neg (by simp)] at hr
      injection hr with hr
      simp only [Prod.mk.injEq, List.cons.injEq, and_true] at hr
      obtain ⟨rfl, rfl⟩ := hr
      have HT2 := Lib.hid (take_ok (s := [115, 105, 110, 99, 101]) rfl hB Q0.out)
      go_wp2_with fail
      refine HT2.out.mono ?_
      rintro e w2 ⟨rfl, q2, m2⟩
      have Q2 := Lib.hid q2
      have M2 := Lib.hid (M0.out.trans m2)
      have N2 := Lib.hid (N0.out.mv Q0.out.blk m2)
      clear q2 m2 hB HT2
      go_wp2
      go_ret
      exact ⟨_, rfl, N2.out, Q2.out, M2.out⟩
set_option maxRecDepth 100000 in
set_option maxHeartbeats 1600000 in
theorem or_ok {f : Nat} (hs : C1 110 L lv f .and) : C1 109 L lv (f + 1) .or := by
  intro o i z k b w hrun hq
  simp only [run] at hrun
  obtain ⟨x, j, h1, h2⟩ := bnd_some hrun
  have HS := Lib.hid (hs o i x j b w h1 hq)
  clear hrun h1 hs hq
  cases hB : isAt L j [111, 114] with
  | true => rw [hB] at h2; simp at h2
  | false =>
  cases hC : isAt L j [120, 111, 114] with
  | true => rw [hB, hC] at h2; simp at h2
  | false =>
  rw [hB, hC] at h2
  simp only [Bool.or_self, Bool.false_eq_true, if_false, Option.some.injEq, Prod.mk.injEq, List.cons.injEq, and_true] at h2
  obtain ⟨rfl, rfl⟩ := h2
  go_enter Tryz.func109, Tryz.ntmps109
  go_wp2_with fail
  refine HS.out.mono ?_
  rintro e w1 ⟨v1, rfl, n1, q1, m1⟩
  obtain ⟨A1, c1, rfl, y1, -⟩ := n1.form
  unfold maxLen at y1
  have N1 := Lib.hid n1
  have Q1 := Lib.hid q1
  have M1 := Lib.hid m1
  clear n1 q1 m1
  go_wp2
  go_loopw [3] (fun s3 wr => s3 = .slice A1 x.length c1 ∧ wr = w1) (fun _ _ => 0)
  case atStart => exact ⟨rfl, rfl⟩
  case round =>
    obtain ⟨rfl, rfl⟩ := hrel
    have HI2 := Lib.hid (is_ok (s := [111, 114]) rfl hB Q1.out)
    go_wp2_with fail
    refine HI2.out.mono ?_
    rintro e w2 ⟨rfl, b2⟩
    have Q2 := Lib.hid (Q1.out.below b2)
    have N2 := Lib.hid (N1.out.below b2)
    have M2 := Lib.hid (M1.out.trans (Mv.of b2))
    clear b2 HI2
    have HI3 := Lib.hid (is_ok (s := [120, 111, 114]) rfl hC Q2.out)
    go_wp2_with fail
    refine HI3.out.mono ?_
    rintro e w3 ⟨rfl, b3⟩
    have Q3 := Lib.hid (Q2.out.below b3)
    have N3 := Lib.hid (N2.out.below b3)
    have M3 := Lib.hid (M2.out.trans (Mv.of b3))
    clear b3 HI3
    go_wp2
    go_ret
    exact ⟨_, rfl, N3.out, Q3.out, M3.out⟩
set_option maxRecDepth 100000 in
set_option maxHeartbeats 1600000 in
theorem and_ok {f : Nat} (hs : ∀ g, g ≤ f → C1 111 L lv g .cmp) : C1 110 L lv (f + 1) .and := by
  intro o i z k b w hrun hq
  simp only [run] at hrun
  obtain ⟨x, j, h1, h2⟩ := bnd_some hrun
  have HS := Lib.hid (hs f (Nat.le_refl _) o i x j b w h1 hq)
  have HR := Lib.hid hs
  have H2 := Lib.hid h2
  clear hrun h1 hs hq h2
  go_enter Tryz.func110, Tryz.ntmps110
  go_wp2_with fail
  refine HS.out.mono ?_
  rintro e w1 ⟨v1, rfl, n1, q1, m1⟩
  obtain ⟨A1, c1, rfl, y1, -⟩ := n1.form
  unfold maxLen at y1
  have N1 := Lib.hid n1
  have Q1 := Lib.hid q1
  have M1 := Lib.hid m1
  clear n1 q1 m1
  go_wp2
  go_loopg [3] f (fun g s3 wr => ∃ (x' : List Nd) (v' : Value) (j' : Nat), g ≤ f ∧ v' = s3 ∧ NdW wr v' x' ∧ Rq wr b L lv j' o ∧ Mv w wr b ∧ run L g .andL [x'] o j' = some ([z], k))
  case atStart => exact ⟨x, _, j, Nat.le_refl _, rfl, N1.out, Q1.out, M1.out, H2.out⟩
  case round =>
    obtain ⟨x', v', j', hgf, rfl, n', q', m', hr⟩ := hrel
    cases gk with
    | zero => simp [run] at hr
    | succ gk =>
    simp only [run, List.headD_cons] at hr
    obtain ⟨A0, c0, rfl, y0, -⟩ := n'.form
    unfold maxLen at y0
    have N0 := Lib.hid n'
    have Q0 := Lib.hid q'
    have M0 := Lib.hid m'
    clear n' q' m'
    cases hB : isAt L j' [97, 110, 100] with
    | true =>
      rw [hB, if_pos rfl] at hr
      obtain ⟨y, k2, h3, h4⟩ := bnd_some hr
      obtain ⟨y2, k3, h5, h6⟩ := bnd_some h4
      obtain ⟨h7, rfl⟩ := ok1_some h5
      have H3 := Lib.hid h3
      have H6 := Lib.hid h6
      have H7 := Lib.hid h7
      have HT2 := Lib.hid (take_ok (s := [97, 110, 100]) rfl hB Q0.out)
      go_wp2_with fail
      refine HT2.out.mono ?_
      rintro e w2 ⟨rfl, q2, m2⟩
      have Q2 := Lib.hid q2
      have M2 := Lib.hid (M0.out.trans m2)
      have N2 := Lib.hid (N0.out.mv Q0.out.blk m2)
      clear q2 m2 hr h3 h4 h5 h6 h7 hB HT2
      have HC3 := Lib.hid (HR.out gk (by omega) o (j' + 1) y k2 b w2 H3.out Q2.out)
      go_wp2_with fail
      refine HC3.out.mono ?_
      rintro e w3 ⟨v3, rfl, n3, q3, m3⟩
      obtain ⟨A3, c3, rfl, y3, -⟩ := n3.form
      unfold maxLen at y3
      have N3 := Lib.hid n3
      have Q3 := Lib.hid q3
      have M3 := Lib.hid (M2.out.trans m3)
      have N23 := Lib.hid (N2.out.mv Q2.out.blk m3)
      clear n3 q3 m3
      have HJ := Lib.hid (join_ok (op := 6) Q3.out N23.out N3.out H7.out)
      go_wp2_with fail
      refine HJ.out.mono ?_
      rintro e w4 ⟨v4, rfl, n4, b4⟩
      obtain ⟨A4, c4, rfl, -⟩ := n4.form
      have N4 := Lib.hid n4
      have Q4 := Lib.hid (Q3.out.below b4)
      have M4 := Lib.hid (M3.out.trans (Mv.of b4))
      clear n4 b4
      go_wp2
      go_roundg gk
      case measure => omega
      case rel => exact ⟨y2, _, k2, by omega, rfl, N4.out, Q4.out, M4.out, H6.out⟩
    | false =>
      rw [hB, if_neg (by simp)] at hr
      injection hr with hr
      simp only [Prod.mk.injEq, List.cons.injEq, and_true] at hr
      obtain ⟨rfl, rfl⟩ := hr
      have HT2 := Lib.hid (take_ok (s := [97, 110, 100]) rfl hB Q0.out)
      go_wp2_with fail
      refine HT2.out.mono ?_
      rintro e w2 ⟨rfl, q2, m2⟩
      have Q2 := Lib.hid q2
      have M2 := Lib.hid (M0.out.trans m2)
      have N2 := Lib.hid (N0.out.mv Q0.out.blk m2)
      clear q2 m2 hB HT2
      go_wp2
      go_ret
      exact ⟨_, rfl, N2.out, Q2.out, M2.out⟩
set_option maxRecDepth 100000 in
set_option maxHeartbeats 1600000 in
theorem cmp_ok {f : Nat} (hs : C1 112 L lv f .sum) : C1 111 L lv (f + 1) .cmp := by
  intro o i z k b w hrun hq
  simp only [run] at hrun
  obtain ⟨x, j, h1, h2⟩ := bnd_some hrun
  have HS := Lib.hid (hs o i x j b w h1 hq)
  have HR := Lib.hid hs
  clear hrun h1 hs hq
  go_enter Tryz.func111, Tryz.ntmps111
  go_wp2_with fail
  refine HS.out.mono ?_
  rintro e w1 ⟨v1, rfl, n1, q1, m1⟩
  obtain ⟨A1, c1, rfl, y1, -⟩ := n1.form
  unfold maxLen at y1
  have N1 := Lib.hid n1
  have Q1 := Lib.hid q1
  have M1 := Lib.hid m1
  clear n1 q1 m1
  cases hB0 : isAt L j [61] with
  | true =>
    simp [hB0] at h2
  | false =>
  cases hB1 : isAt L j [60, 62] with
  | true =>
    simp [hB0, hB1] at h2
  | false =>
  cases hB2 : isAt L j [60] with
  | true =>
    simp only [hB0, hB1, hB2, Bool.or_self, Bool.false_eq_true, if_false, if_true] at h2
    obtain ⟨y, k2, h3, h4⟩ := bnd_some h2
    obtain ⟨h7, rfl⟩ := ok1_some h4
    have H3 := Lib.hid h3
    have H7 := Lib.hid h7
    clear h2 h3 h4 h7
    have HT2 := Lib.hid (take_ok (s := [61]) rfl hB0 Q1.out)
    go_wp2_with fail
    refine HT2.out.mono ?_
    rintro e w2 ⟨rfl, q2, m2⟩
    have Qa2 := Lib.hid q2
    have Na2 := Lib.hid (N1.out.mv Q1.out.blk m2)
    have Ma2 := Lib.hid (M1.out.trans m2)
    clear q2 m2 HT2
    have HT3 := Lib.hid (take_ok (s := [60, 62]) rfl hB1 Qa2.out)
    go_wp2_with fail
    refine HT3.out.mono ?_
    rintro e w3 ⟨rfl, q3, m3⟩
    have Qa3 := Lib.hid q3
    have Na3 := Lib.hid (Na2.out.mv Qa2.out.blk m3)
    have Ma3 := Lib.hid (Ma2.out.trans m3)
    clear q3 m3 HT3
    have HT4 := Lib.hid (take_ok (s := [60]) rfl hB2 Qa3.out)
    go_wp2_with fail
    refine HT4.out.mono ?_
    rintro e w4 ⟨rfl, q4, m4⟩
    have Qa4 := Lib.hid q4
    have Na4 := Lib.hid (Na3.out.mv Qa3.out.blk m4)
    have Ma4 := Lib.hid (Ma3.out.trans m4)
    clear q4 m4 HT4
    have HC3 := Lib.hid (HR.out o (j + 1) y k2 b _ H3.out Qa4.out)
    go_wp2_with fail
    refine HC3.out.mono ?_
    rintro e w30 ⟨v30, rfl, n30, q30, m30⟩
    obtain ⟨A30, c30, rfl, y30, -⟩ := n30.form
    unfold maxLen at y30
    have N30 := Lib.hid n30
    have Q30 := Lib.hid q30
    have M30 := Lib.hid (Ma4.out.trans m30)
    have N23 := Lib.hid (Na4.out.mv Qa4.out.blk m30)
    clear n30 q30 m30
    have HJ := Lib.hid (join_ok (op := 12) Q30.out N23.out N30.out H7.out)
    go_wp2_with fail
    refine HJ.out.mono ?_
    rintro e w4 ⟨v4, rfl, n4, b4⟩
    obtain ⟨A4, c4, rfl, -⟩ := n4.form
    have N4 := Lib.hid n4
    have Q4 := Lib.hid (Q30.out.below b4)
    have M4 := Lib.hid (M30.out.trans (Mv.of b4))
    clear n4 b4
    go_wp2
    go_ret
    exact ⟨_, rfl, N4.out, Q4.out, M4.out⟩
  | false =>
  cases hB3 : isAt L j [60, 61] with
  | true =>
    simp [hB0, hB1, hB2, hB3] at h2
  | false =>
  cases hB4 : isAt L j [62] with
  | true =>
    simp only [hB0, hB1, hB2, hB3, hB4, Bool.or_self, Bool.false_eq_true, if_false, if_true] at h2
    obtain ⟨y, k2, h3, h4⟩ := bnd_some h2
    obtain ⟨h7, rfl⟩ := ok1_some h4
    have H3 := Lib.hid h3
    have H7 := Lib.hid h7
    clear h2 h3 h4 h7
    have HT2 := Lib.hid (take_ok (s := [61]) rfl hB0 Q1.out)
    go_wp2_with fail
    refine HT2.out.mono ?_
    rintro e w2 ⟨rfl, q2, m2⟩
    have Qa2 := Lib.hid q2
    have Na2 := Lib.hid (N1.out.mv Q1.out.blk m2)
    have Ma2 := Lib.hid (M1.out.trans m2)
    clear q2 m2 HT2
    have HT3 := Lib.hid (take_ok (s := [60, 62]) rfl hB1 Qa2.out)
    go_wp2_with fail
    refine HT3.out.mono ?_
    rintro e w3 ⟨rfl, q3, m3⟩
    have Qa3 := Lib.hid q3
    have Na3 := Lib.hid (Na2.out.mv Qa2.out.blk m3)
    have Ma3 := Lib.hid (Ma2.out.trans m3)
    clear q3 m3 HT3
    have HT4 := Lib.hid (take_ok (s := [60]) rfl hB2 Qa3.out)
    go_wp2_with fail
    refine HT4.out.mono ?_
    rintro e w4 ⟨rfl, q4, m4⟩
    have Qa4 := Lib.hid q4
    have Na4 := Lib.hid (Na3.out.mv Qa3.out.blk m4)
    have Ma4 := Lib.hid (Ma3.out.trans m4)
    clear q4 m4 HT4
    have HT5 := Lib.hid (take_ok (s := [60, 61]) rfl hB3 Qa4.out)
    go_wp2_with fail
    refine HT5.out.mono ?_
    rintro e w5 ⟨rfl, q5, m5⟩
    have Qa5 := Lib.hid q5
    have Na5 := Lib.hid (Na4.out.mv Qa4.out.blk m5)
    have Ma5 := Lib.hid (Ma4.out.trans m5)
    clear q5 m5 HT5
    have HT6 := Lib.hid (take_ok (s := [62]) rfl hB4 Qa5.out)
    go_wp2_with fail
    refine HT6.out.mono ?_
    rintro e w6 ⟨rfl, q6, m6⟩
    have Qa6 := Lib.hid q6
    have Na6 := Lib.hid (Na5.out.mv Qa5.out.blk m6)
    have Ma6 := Lib.hid (Ma5.out.trans m6)
    clear q6 m6 HT6
    have HC3 := Lib.hid (HR.out o (j + 1) y k2 b _ H3.out Qa6.out)
    go_wp2_with fail
    refine HC3.out.mono ?_
    rintro e w30 ⟨v30, rfl, n30, q30, m30⟩
    obtain ⟨A30, c30, rfl, y30, -⟩ := n30.form
    unfold maxLen at y30
    have N30 := Lib.hid n30
    have Q30 := Lib.hid q30
    have M30 := Lib.hid (Ma6.out.trans m30)
    have N23 := Lib.hid (Na6.out.mv Qa6.out.blk m30)
    clear n30 q30 m30
    have HJ := Lib.hid (join_ok (op := 12) Q30.out N30.out N23.out H7.out)
    go_wp2_with fail
    refine HJ.out.mono ?_
    rintro e w4 ⟨v4, rfl, n4, b4⟩
    obtain ⟨A4, c4, rfl, -⟩ := n4.form
    have N4 := Lib.hid n4
    have Q4 := Lib.hid (Q30.out.below b4)
    have M4 := Lib.hid (M30.out.trans (Mv.of b4))
    clear n4 b4
    go_wp2
    go_ret
    exact ⟨_, rfl, N4.out, Q4.out, M4.out⟩
  | false =>
  cases hB5 : isAt L j [62, 61] with
  | true =>
    simp [hB0, hB1, hB2, hB3, hB4, hB5] at h2
  | false =>
  simp only [hB0, hB1, hB2, hB3, hB4, hB5, Bool.or_self, Bool.false_eq_true, if_false, Option.some.injEq, Prod.mk.injEq, List.cons.injEq, and_true] at h2
  obtain ⟨rfl, rfl⟩ := h2
  have HT2 := Lib.hid (take_ok (s := [61]) rfl hB0 Q1.out)
  go_wp2_with fail
  refine HT2.out.mono ?_
  rintro e w2 ⟨rfl, q2, m2⟩
  have Qa2 := Lib.hid q2
  have Na2 := Lib.hid (N1.out.mv Q1.out.blk m2)
  have Ma2 := Lib.hid (M1.out.trans m2)
  clear q2 m2 HT2
  have HT3 := Lib.hid (take_ok (s := [60, 62]) rfl hB1 Qa2.out)
  go_wp2_with fail
  refine HT3.out.mono ?_
  rintro e w3 ⟨rfl, q3, m3⟩
  have Qa3 := Lib.hid q3
  have Na3 := Lib.hid (Na2.out.mv Qa2.out.blk m3)
  have Ma3 := Lib.hid (Ma2.out.trans m3)
  clear q3 m3 HT3
  have HT4 := Lib.hid (take_ok (s := [60]) rfl hB2 Qa3.out)
  go_wp2_with fail
  refine HT4.out.mono ?_
  rintro e w4 ⟨rfl, q4, m4⟩
  have Qa4 := Lib.hid q4
  have Na4 := Lib.hid (Na3.out.mv Qa3.out.blk m4)
  have Ma4 := Lib.hid (Ma3.out.trans m4)
  clear q4 m4 HT4
  have HT5 := Lib.hid (take_ok (s := [60, 61]) rfl hB3 Qa4.out)
  go_wp2_with fail
  refine HT5.out.mono ?_
  rintro e w5 ⟨rfl, q5, m5⟩
  have Qa5 := Lib.hid q5
  have Na5 := Lib.hid (Na4.out.mv Qa4.out.blk m5)
  have Ma5 := Lib.hid (Ma4.out.trans m5)
  clear q5 m5 HT5
  have HT6 := Lib.hid (take_ok (s := [62]) rfl hB4 Qa5.out)
  go_wp2_with fail
  refine HT6.out.mono ?_
  rintro e w6 ⟨rfl, q6, m6⟩
  have Qa6 := Lib.hid q6
  have Na6 := Lib.hid (Na5.out.mv Qa5.out.blk m6)
  have Ma6 := Lib.hid (Ma5.out.trans m6)
  clear q6 m6 HT6
  have HT7 := Lib.hid (take_ok (s := [62, 61]) rfl hB5 Qa6.out)
  go_wp2_with fail
  refine HT7.out.mono ?_
  rintro e w7 ⟨rfl, q7, m7⟩
  have Qa7 := Lib.hid q7
  have Na7 := Lib.hid (Na6.out.mv Qa6.out.blk m7)
  have Ma7 := Lib.hid (Ma6.out.trans m7)
  clear q7 m7 HT7
  go_wp2
  go_ret
  exact ⟨_, rfl, Na7.out, Qa7.out, Ma7.out⟩
set_option maxRecDepth 100000 in
set_option maxHeartbeats 1600000 in
theorem sum_ok {f : Nat} (hs : ∀ g, g ≤ f → C1 113 L lv g .prod) : C1 112 L lv (f + 1) .sum := by
  intro o i z k b w hrun hq
  simp only [run] at hrun
  obtain ⟨x, j, h1, h2⟩ := bnd_some hrun
  have HS := Lib.hid (hs f (Nat.le_refl _) o i x j b w h1 hq)
  have HR := Lib.hid hs
  have H2 := Lib.hid h2
  clear hrun h1 hs hq h2
  go_enter Tryz.func112, Tryz.ntmps112
  go_wp2_with fail
  refine HS.out.mono ?_
  rintro e w1 ⟨v1, rfl, n1, q1, m1⟩
  obtain ⟨A1, c1, rfl, y1, -⟩ := n1.form
  unfold maxLen at y1
  have N1 := Lib.hid n1
  have Q1 := Lib.hid q1
  have M1 := Lib.hid m1
  clear n1 q1 m1
  go_wp2
  go_loopg [3] f (fun g s3 wr => ∃ (x' : List Nd) (v' : Value) (j' : Nat), g ≤ f ∧ v' = s3 ∧ NdW wr v' x' ∧ Rq wr b L lv j' o ∧ Mv w wr b ∧ run L g .sumL [x'] o j' = some ([z], k))
  case atStart => exact ⟨x, _, j, Nat.le_refl _, rfl, N1.out, Q1.out, M1.out, H2.out⟩
  case round =>
    obtain ⟨x', v', j', hgf, rfl, n', q', m', hr⟩ := hrel
    cases gk with
    | zero => simp [run] at hr
    | succ gk =>
    simp only [run, List.headD_cons] at hr
    obtain ⟨A0, c0, rfl, y0, -⟩ := n'.form
    unfold maxLen at y0
    have N0 := Lib.hid n'
    have Q0 := Lib.hid q'
    have M0 := Lib.hid m'
    clear n' q' m'
    cases hB0 : isAt L j' [43] with
    | true =>
      have hB1 := isAt_ne (u := [45]) hB0 (by decide)
      rw [hB0] at hr
      simp only [Bool.false_eq_true, if_false, if_true] at hr
      obtain ⟨y, k2, h3, h4⟩ := bnd_some hr
      obtain ⟨y2, k3, h5, h6⟩ := bnd_some h4
      obtain ⟨h7, rfl⟩ := ok1_some h5
      have H3 := Lib.hid h3
      have H6 := Lib.hid h6
      have H7 := Lib.hid h7
      have hil := isAt_lt hB0
      clear hr h3 h4 h5 h6 h7
      have HI2 := Lib.hid (is_ok (s := [43]) rfl hB0 Q0.out)
      go_wp2_with fail
      refine HI2.out.mono ?_
      rintro e w2 ⟨rfl, b2⟩
      have Qa2 := Lib.hid (Q0.out.below b2)
      have Na2 := Lib.hid (N0.out.below b2)
      have Ma2 := Lib.hid (M0.out.trans (Mv.of b2))
      clear b2 HI2
      have HI3 := Lib.hid (is_ok (s := [45]) rfl hB1 Qa2.out)
      go_wp2_with fail
      refine HI3.out.mono ?_
      rintro e w3 ⟨rfl, b3⟩
      have Qa3 := Lib.hid (Qa2.out.below b3)
      have Na3 := Lib.hid (Na2.out.below b3)
      have Ma3 := Lib.hid (Ma2.out.trans (Mv.of b3))
      clear b3 HI3
      obtain ⟨-, d1, -, -, -, fz⟩ := Qa3.out.cells
      have f1 := fz 1
      have hlen := Qa3.out.len
      have Q20 := Lib.hid (Qa3.out.setI hil)
      have N20 := Lib.hid (Na3.out.mv Qa3.out.blk (mv_set w3 b 1 (.int .i64 ((j' : Int) + 1))))
      have M20 := Lib.hid (Ma3.out.trans (mv_set w3 b 1 (.int .i64 ((j' : Int) + 1))))
      have HC3 := Lib.hid (HR.out gk (by omega) o (j' + 1) y k2 b _ H3.out Q20.out)
      clear fz
      go_wp2_with fail
      refine HC3.out.mono ?_
      rintro e wc ⟨v30, rfl, n30, q30, m30⟩
      obtain ⟨A30, c30, rfl, y30, -⟩ := n30.form
      unfold maxLen at y30
      have N30 := Lib.hid n30
      have Q30 := Lib.hid q30
      have M30 := Lib.hid (M20.out.trans m30)
      have N23 := Lib.hid (N20.out.mv Q20.out.blk m30)
      clear n30 q30 m30
      have HJ := Lib.hid (join_ok (op := 14) Q30.out N23.out N30.out H7.out)
      go_wp2_with fail
      refine HJ.out.mono ?_
      rintro e w4 ⟨v4, rfl, n4, b4⟩
      obtain ⟨A4, c4, rfl, -⟩ := n4.form
      have N4 := Lib.hid n4
      have Q4 := Lib.hid (Q30.out.below b4)
      have M4 := Lib.hid (M30.out.trans (Mv.of b4))
      clear n4 b4
      go_wp2
      go_roundg gk
      case measure => omega
      case rel => exact ⟨y2, _, k2, by omega, rfl, N4.out, Q4.out, M4.out, H6.out⟩
    | false =>
    cases hB1 : isAt L j' [45] with
    | true =>
      rw [hB0, hB1] at hr
      simp at hr
    | false =>
    rw [hB0, hB1] at hr
    simp only [Bool.false_eq_true, if_false, Option.some.injEq, Prod.mk.injEq, List.cons.injEq, and_true] at hr
    obtain ⟨rfl, rfl⟩ := hr
    have HI2 := Lib.hid (is_ok (s := [43]) rfl hB0 Q0.out)
    go_wp2_with fail
    refine HI2.out.mono ?_
    rintro e w2 ⟨rfl, b2⟩
    have Qa2 := Lib.hid (Q0.out.below b2)
    have Na2 := Lib.hid (N0.out.below b2)
    have Ma2 := Lib.hid (M0.out.trans (Mv.of b2))
    clear b2 HI2
    have HI3 := Lib.hid (is_ok (s := [45]) rfl hB1 Qa2.out)
    go_wp2_with fail
    refine HI3.out.mono ?_
    rintro e w3 ⟨rfl, b3⟩
    have Qa3 := Lib.hid (Qa2.out.below b3)
    have Na3 := Lib.hid (Na2.out.below b3)
    have Ma3 := Lib.hid (Ma2.out.trans (Mv.of b3))
    clear b3 HI3
    go_wp2
    go_ret
    exact ⟨_, rfl, Na3.out, Qa3.out, Ma3.out⟩
set_option maxRecDepth 100000 in
set_option maxHeartbeats 1600000 in
theorem prod_ok {f : Nat} (hs : ∀ g, g ≤ f → C1 114 L lv g .oper) : C1 113 L lv (f + 1) .prod := by
  intro o i z k b w hrun hq
  simp only [run] at hrun
  obtain ⟨x, j, h1, h2⟩ := bnd_some hrun
  have HS := Lib.hid (hs f (Nat.le_refl _) o i x j b w h1 hq)
  have HR := Lib.hid hs
  have H2 := Lib.hid h2
  clear hrun h1 hs hq h2
  go_enter Tryz.func113, Tryz.ntmps113
  go_wp2_with fail
  refine HS.out.mono ?_
  rintro e w1 ⟨v1, rfl, n1, q1, m1⟩
  obtain ⟨A1, c1, rfl, y1, -⟩ := n1.form
  unfold maxLen at y1
  have N1 := Lib.hid n1
  have Q1 := Lib.hid q1
  have M1 := Lib.hid m1
  clear n1 q1 m1
  go_wp2
  go_loopg [3] f (fun g s3 wr => ∃ (x' : List Nd) (v' : Value) (j' : Nat), g ≤ f ∧ v' = s3 ∧ NdW wr v' x' ∧ Rq wr b L lv j' o ∧ Mv w wr b ∧ run L g .prodL [x'] o j' = some ([z], k))
  case atStart => exact ⟨x, _, j, Nat.le_refl _, rfl, N1.out, Q1.out, M1.out, H2.out⟩
  case round =>
    obtain ⟨x', v', j', hgf, rfl, n', q', m', hr⟩ := hrel
    cases gk with
    | zero => simp [run] at hr
    | succ gk =>
    simp only [run, List.headD_cons] at hr
    obtain ⟨A0, c0, rfl, y0, -⟩ := n'.form
    unfold maxLen at y0
    have N0 := Lib.hid n'
    have Q0 := Lib.hid q'
    have M0 := Lib.hid m'
    clear n' q' m'
    cases hB0 : isAt L j' [42] with
    | true =>
      have hB1 := isAt_ne (u := [100, 105, 118]) hB0 (by decide)
      have hB2 := isAt_ne (u := [109, 111, 100]) hB0 (by decide)
      rw [hB0] at hr
      simp only [Bool.false_eq_true, if_false, if_true] at hr
      obtain ⟨y, k2, h3, h4⟩ := bnd_some hr
      obtain ⟨y2, k3, h5, h6⟩ := bnd_some h4
      obtain ⟨h7, rfl⟩ := ok1_some h5
      have H3 := Lib.hid h3
      have H6 := Lib.hid h6
      have H7 := Lib.hid h7
      have hil := isAt_lt hB0
      clear hr h3 h4 h5 h6 h7
      have HI2 := Lib.hid (is_ok (s := [42]) rfl hB0 Q0.out)
      go_wp2_with fail
      refine HI2.out.mono ?_
      rintro e w2 ⟨rfl, b2⟩
      have Qa2 := Lib.hid (Q0.out.below b2)
      have Na2 := Lib.hid (N0.out.below b2)
      have Ma2 := Lib.hid (M0.out.trans (Mv.of b2))
      clear b2 HI2
      have HI3 := Lib.hid (is_ok (s := [100, 105, 118]) rfl hB1 Qa2.out)
      go_wp2_with fail
      refine HI3.out.mono ?_
      rintro e w3 ⟨rfl, b3⟩
      have Qa3 := Lib.hid (Qa2.out.below b3)
      have Na3 := Lib.hid (Na2.out.below b3)
      have Ma3 := Lib.hid (Ma2.out.trans (Mv.of b3))
      clear b3 HI3
      have HI4 := Lib.hid (is_ok (s := [109, 111, 100]) rfl hB2 Qa3.out)
      go_wp2_with fail
      refine HI4.out.mono ?_
      rintro e w4 ⟨rfl, b4⟩
      have Qa4 := Lib.hid (Qa3.out.below b4)
      have Na4 := Lib.hid (Na3.out.below b4)
      have Ma4 := Lib.hid (Ma3.out.trans (Mv.of b4))
      clear b4 HI4
      obtain ⟨-, d1, -, -, -, fz⟩ := Qa4.out.cells
      have f1 := fz 1
      have hlen := Qa4.out.len
      have Q20 := Lib.hid (Qa4.out.setI hil)
      have N20 := Lib.hid (Na4.out.mv Qa4.out.blk (mv_set w4 b 1 (.int .i64 ((j' : Int) + 1))))
      have M20 := Lib.hid (Ma4.out.trans (mv_set w4 b 1 (.int .i64 ((j' : Int) + 1))))
      have HC3 := Lib.hid (HR.out gk (by omega) o (j' + 1) y k2 b _ H3.out Q20.out)
      clear fz
      go_wp2_with fail
      refine HC3.out.mono ?_
      rintro e wc ⟨v30, rfl, n30, q30, m30⟩
      obtain ⟨A30, c30, rfl, y30, -⟩ := n30.form
      unfold maxLen at y30
      have N30 := Lib.hid n30
      have Q30 := Lib.hid q30
      have M30 := Lib.hid (M20.out.trans m30)
      have N23 := Lib.hid (N20.out.mv Q20.out.blk m30)
      clear n30 q30 m30
      have HJ := Lib.hid (join_ok (op := 16) Q30.out N23.out N30.out H7.out)
      go_wp2_with fail
      refine HJ.out.mono ?_
      rintro e w4 ⟨v4, rfl, n4, b4⟩
      obtain ⟨A4, c4, rfl, -⟩ := n4.form
      have N4 := Lib.hid n4
      have Q4 := Lib.hid (Q30.out.below b4)
      have M4 := Lib.hid (M30.out.trans (Mv.of b4))
      clear n4 b4
      go_wp2
      go_roundg gk
      case measure => omega
      case rel => exact ⟨y2, _, k2, by omega, rfl, N4.out, Q4.out, M4.out, H6.out⟩
    | false =>
    cases hB1 : isAt L j' [100, 105, 118] with
    | true =>
      have hB2 := isAt_ne (u := [109, 111, 100]) hB1 (by decide)
      rw [hB0, hB1] at hr
      simp only [Bool.false_eq_true, if_false, if_true] at hr
      obtain ⟨y, k2, h3, h4⟩ := bnd_some hr
      obtain ⟨y2, k3, h5, h6⟩ := bnd_some h4
      obtain ⟨h7, rfl⟩ := ok1_some h5
      have H3 := Lib.hid h3
      have H6 := Lib.hid h6
      have H7 := Lib.hid h7
      have hil := isAt_lt hB1
      clear hr h3 h4 h5 h6 h7
      have HI2 := Lib.hid (is_ok (s := [42]) rfl hB0 Q0.out)
      go_wp2_with fail
      refine HI2.out.mono ?_
      rintro e w2 ⟨rfl, b2⟩
      have Qa2 := Lib.hid (Q0.out.below b2)
      have Na2 := Lib.hid (N0.out.below b2)
      have Ma2 := Lib.hid (M0.out.trans (Mv.of b2))
      clear b2 HI2
      have HI3 := Lib.hid (is_ok (s := [100, 105, 118]) rfl hB1 Qa2.out)
      go_wp2_with fail
      refine HI3.out.mono ?_
      rintro e w3 ⟨rfl, b3⟩
      have Qa3 := Lib.hid (Qa2.out.below b3)
      have Na3 := Lib.hid (Na2.out.below b3)
      have Ma3 := Lib.hid (Ma2.out.trans (Mv.of b3))
      clear b3 HI3
      have HI4 := Lib.hid (is_ok (s := [100, 105, 118]) rfl hB1 Qa3.out)
      go_wp2_with fail
      refine HI4.out.mono ?_
      rintro e w4 ⟨rfl, b4⟩
      have Qa4 := Lib.hid (Qa3.out.below b4)
      have Na4 := Lib.hid (Na3.out.below b4)
      have Ma4 := Lib.hid (Ma3.out.trans (Mv.of b4))
      clear b4 HI4
      have HI5 := Lib.hid (is_ok (s := [109, 111, 100]) rfl hB2 Qa4.out)
      go_wp2_with fail
      refine HI5.out.mono ?_
      rintro e w5 ⟨rfl, b5⟩
      have Qa5 := Lib.hid (Qa4.out.below b5)
      have Na5 := Lib.hid (Na4.out.below b5)
      have Ma5 := Lib.hid (Ma4.out.trans (Mv.of b5))
      clear b5 HI5
      obtain ⟨-, d1, -, -, -, fz⟩ := Qa5.out.cells
      have f1 := fz 1
      have hlen := Qa5.out.len
      have Q20 := Lib.hid (Qa5.out.setI hil)
      have N20 := Lib.hid (Na5.out.mv Qa5.out.blk (mv_set w5 b 1 (.int .i64 ((j' : Int) + 1))))
      have M20 := Lib.hid (Ma5.out.trans (mv_set w5 b 1 (.int .i64 ((j' : Int) + 1))))
      have HC3 := Lib.hid (HR.out gk (by omega) o (j' + 1) y k2 b _ H3.out Q20.out)
      clear fz
      go_wp2_with fail
      refine HC3.out.mono ?_
      rintro e wc ⟨v30, rfl, n30, q30, m30⟩
      obtain ⟨A30, c30, rfl, y30, -⟩ := n30.form
      unfold maxLen at y30
      have N30 := Lib.hid n30
      have Q30 := Lib.hid q30
      have M30 := Lib.hid (M20.out.trans m30)
      have N23 := Lib.hid (N20.out.mv Q20.out.blk m30)
      clear n30 q30 m30
      have HJ := Lib.hid (join_ok (op := 17) Q30.out N23.out N30.out H7.out)
      go_wp2_with fail
      refine HJ.out.mono ?_
      rintro e w4 ⟨v4, rfl, n4, b4⟩
      obtain ⟨A4, c4, rfl, -⟩ := n4.form
      have N4 := Lib.hid n4
      have Q4 := Lib.hid (Q30.out.below b4)
      have M4 := Lib.hid (M30.out.trans (Mv.of b4))
      clear n4 b4
      go_wp2
      go_roundg gk
      case measure => omega
      case rel => exact ⟨y2, _, k2, by omega, rfl, N4.out, Q4.out, M4.out, H6.out⟩
    | false =>
    cases hB2 : isAt L j' [109, 111, 100] with
    | true =>
      rw [hB0, hB1, hB2] at hr
      simp at hr
    | false =>
    rw [hB0, hB1, hB2] at hr
    simp only [Bool.false_eq_true, if_false, Option.some.injEq, Prod.mk.injEq, List.cons.injEq, and_true] at hr
    obtain ⟨rfl, rfl⟩ := hr
    have HI2 := Lib.hid (is_ok (s := [42]) rfl hB0 Q0.out)
    go_wp2_with fail
    refine HI2.out.mono ?_
    rintro e w2 ⟨rfl, b2⟩
    have Qa2 := Lib.hid (Q0.out.below b2)
    have Na2 := Lib.hid (N0.out.below b2)
    have Ma2 := Lib.hid (M0.out.trans (Mv.of b2))
    clear b2 HI2
    have HI3 := Lib.hid (is_ok (s := [100, 105, 118]) rfl hB1 Qa2.out)
    go_wp2_with fail
    refine HI3.out.mono ?_
    rintro e w3 ⟨rfl, b3⟩
    have Qa3 := Lib.hid (Qa2.out.below b3)
    have Na3 := Lib.hid (Na2.out.below b3)
    have Ma3 := Lib.hid (Ma2.out.trans (Mv.of b3))
    clear b3 HI3
    have HI4 := Lib.hid (is_ok (s := [109, 111, 100]) rfl hB2 Qa3.out)
    go_wp2_with fail
    refine HI4.out.mono ?_
    rintro e w4 ⟨rfl, b4⟩
    have Qa4 := Lib.hid (Qa3.out.below b4)
    have Na4 := Lib.hid (Na3.out.below b4)
    have Ma4 := Lib.hid (Ma3.out.trans (Mv.of b4))
    clear b4 HI4
    go_wp2
    go_ret
    exact ⟨_, rfl, Na4.out, Qa4.out, Ma4.out⟩
end Go.Proofs.YtobkcdkffcenbaaGreatDoor.Lr

/- A lean reader of expressions: a prefix, arguments, a name. Conditions: the contracts at less fuel. -/
namespace Go.Proofs.YtobkcdkffcenbaaGreatDoor.Lr
open Go.ChangeShapes Go.WideShapes Go.ChangeAt Go.RowKit Go.Maps Go.WideMaps
open Go.Proofs.YtobkcdkffcenbaaGreatDoor.Tr (str ret_bool ret_int Bytes Nd Nodes joinM roomM own_block own_below own_ne own_base ndsOf)
variable {L : List Lx.Tok} {lv : Value}
set_option maxRecDepth 100000 in
set_option maxHeartbeats 1600000 in
theorem prefix_ok (T : Bytes) (w : World) : Calls Tryz.prog 118 #[.string (str T)] w (fun e w' => e = .returned (.int .i64 (preM T)) ∧ w' = w) := by
  have h : ∀ l, ((str T).toList == l) = (T == l) := fun l => by rw [Tr.str_toList]
  obtain ⟨p, hp⟩ : ∃ p, preM T = p := ⟨_, rfl⟩
  have HP := Lib.hid hp
  rw [hp]
  clear hp
  by_cases h1 : T = [110, 111, 116]
  · have e1 : ((str T).toList == [110, 111, 116]) = true := by rw [h]; simpa using h1
    obtain rfl : 4 = p := by rw [← HP.out, h1]; rfl
    clear h h1
    go_enter Tryz.func118, Tryz.ntmps118
    go_wp2
    go_ret
    exact ⟨rfl, rfl⟩
  have e1 : ((str T).toList == [110, 111, 116]) = false := by rw [h]; simpa using h1
  by_cases h2 : T = [45]
  · have e2 : ((str T).toList == [45]) = true := by rw [h]; simpa using h2
    obtain rfl : 5 = p := by rw [← HP.out, h2]; rfl
    clear h h1 h2
    go_enter Tryz.func118, Tryz.ntmps118
    go_wp2
    go_ret
    exact ⟨rfl, rfl⟩
  have e2 : ((str T).toList == [45]) = false := by rw [h]; simpa using h2
  by_cases h3 : T = [112, 114, 101]
  · have e3 : ((str T).toList == [112, 114, 101]) = true := by rw [h]; simpa using h3
    obtain rfl : 21 = p := by rw [← HP.out, h3]; rfl
    clear h h1 h2 h3
    go_enter Tryz.func118, Tryz.ntmps118
    go_wp2
    go_ret
    exact ⟨rfl, rfl⟩
  have e3 : ((str T).toList == [112, 114, 101]) = false := by rw [h]; simpa using h3
  by_cases h4 : T = [111, 110, 99, 101]
  · have e4 : ((str T).toList == [111, 110, 99, 101]) = true := by rw [h]; simpa using h4
    obtain rfl : 22 = p := by rw [← HP.out, h4]; rfl
    clear h h1 h2 h3 h4
    go_enter Tryz.func118, Tryz.ntmps118
    go_wp2
    go_ret
    exact ⟨rfl, rfl⟩
  have e4 : ((str T).toList == [111, 110, 99, 101]) = false := by rw [h]; simpa using h4
  by_cases h5 : T = [104, 105, 115, 116]
  · have e5 : ((str T).toList == [104, 105, 115, 116]) = true := by rw [h]; simpa using h5
    obtain rfl : 23 = p := by rw [← HP.out, h5]; rfl
    clear h h1 h2 h3 h4 h5
    go_enter Tryz.func118, Tryz.ntmps118
    go_wp2
    go_ret
    exact ⟨rfl, rfl⟩
  have e5 : ((str T).toList == [104, 105, 115, 116]) = false := by rw [h]; simpa using h5
  by_cases h6 : T = [112, 114, 101, 118]
  · have e6 : ((str T).toList == [112, 114, 101, 118]) = true := by rw [h]; simpa using h6
    obtain rfl : 24 = p := by rw [← HP.out, h6]; rfl
    clear h h1 h2 h3 h4 h5 h6
    go_enter Tryz.func118, Tryz.ntmps118
    go_wp2
    go_ret
    exact ⟨rfl, rfl⟩
  have e6 : ((str T).toList == [112, 114, 101, 118]) = false := by rw [h]; simpa using h6
  by_cases h7 : T = [119, 105, 116, 104, 105, 110]
  · have e7 : ((str T).toList == [119, 105, 116, 104, 105, 110]) = true := by rw [h]; simpa using h7
    obtain rfl : 25 = p := by rw [← HP.out, h7]; rfl
    clear h h1 h2 h3 h4 h5 h6 h7
    go_enter Tryz.func118, Tryz.ntmps118
    go_wp2
    go_ret
    exact ⟨rfl, rfl⟩
  have e7 : ((str T).toList == [119, 105, 116, 104, 105, 110]) = false := by rw [h]; simpa using h7
  obtain rfl : 0 = p := by rw [← HP.out]; unfold preM; rw [if_neg h1, if_neg h2, if_neg h3, if_neg h4, if_neg h5, if_neg h6, if_neg h7]
  clear h h1 h2 h3 h4 h5 h6 h7
  go_enter Tryz.func118, Tryz.ntmps118
  go_wp2
  go_ret
  exact ⟨rfl, rfl⟩
theorem infoExp : (Tryz.prog.info? 32).map (fun i => (i.zero, i.size, i.bytes)) = some (some (.slice none 0 0), 1, 24) := by kernel_rfl
structure PsW (w : World) (B : Nat) (v : Value) (ps : List (List Nd)) (vs : List Value) : Prop where
  own : w.ownsRow B 32 1 v ps.length vs
  each : ∀ (i : Nat) (x : List Nd), ps[i]? = some x → ∃ u, vs[i]? = some u ∧ NdW w u x
theorem PsW.below {w w' : World} {B : Nat} {v : Value} {ps : List (List Nd)} {vs : List Value} (h : PsW w B v ps vs) (hb : Below w.heap.size w w') : PsW w' B v ps vs :=
  ⟨own_below h.own hb, fun i x hi => by obtain ⟨u, h1, h2⟩ := h.each i x hi; exact ⟨u, h1, h2.below hb⟩⟩
theorem own_mv {w w' : World} {B T s n b : Nat} {v : Value} {xs : List Value} {cs : Array Value} (h : w.ownsRow B T s v n xs) (hT : 132 ≠ T) (hb : w.heap[b]? = some (.cells cs 132 (0, 0))) (hm : Mv w w' b) : w'.ownsRow B T s v n xs :=
  own_block h (fun g hg => hm.block g (h.lt g hg).2 (fun e => by
    injection e with e
    subst e
    obtain ⟨hl, h0 | ⟨g', cap, cur, hv, hb', hh, _⟩⟩ := h
    · rw [h0.1] at hg; simp [Value.ownBlock] at hg
    · rw [hv] at hg
      have : some g' = some g := hg
      injection this with this
      subst this
      rw [hb] at hh
      injection hh with hh
      injection hh with _ hh _
      exact hT hh))
theorem PsW.mv {w w' : World} {B b : Nat} {v : Value} {ps : List (List Nd)} {vs : List Value} {cs : Array Value} (h : PsW w B v ps vs) (hb : w.heap[b]? = some (.cells cs 132 (0, 0))) (hm : Mv w w' b) : PsW w' B v ps vs :=
  ⟨own_mv h.own (by decide) hb hm, fun i x hi => by obtain ⟨u, h1, h2⟩ := h.each i x hi; exact ⟨u, h1, h2.mv hb hm⟩⟩
theorem NdW.grown {w w' : World} {u v : Value} {x : List Nd} {B s n : Nat} {xs : List Value} (h : NdW w u x) (ho : w.ownsRow B 32 s v n xs) (hg : w.grownBy w' v.ownBlock) : NdW w' u x := by
  obtain ⟨C, h⟩ := h
  exact ⟨C, own_block h (fun g hgo => hg.block g (h.lt g hgo).2 (fun e => own_ne h ho (by decide) g hgo e.symm))⟩
theorem PsW.snoc {w w' : World} {B : Nat} {v v' u : Value} {ps : List (List Nd)} {vs : List Value} {x : List Nd} (h : PsW w B v ps vs) (hu : NdW w u x) (hrow : w'.ownsRow B 32 1 v' (ps.length + 1) (vs ++ [u])) (hg : w.grownBy w' v.ownBlock) : PsW w' B v' (ps ++ [x]) (vs ++ [u]) := by
  have hl : vs.length = ps.length := by have := h.own.1; omega
  refine ⟨by rw [List.length_append]; exact hrow, fun i y hi => ?_⟩
  by_cases e : i < ps.length
  · rw [List.getElem?_append_left e] at hi
    obtain ⟨u', h1, h2⟩ := h.each i y hi
    exact ⟨u', by rw [List.getElem?_append_left (by omega)]; exact h1, h2.grown h.own hg⟩
  · rw [List.getElem?_append_right (by omega)] at hi
    have h0 : i - ps.length = 0 := by
      have := (List.getElem?_eq_some_iff.1 hi).1
      simp at this; omega
    rw [h0] at hi
    simp at hi
    subst hi
    exact ⟨u, by rw [List.getElem?_append_right (by omega), hl, h0]; rfl, hu.grown h.own hg⟩
theorem PsW.parts {w : World} {B : Nat} {v : Value} {ps : List (List Nd)} {vs : List Value} (h : PsW w B v ps vs) : Tr.Parts w w.heap.size v ps := by
  obtain ⟨hl, ⟨e, h0⟩ | ⟨g, cap, cur, e, hb, hh, hnc, hcm, hcs, hct⟩⟩ := h.own
  · refine ⟨none, 0, by rw [e, h0], by omega, by unfold maxLen; omega, fun i x hi => ?_⟩
    have := (List.getElem?_eq_some_iff.1 hi).1
    omega
  · subst e
    refine ⟨some ⟨g, 0, none⟩, cap, rfl, hnc, hcm, fun i x hi => ?_⟩
    obtain ⟨u, h1, h2⟩ := h.each i x hi
    have hil := (List.getElem?_eq_some_iff.1 hi).1
    exact ⟨g, 0, u, rfl, blk_lt hh, blk_lt hh, by rw [Nat.zero_add, h.own.cellAt i (by omega)]; exact h1, h2.nodes, low_of h2.nodes⟩
theorem PsW.form {w : World} {B : Nat} {v : Value} {ps : List (List Nd)} {vs : List Value} (h : PsW w B v ps vs) : ∃ A c, v = .slice A ps.length c ∧ c ≤ maxLen ∧ ps.length ≤ c := by
  obtain ⟨A, c, e, h1, h2, -⟩ := h.parts
  exact ⟨A, c, e, h2, h1⟩
def GoP (w : World) (b : Nat) (L : List Lx.Tok) (lv : Value) (j o : Nat) (ps : List (List Nd)) (e : Ending) (w' : World) : Prop := ∃ v vs, e = .returned v ∧ PsW w' w.heap.size v ps vs ∧ Rq w' b L lv j o ∧ Mv w w' b
abbrev CP (L : List Lx.Tok) (lv : Value) (f : Nat) : Prop := ∀ (o i : Nat) (ps : List (List Nd)) (j b : Nat) (w : World), run L f .args [] o i = some (ps, j) → Rq w b L lv i o → Calls Tryz.prog 122 #[.pointer (some ⟨b, 0, none⟩)] w (GoP w b L lv j o ps)
set_option maxRecDepth 100000 in
set_option maxHeartbeats 1600000 in
theorem args_ok {f : Nat} (hs : ∀ g, g ≤ f → C1 76 L lv g .arrow) : CP L lv (f + 1) := by
  intro o i zs k b w hrun hq
  simp only [run] at hrun
  obtain ⟨s0, hsi, hz⟩ := Option.map_eq_some_iff.1 infoExp
  simp only [Prod.mk.injEq] at hz
  obtain ⟨hsz0, hsz1, hsz2⟩ := hz
  have HQ := Lib.hid hq
  have HR := Lib.hid hs
  clear hq hs
  cases hB : isAt L i [41] with
  | true =>
    rw [hB, if_pos rfl] at hrun
    injection hrun with hrun
    simp only [Prod.mk.injEq] at hrun
    obtain ⟨rfl, rfl⟩ := hrun
    have HT := Lib.hid (take_ok (s := [41]) rfl hB HQ.out)
    clear hB
    go_enter Tryz.func122, Tryz.ntmps122
    go_wp2_with fail
    refine HT.out.mono ?_
    rintro e w1 ⟨rfl, q1, m1⟩
    have Q1 := Lib.hid q1
    have M1 := Lib.hid m1
    clear q1 m1
    go_wp2
    go_ret
    exact ⟨_, [], rfl, ⟨World.ownsRow_nil _ _ _ _, fun i x hi => by simp at hi⟩, Q1.out, M1.out⟩
  | false =>
    rw [hB, if_neg (by simp)] at hrun
    have HRUN := Lib.hid hrun
    have HT := Lib.hid (take_ok (s := [41]) rfl hB HQ.out)
    clear hB hrun
    go_enter Tryz.func122, Tryz.ntmps122
    go_wp2_with fail
    refine HT.out.mono ?_
    rintro e w1 ⟨rfl, q1, m1⟩
    have Q1 := Lib.hid q1
    have M1 := Lib.hid m1
    clear q1 m1
    go_wp2
    go_loopg [3] f (fun g s3 wr => ∃ (ps : List (List Nd)) (vs : List Value) (v' : Value) (j' : Nat), g ≤ f ∧ v' = s3 ∧ ps.length ≤ 200 ∧ PsW wr w.heap.size v' ps vs ∧ Rq wr b L lv j' o ∧ Mv w wr b ∧ run L g .argsL ps o j' = some (zs, k))
    case atStart => exact ⟨[], [], _, i, Nat.le_refl _, rfl, by simp, ⟨World.ownsRow_nil _ _ _ _, fun i x hi => by simp at hi⟩, Q1.out, M1.out, HRUN.out⟩
    case round =>
      obtain ⟨ps, vs, v', j', hgf, rfl, hpl, p0, q0, m0, hr⟩ := hrel
      cases gk with
      | zero => simp [run] at hr
      | succ gk =>
      simp only [run] at hr
      obtain ⟨x, j2, h1, h2⟩ := bnd_some hr
      obtain ⟨A0, c0, rfl, y0, -⟩ := p0.form
      unfold maxLen at y0
      obtain ⟨-, -, -, c3, -, -⟩ := q0.cells
      have HC := Lib.hid (HR.out gk (by omega) o j' x j2 b wr h1 q0)
      have P0 := Lib.hid p0
      have Q0 := Lib.hid q0
      have M0 := Lib.hid m0
      have hsm := m0.size
      clear hr h1 p0 q0 m0
      go_wp2_with fail
      refine HC.out.mono ?_
      rintro e w2 ⟨v2, rfl, n2, q2, m2⟩
      obtain ⟨A2, c2, rfl, y2, -⟩ := n2.form
      unfold maxLen at y2
      have N2 := Lib.hid n2
      have Q2 := Lib.hid q2
      have M2 := Lib.hid (M0.out.trans m2)
      have P2 := Lib.hid (P0.out.mv Q0.out.blk m2)
      have hs2 := m2.size
      have hlt2 := Q2.out.lt
      clear n2 q2 m2
      go_wp2_with (at_builtin; refine wpList_append_own _ rfl (.tmp 12) (.tmp 15) 41 rfl w.heap.size 32 s0 (.slice none 0 0) 1 24 Tryz.underlying41 hsi hsz0 hsz1 hsz2 rfl (by decide) _ _ _ rfl (P2.out.own.alloc _) ⟨w2.heap.size, 0, none⟩ 1 1 [.slice A2 x.length c2] rfl rfl ?a1 ?b1 ?c1 ?d1 ?e1 ?_)
      case a1 => exact World.news_of_block (t := 32) (fr := (0, 0)) (heap_alloc_new _ _)
      case b1 => first | rfl | (intro u hu; simp at hu; subst hu; rfl)
      case c1 => unfold maxLen; omega
      case d1 => omega
      case e1 => simp; omega
      intro v' w5 hown3 hgrow3 _
      have hba : Below w2.heap.size w2 (w2.alloc (.cells #[.slice A2 x.length c2] 32)) := (Below.refl _ _).alloc (Nat.le_refl _) _
      have hps := (P2.out.below hba).snoc (N2.out.below hba) hown3 hgrow3
      have hlow : ∀ g, g < w.heap.size → w5.heap[g]? = w2.heap[g]? := fun g hg =>
        (hgrow3.block g (by simp; omega) (fun e => by have := (P2.out.own.lt g e.symm).1; omega)).trans (hba.block g (by omega))
      have HPS := Lib.hid hps
      have Q5 := Lib.hid (Q2.out.keep (fun g hg => hlow g (by have := HQ.out.lt; omega)))
      have M5 : Hid (Mv w w5 b) := Lib.hid ⟨hgrow3.os.trans (hba.os.trans M2.out.os), hgrow3.tape.trans (hba.tape.trans M2.out.tape), hgrow3.output.trans (hba.output.trans M2.out.output), by have := hgrow3.size; simp at this; omega, fun g hg hne => (hlow g hg).trans (M2.out.block g hg hne)⟩
      obtain ⟨A5, c5, e5, y5, -⟩ := hps.form
      rw [List.length_append] at e5
      have e5 : v' = .slice A5 (ps.length + 1) c5 := e5
      subst e5
      clear hown3 hgrow3 hba hps hlow
      cases hB : isAt L j2 [41] with
      | true =>
        rw [hB, if_pos rfl] at h2
        injection h2 with h2
        simp only [Prod.mk.injEq] at h2
        obtain ⟨rfl, rfl⟩ := h2
        have HT2 := Lib.hid (take_ok (s := [41]) rfl hB Q5.out)
        clear hB
        go_wp2_with fail
        refine HT2.out.mono ?_
        rintro e w6 ⟨rfl, q6, m6⟩
        have P6 := Lib.hid (HPS.out.mv Q5.out.blk m6)
        have Q6 := Lib.hid q6
        have M6 := Lib.hid (M5.out.trans m6)
        clear q6 m6
        go_wp2
        go_ret
        exact ⟨_, _, rfl, P6.out, Q6.out, M6.out⟩
      | false =>
        rw [hB, if_neg (by simp)] at h2
        have HT2 := Lib.hid (take_ok (s := [41]) rfl hB Q5.out)
        split at h2
        · rename_i hC
          simp only [Bool.and_eq_true, decide_eq_true_eq] at hC
          obtain ⟨hC, hlt⟩ := hC
          have HRN := Lib.hid h2
          have HC2 := Lib.hid hC
          clear hB h2 hC
          go_wp2_with fail
          refine HT2.out.mono ?_
          rintro e w6 ⟨rfl, q6, m6⟩
          have P6 := Lib.hid (HPS.out.mv Q5.out.blk m6)
          have Q6 := Lib.hid q6
          have M6 := Lib.hid (M5.out.trans m6)
          have HN := Lib.hid (need_ok (s := [44]) rfl HC2.out Q6.out)
          clear q6 m6
          go_wp2_with fail
          refine HN.out.mono ?_
          rintro e w7 ⟨rfl, q7, m7⟩
          have P7 := Lib.hid (P6.out.mv Q6.out.blk m7)
          have Q7 := Lib.hid q7
          have M7 := Lib.hid (M6.out.trans m7)
          clear q7 m7
          go_wp2
          go_roundg gk
          case measure => omega
          case rel => exact ⟨ps ++ [x], _, _, _, by omega, rfl, by rw [List.length_append]; simp; omega, P7.out, Q7.out, M7.out, HRN.out⟩
        · cases h2
end Go.Proofs.YtobkcdkffcenbaaGreatDoor.Lr

