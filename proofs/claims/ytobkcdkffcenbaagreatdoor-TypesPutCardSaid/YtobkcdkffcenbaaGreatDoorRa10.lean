/- A lean reader of expressions: join, and the levels of operators. Conditions: the contracts at less fuel. -/
import Derived.Test.YtobkcdkffcenbaaGreatDoorRa09
set_option linter.unusedVariables false
set_option linter.unusedSimpArgs false
namespace Go.Proofs.YtobkcdkffcenbaaGreatDoor.Lr
open Go.ChangeShapes Go.WideShapes Go.ChangeAt Go.RowKit
open Go.Proofs.YtobkcdkffcenbaaGreatDoor.Tr (str ret_bool ret_int Bytes Nd Nodes joinM roomM own_block own_below own_ne ndsOf)
theorem low_of {w : World} {u : Value} {l : List Nd} (h : Nodes w u l) : 0 < l.length → ∀ g o n c, u = .slice (some ⟨g, o, none⟩) n c → g < w.heap.size := by
  intro hp g o n c hu
  obtain ⟨A', c', e1, _, _, hA⟩ := h
  obtain ⟨g2, o2, hA2, hlt, _⟩ := hA 0 _ (List.getElem?_eq_getElem hp)
  rw [e1, hA2] at hu
  simp only [Value.slice.injEq, Option.some.injEq, Addr.mk.injEq, and_true] at hu
  omega
theorem parts_none (w : World) : Tr.Parts w w.heap.size (.slice none 0 0) [] := ⟨none, 0, rfl, by simp, by unfold maxLen; omega, fun i t h => by simp at h⟩
theorem parts_one {w : World} {u : Value} {l : List Nd} (hu : Nodes w u l) : Tr.Parts (w.alloc (.cells #[u] 32)) (w.alloc (.cells #[u] 32)).heap.size (.slice (some ⟨w.heap.size, 0, none⟩) 1 1) [l] := by
  refine ⟨some ⟨w.heap.size, 0, none⟩, 1, rfl, by simp, by unfold maxLen; omega, fun i x hx => ?_⟩
  have hn := heap_alloc_new w (.cells #[u] 32)
  have hb : Below w.heap.size w (w.alloc (.cells #[u] 32)) := (Below.refl _ _).alloc (Nat.le_refl _) _
  match i, hx with
  | 0, hx =>
    simp at hx; subst hx
    have := hu.below hb (Nat.le_refl _)
    exact ⟨w.heap.size, 0, u, rfl, by simp, by simp, by unfold World.cell?; rw [hn]; rfl, this, low_of this⟩
  | i + 1, hx => simp at hx
theorem parts_two {w : World} {u v : Value} {l m : List Nd} (hu : Nodes w u l) (hv : Nodes w v m) : Tr.Parts (w.alloc (.cells #[u, v] 32)) (w.alloc (.cells #[u, v] 32)).heap.size (.slice (some ⟨w.heap.size, 0, none⟩) 2 2) [l, m] := by
  refine ⟨some ⟨w.heap.size, 0, none⟩, 2, rfl, by simp, by unfold maxLen; omega, fun i x hx => ?_⟩
  have hn := heap_alloc_new w (.cells #[u, v] 32)
  have hb : Below w.heap.size w (w.alloc (.cells #[u, v] 32)) := (Below.refl _ _).alloc (Nat.le_refl _) _
  match i, hx with
  | 0, hx =>
    simp at hx; subst hx
    have := hu.below hb (Nat.le_refl _)
    exact ⟨w.heap.size, 0, u, rfl, by simp, by simp, by unfold World.cell?; rw [hn]; rfl, this, low_of this⟩
  | 1, hx =>
    simp at hx; subst hx
    have := hv.below hb (Nat.le_refl _)
    exact ⟨w.heap.size, 0, v, rfl, by simp, by simp, by unfold World.cell?; rw [hn]; rfl, this, low_of this⟩
  | i + 2, hx => simp at hx
def Mk (w : World) (z : List Nd) (e : Ending) (w' : World) : Prop := ∃ v, e = .returned v ∧ NdW w' v z ∧ Below w.heap.size w w'
theorem mk_of {w0 w w' : World} {z : List Nd} {e : Ending} (hb : Below w0.heap.size w0 w) (h : Tr.NodesPost w z e w') : Mk w0 z e w' := by
  obtain ⟨v, h1, h2, h3⟩ := h
  exact ⟨v, h1, ⟨_, h2⟩, hb.trans (h3.mono hb.size)⟩
set_option maxRecDepth 100000 in
set_option maxHeartbeats 800000 in
theorem join_ok {b : Nat} {L : List Lx.Tok} {lv : Value} {i o : Nat} {op : Int} {x y z : List Nd} {v1 v2 : Value} {w : World} (hr : Rq w b L lv i o) (h1 : NdW w v1 x) (h2 : NdW w v2 y) (hj : jn op 0 [] [x, y] = some z) :
    Calls Tryz.prog 95 #[.pointer (some ⟨b, 0, none⟩), .int .i64 op, v1, v2] w (Mk w z) := by
  obtain ⟨hrm, rfl⟩ := jn_some hj
  obtain ⟨-, -, -, c3, -, -⟩ := hr.cells
  have hlt := hr.lt
  have H1 := Lib.hid h1.nodes
  have H2 := Lib.hid h2.nodes
  obtain ⟨A1, c1, rfl, y1, -⟩ := h1.form
  obtain ⟨A2, c2, rfl, y2, -⟩ := h2.form
  unfold maxLen at y1 y2
  clear hr h1 h2 hj
  go_enter Tryz.func95, Tryz.ntmps95
  go_wp2_with fail
  refine (Tr.rjoin_all _ [x, y] op 0 [] _ (parts_two H1.out H2.out) hrm).mono ?_
  rintro e w1 hp
  obtain ⟨v, rfl, ho, hb⟩ := hp
  have HP := Lib.hid (mk_of ((Below.refl _ _).alloc (Nat.le_refl _) (.cells #[.slice A1 x.length c1, .slice A2 y.length c2] 32)) ⟨v, rfl, ho, hb⟩)
  obtain ⟨A, cc, rfl, -, -, -⟩ := Tr.Nodes.of_own ho
  clear ho hb
  go_wp2
  go_ret
  exact HP.out
def Go1 (w : World) (b : Nat) (L : List Lx.Tok) (lv : Value) (j o : Nat) (x : List Nd) (e : Ending) (w' : World) : Prop := ∃ v, e = .returned v ∧ NdW w' v x ∧ Rq w' b L lv j o ∧ Mv w w' b
abbrev C1 (F : Nat) (L : List Lx.Tok) (lv : Value) (f : Nat) (k : K) : Prop := ∀ (o i : Nat) (x : List Nd) (j b : Nat) (w : World), run L f k [] o i = some ([x], j) → Rq w b L lv i o → Calls Tryz.prog F #[.pointer (some ⟨b, 0, none⟩)] w (Go1 w b L lv j o x)
variable {L : List Lx.Tok} {lv : Value}
set_option maxRecDepth 100000 in
set_option maxHeartbeats 1600000 in
theorem arrow_ok {f : Nat} (hs : C1 93 L lv f .imp) (hr : C1 76 L lv f .arrow) : C1 76 L lv (f + 1) .arrow := by
  intro o i z k b w hrun hq
  simp only [run] at hrun
  obtain ⟨x, j, h1, h2⟩ := bnd_some hrun
  have HS := Lib.hid (hs o i x j b w h1 hq)
  have HR := Lib.hid hr
  clear hrun h1 hs hr hq
  go_enter Tryz.func76, Tryz.ntmps76
  go_wp2_with fail
  refine HS.out.mono ?_
  rintro e w1 ⟨v1, rfl, n1, q1, m1⟩
  obtain ⟨A1, c1, rfl, y1, -⟩ := n1.form
  unfold maxLen at y1
  have N1 := Lib.hid n1
  have Q1 := Lib.hid q1
  have M1 := Lib.hid m1
  clear n1 q1 m1
  cases hB : isAt L j [45, 62] with
  | true =>
    rw [hB, if_pos rfl] at h2
    obtain ⟨y, k2, h3, h4⟩ := bnd_some h2
    obtain ⟨h5, rfl⟩ := ok1_some h4
    have H3 := Lib.hid h3
    have H5 := Lib.hid h5
    have HT2 := Lib.hid (take_ok (s := [45, 62]) rfl hB Q1.out)
    go_wp2_with fail
    refine HT2.out.mono ?_
    rintro e w2 ⟨rfl, q2, m2⟩
    have Q2 := Lib.hid q2
    have M2 := Lib.hid (M1.out.trans m2)
    have N2 := Lib.hid (N1.out.mv Q1.out.blk m2)
    clear q2 m2 h2 h3 h4 h5 hB HT2
    have HC3 := Lib.hid (HR.out o (j + 1) y k2 b w2 H3.out Q2.out)
    go_wp2_with fail
    refine HC3.out.mono ?_
    rintro e w3 ⟨v3, rfl, n3, q3, m3⟩
    obtain ⟨A3, c3, rfl, y3, -⟩ := n3.form
    unfold maxLen at y3
    have N3 := Lib.hid n3
    have Q3 := Lib.hid q3
    have M3 := Lib.hid (M2.out.trans m3)
    have N23 := Lib.hid (N2.out.mv Q2.out.blk m3)
    clear n3 q3 m3
    have HJ := Lib.hid (join_ok Q3.out N23.out N3.out H5.out)
    go_wp2_with fail
    refine HJ.out.mono ?_
    rintro e w4 ⟨v4, rfl, n4, b4⟩
    obtain ⟨A4, c4, rfl, -⟩ := n4.form
    have N4 := Lib.hid n4
    have Q4 := Lib.hid (Q3.out.below b4)
    have M4 := Lib.hid (M3.out.trans (Mv.of b4))
    clear n4 b4
    go_wp2
    go_ret
    exact ⟨_, rfl, N4.out, Q4.out, M4.out⟩
  | false =>
    rw [hB, if_neg (by simp)] at h2
    injection h2 with h2
    simp only [Prod.mk.injEq, List.cons.injEq, and_true] at h2
    obtain ⟨rfl, rfl⟩ := h2
    have HT2 := Lib.hid (take_ok (s := [45, 62]) rfl hB Q1.out)
    go_wp2_with fail
    refine HT2.out.mono ?_
    rintro e w2 ⟨rfl, q2, m2⟩
    have Q2 := Lib.hid q2
    have M2 := Lib.hid (M1.out.trans m2)
    have N2 := Lib.hid (N1.out.mv Q1.out.blk m2)
    clear q2 m2 hB HT2
    go_wp2
    go_ret
    exact ⟨_, rfl, N2.out, Q2.out, M2.out⟩
set_option maxRecDepth 100000 in
set_option maxHeartbeats 1600000 in
theorem imp_ok {f : Nat} (hs : C1 104 L lv f .since) (hr : C1 93 L lv f .imp) : C1 93 L lv (f + 1) .imp := by
  intro o i z k b w hrun hq
  simp only [run] at hrun
  obtain ⟨x, j, h1, h2⟩ := bnd_some hrun
  have HS := Lib.hid (hs o i x j b w h1 hq)
  have HR := Lib.hid hr
  clear hrun h1 hs hr hq
  go_enter Tryz.func93, Tryz.ntmps93
  go_wp2_with fail
  refine HS.out.mono ?_
  rintro e w1 ⟨v1, rfl, n1, q1, m1⟩
  obtain ⟨A1, c1, rfl, y1, -⟩ := n1.form
  unfold maxLen at y1
  have N1 := Lib.hid n1
  have Q1 := Lib.hid q1
  have M1 := Lib.hid m1
  clear n1 q1 m1
  cases hB : isAt L j [61, 62] with
  | true =>
    rw [hB, if_pos rfl] at h2
    obtain ⟨y, k2, h3, h4⟩ := bnd_some h2
    obtain ⟨h5, rfl⟩ := ok1_some h4
    have H3 := Lib.hid h3
    have H5 := Lib.hid h5
    have HT2 := Lib.hid (take_ok (s := [61, 62]) rfl hB Q1.out)
    go_wp2_with fail
    refine HT2.out.mono ?_
    rintro e w2 ⟨rfl, q2, m2⟩
    have Q2 := Lib.hid q2
    have M2 := Lib.hid (M1.out.trans m2)
    have N2 := Lib.hid (N1.out.mv Q1.out.blk m2)
    clear q2 m2 h2 h3 h4 h5 hB HT2
    have HC3 := Lib.hid (HR.out o (j + 1) y k2 b w2 H3.out Q2.out)
    go_wp2_with fail
    refine HC3.out.mono ?_
    rintro e w3 ⟨v3, rfl, n3, q3, m3⟩
    obtain ⟨A3, c3, rfl, y3, -⟩ := n3.form
    unfold maxLen at y3
    have N3 := Lib.hid n3
    have Q3 := Lib.hid q3
    have M3 := Lib.hid (M2.out.trans m3)
    have N23 := Lib.hid (N2.out.mv Q2.out.blk m3)
    clear n3 q3 m3
    have HJ := Lib.hid (join_ok Q3.out N23.out N3.out H5.out)
    go_wp2_with fail
    refine HJ.out.mono ?_
    rintro e w4 ⟨v4, rfl, n4, b4⟩
    obtain ⟨A4, c4, rfl, -⟩ := n4.form
    have N4 := Lib.hid n4
    have Q4 := Lib.hid (Q3.out.below b4)
    have M4 := Lib.hid (M3.out.trans (Mv.of b4))
    clear n4 b4
    go_wp2
    go_ret
    exact ⟨_, rfl, N4.out, Q4.out, M4.out⟩
  | false =>
    rw [hB, if_neg (by simp)] at h2
    injection h2 with h2
    simp only [Prod.mk.injEq, List.cons.injEq, and_true] at h2
    obtain ⟨rfl, rfl⟩ := h2
    have HT2 := Lib.hid (take_ok (s := [61, 62]) rfl hB Q1.out)
    go_wp2_with fail
    refine HT2.out.mono ?_
    rintro e w2 ⟨rfl, q2, m2⟩
    have Q2 := Lib.hid q2
    have M2 := Lib.hid (M1.out.trans m2)
    have N2 := Lib.hid (N1.out.mv Q1.out.blk m2)
    clear q2 m2 hB HT2
    go_wp2
    go_ret
    exact ⟨_, rfl, N2.out, Q2.out, M2.out⟩
end Go.Proofs.YtobkcdkffcenbaaGreatDoor.Lr

/- A lean reader of expressions: the levels of operators, more. Conditions: the contracts at less fuel. -/
namespace Go.Proofs.YtobkcdkffcenbaaGreatDoor.Lr
open Go.ChangeShapes Go.WideShapes Go.ChangeAt Go.RowKit
open Go.Proofs.YtobkcdkffcenbaaGreatDoor.Tr (str ret_bool ret_int Bytes Nd Nodes joinM roomM own_block own_below own_ne ndsOf)
variable {L : List Lx.Tok} {lv : Value}
set_option maxRecDepth 100000 in
set_option maxHeartbeats 1600000 in
theorem since_ok {f : Nat} (hs : ∀ g, g ≤ f → C1 109 L lv g .or) : C1 104 L lv (f + 1) .since := by
  intro o i z k b w hrun hq
  simp only [run] at hrun
  obtain ⟨x, j, h1, h2⟩ := bnd_some hrun
  have HS := Lib.hid (hs f (Nat.le_refl _) o i x j b w h1 hq)
  have HR := Lib.hid hs
  have H2 := Lib.hid h2
  clear hrun h1 hs hq h2
  go_enter Tryz.func104, Tryz.ntmps104
  go_wp2_with fail
  refine HS.out.mono ?_
  rintro e w1 ⟨v1, rfl, n1, q1, m1⟩
  obtain ⟨A1, c1, rfl, y1, -⟩ := n1.form
  unfold maxLen at y1
  have N1 := Lib.hid n1
  have Q1 := Lib.hid q1
  have M1 := Lib.hid m1
  clear n1 q1 m1
  go_wp2
  go_loopg [3] f (fun g s3 wr => ∃ (x' : List Nd) (v' : Value) (j' : Nat), g ≤ f ∧ v' = s3 ∧ NdW wr v' x' ∧ Rq wr b L lv j' o ∧ Mv w wr b ∧ run L g .sinceL [x'] o j' = some ([z], k))
  case atStart => exact ⟨x, _, j, Nat.le_refl _, rfl, N1.out, Q1.out, M1.out, H2.out⟩
  case round =>
    obtain ⟨x', v', j', hgf, rfl, n', q', m', hr⟩ := hrel
    cases gk with
    | zero => simp [run] at hr
    | succ gk =>
    simp only [run, List.headD_cons] at hr
    obtain ⟨A0, c0, rfl, y0, -⟩ := n'.form
    unfold maxLen at y0
    have N0 := Lib.hid n'
    have Q0 := Lib.hid q'
    have M0 := Lib.hid m'
    clear n' q' m'
    cases hB : isAt L j' [115, 105, 110, 99, 101] with
    | true =>
      rw [hB, if_pos rfl] at hr
      obtain ⟨y, k2, h3, h4⟩ := bnd_some hr
      obtain ⟨y2, k3, h5, h6⟩ := bnd_some h4
      obtain ⟨h7, rfl⟩ := ok1_some h5
      have H3 := Lib.hid h3
      have H6 := Lib.hid h6
      have H7 := Lib.hid h7
      have HT2 := Lib.hid (take_ok (s := [115, 105, 110, 99, 101]) rfl hB Q0.out)
      go_wp2_with fail
      refine HT2.out.mono ?_
      rintro e w2 ⟨rfl, q2, m2⟩
      have Q2 := Lib.hid q2
      have M2 := Lib.hid (M0.out.trans m2)
      have N2 := Lib.hid (N0.out.mv Q0.out.blk m2)
      clear q2 m2 hr h3 h4 h5 h6 h7 hB HT2
      have HC3 := Lib.hid (HR.out gk (by omega) o (j' + 1) y k2 b w2 H3.out Q2.out)
      go_wp2_with fail
      refine HC3.out.mono ?_
      rintro e w3 ⟨v3, rfl, n3, q3, m3⟩
      obtain ⟨A3, c3, rfl, y3, -⟩ := n3.form
      unfold maxLen at y3
      have N3 := Lib.hid n3
      have Q3 := Lib.hid q3
      have M3 := Lib.hid (M2.out.trans m3)
      have N23 := Lib.hid (N2.out.mv Q2.out.blk m3)
      clear n3 q3 m3
      have HJ := Lib.hid (join_ok (op := 20) Q3.out N23.out N3.out H7.out)
      go_wp2_with fail
      refine HJ.out.mono ?_
      rintro e w4 ⟨v4, rfl, n4, b4⟩
      obtain ⟨A4, c4, rfl, -⟩ := n4.form
      have N4 := Lib.hid n4
      have Q4 := Lib.hid (Q3.out.below b4)
      have M4 := Lib.hid (M3.out.trans (Mv.of b4))
      clear n4 b4
      go_wp2
      go_roundg gk
      case measure => omega
      case rel => exact ⟨y2, _, k2, by omega, rfl, N4.out, Q4.out, M4.out, H6.out⟩
    | false =>
      rw [hB, if_neg (by simp)] at hr
      injection hr with hr
      simp only [Prod.mk.injEq, List.cons.injEq, and_true] at hr
      obtain ⟨rfl, rfl⟩ := hr
      have HT2 := Lib.hid (take_ok (s := [115, 105, 110, 99, 101]) rfl hB Q0.out)
      go_wp2_with fail
      refine HT2.out.mono ?_
      rintro e w2 ⟨rfl, q2, m2⟩
      have Q2 := Lib.hid q2
      have M2 := Lib.hid (M0.out.trans m2)
      have N2 := Lib.hid (N0.out.mv Q0.out.blk m2)
      clear q2 m2 hB HT2
      go_wp2
      go_ret
      exact ⟨_, rfl, N2.out, Q2.out, M2.out⟩
set_option maxRecDepth 100000 in
set_option maxHeartbeats 1600000 in
theorem or_ok {f : Nat} (hs : C1 110 L lv f .and) : C1 109 L lv (f + 1) .or := by
  intro o i z k b w hrun hq
  simp only [run] at hrun
  obtain ⟨x, j, h1, h2⟩ := bnd_some hrun
  have HS := Lib.hid (hs o i x j b w h1 hq)
  clear hrun h1 hs hq
  cases hB : isAt L j [111, 114] with
  | true => rw [hB] at h2; simp at h2
  | false =>
  cases hC : isAt L j [120, 111, 114] with
  | true => rw [hB, hC] at h2; simp at h2
  | false =>
  rw [hB, hC] at h2
  simp only [Bool.or_self, Bool.false_eq_true, if_false, Option.some.injEq, Prod.mk.injEq, List.cons.injEq, and_true] at h2
  obtain ⟨rfl, rfl⟩ := h2
  go_enter Tryz.func109, Tryz.ntmps109
  go_wp2_with fail
  refine HS.out.mono ?_
  rintro e w1 ⟨v1, rfl, n1, q1, m1⟩
  obtain ⟨A1, c1, rfl, y1, -⟩ := n1.form
  unfold maxLen at y1
  have N1 := Lib.hid n1
  have Q1 := Lib.hid q1
  have M1 := Lib.hid m1
  clear n1 q1 m1
  go_wp2
  go_loopw [3] (fun s3 wr => s3 = .slice A1 x.length c1 ∧ wr = w1) (fun _ _ => 0)
  case atStart => exact ⟨rfl, rfl⟩
  case round =>
    obtain ⟨rfl, rfl⟩ := hrel
    have HI2 := Lib.hid (is_ok (s := [111, 114]) rfl hB Q1.out)
    go_wp2_with fail
    refine HI2.out.mono ?_
    rintro e w2 ⟨rfl, b2⟩
    have Q2 := Lib.hid (Q1.out.below b2)
    have N2 := Lib.hid (N1.out.below b2)
    have M2 := Lib.hid (M1.out.trans (Mv.of b2))
    clear b2 HI2
    have HI3 := Lib.hid (is_ok (s := [120, 111, 114]) rfl hC Q2.out)
    go_wp2_with fail
    refine HI3.out.mono ?_
    rintro e w3 ⟨rfl, b3⟩
    have Q3 := Lib.hid (Q2.out.below b3)
    have N3 := Lib.hid (N2.out.below b3)
    have M3 := Lib.hid (M2.out.trans (Mv.of b3))
    clear b3 HI3
    go_wp2
    go_ret
    exact ⟨_, rfl, N3.out, Q3.out, M3.out⟩
set_option maxRecDepth 100000 in
set_option maxHeartbeats 1600000 in
theorem and_ok {f : Nat} (hs : ∀ g, g ≤ f → C1 111 L lv g .cmp) : C1 110 L lv (f + 1) .and := by
  intro o i z k b w hrun hq
  simp only [run] at hrun
  obtain ⟨x, j, h1, h2⟩ := bnd_some hrun
  have HS := Lib.hid (hs f (Nat.le_refl _) o i x j b w h1 hq)
  have HR := Lib.hid hs
  have H2 := Lib.hid h2
  clear hrun h1 hs hq h2
  go_enter Tryz.func110, Tryz.ntmps110
  go_wp2_with fail
  refine HS.out.mono ?_
  rintro e w1 ⟨v1, rfl, n1, q1, m1⟩
  obtain ⟨A1, c1, rfl, y1, -⟩ := n1.form
  unfold maxLen at y1
  have N1 := Lib.hid n1
  have Q1 := Lib.hid q1
  have M1 := Lib.hid m1
  clear n1 q1 m1
  go_wp2
  go_loopg [3] f (fun g s3 wr => ∃ (x' : List Nd) (v' : Value) (j' : Nat), g ≤ f ∧ v' = s3 ∧ NdW wr v' x' ∧ Rq wr b L lv j' o ∧ Mv w wr b ∧ run L g .andL [x'] o j' = some ([z], k))
  case atStart => exact ⟨x, _, j, Nat.le_refl _, rfl, N1.out, Q1.out, M1.out, H2.out⟩
  case round =>
    obtain ⟨x', v', j', hgf, rfl, n', q', m', hr⟩ := hrel
    cases gk with
    | zero => simp [run] at hr
    | succ gk =>
    simp only [run, List.headD_cons] at hr
    obtain ⟨A0, c0, rfl, y0, -⟩ := n'.form
    unfold maxLen at y0
    have N0 := Lib.hid n'
    have Q0 := Lib.hid q'
    have M0 := Lib.hid m'
    clear n' q' m'
    cases hB : isAt L j' [97, 110, 100] with
    | true =>
      rw [hB, if_pos rfl] at hr
      obtain ⟨y, k2, h3, h4⟩ := bnd_some hr
      obtain ⟨y2, k3, h5, h6⟩ := bnd_some h4
      obtain ⟨h7, rfl⟩ := ok1_some h5
      have H3 := Lib.hid h3
      have H6 := Lib.hid h6
      have H7 := Lib.hid h7
      have HT2 := Lib.hid (take_ok (s := [97, 110, 100]) rfl hB Q0.out)
      go_wp2_with fail
      refine HT2.out.mono ?_
      rintro e w2 ⟨rfl, q2, m2⟩
      have Q2 := Lib.hid q2
      have M2 := Lib.hid (M0.out.trans m2)
      have N2 := Lib.hid (N0.out.mv Q0.out.blk m2)
      clear q2 m2 hr h3 h4 h5 h6 h7 hB HT2
      have HC3 := Lib.hid (HR.out gk (by omega) o (j' + 1) y k2 b w2 H3.out Q2.out)
      go_wp2_with fail
      refine HC3.out.mono ?_
      rintro e w3 ⟨v3, rfl, n3, q3, m3⟩
      obtain ⟨A3, c3, rfl, y3, -⟩ := n3.form
      unfold maxLen at y3
      have N3 := Lib.hid n3
      have Q3 := Lib.hid q3
      have M3 := Lib.hid (M2.out.trans m3)
      have N23 := Lib.hid (N2.out.mv Q2.out.blk m3)
      clear n3 q3 m3
      have HJ := Lib.hid (join_ok (op := 6) Q3.out N23.out N3.out H7.out)
      go_wp2_with fail
      refine HJ.out.mono ?_
      rintro e w4 ⟨v4, rfl, n4, b4⟩
      obtain ⟨A4, c4, rfl, -⟩ := n4.form
      have N4 := Lib.hid n4
      have Q4 := Lib.hid (Q3.out.below b4)
      have M4 := Lib.hid (M3.out.trans (Mv.of b4))
      clear n4 b4
      go_wp2
      go_roundg gk
      case measure => omega
      case rel => exact ⟨y2, _, k2, by omega, rfl, N4.out, Q4.out, M4.out, H6.out⟩
    | false =>
      rw [hB, if_neg (by simp)] at hr
      injection hr with hr
      simp only [Prod.mk.injEq, List.cons.injEq, and_true] at hr
      obtain ⟨rfl, rfl⟩ := hr
      have HT2 := Lib.hid (take_ok (s := [97, 110, 100]) rfl hB Q0.out)
      go_wp2_with fail
      refine HT2.out.mono ?_
      rintro e w2 ⟨rfl, q2, m2⟩
      have Q2 := Lib.hid q2
      have M2 := Lib.hid (M0.out.trans m2)
      have N2 := Lib.hid (N0.out.mv Q0.out.blk m2)
      clear q2 m2 hB HT2
      go_wp2
      go_ret
      exact ⟨_, rfl, N2.out, Q2.out, M2.out⟩
set_option maxRecDepth 100000 in
set_option maxHeartbeats 1600000 in
theorem cmp_ok {f : Nat} (hs : C1 112 L lv f .sum) : C1 111 L lv (f + 1) .cmp := by
  intro o i z k b w hrun hq
  simp only [run] at hrun
  obtain ⟨x, j, h1, h2⟩ := bnd_some hrun
  have HS := Lib.hid (hs o i x j b w h1 hq)
  have HR := Lib.hid hs
  clear hrun h1 hs hq
  go_enter Tryz.func111, Tryz.ntmps111
  go_wp2_with fail
  refine HS.out.mono ?_
  rintro e w1 ⟨v1, rfl, n1, q1, m1⟩
  obtain ⟨A1, c1, rfl, y1, -⟩ := n1.form
  unfold maxLen at y1
  have N1 := Lib.hid n1
  have Q1 := Lib.hid q1
  have M1 := Lib.hid m1
  clear n1 q1 m1
  cases hB0 : isAt L j [61] with
  | true =>
    simp [hB0] at h2
  | false =>
  cases hB1 : isAt L j [60, 62] with
  | true =>
    simp [hB0, hB1] at h2
  | false =>
  cases hB2 : isAt L j [60] with
  | true =>
    simp only [hB0, hB1, hB2, Bool.or_self, Bool.false_eq_true, if_false, if_true] at h2
    obtain ⟨y, k2, h3, h4⟩ := bnd_some h2
    obtain ⟨h7, rfl⟩ := ok1_some h4
    have H3 := Lib.hid h3
    have H7 := Lib.hid h7
    clear h2 h3 h4 h7
    have HT2 := Lib.hid (take_ok (s := [61]) rfl hB0 Q1.out)
    go_wp2_with fail
    refine HT2.out.mono ?_
    rintro e w2 ⟨rfl, q2, m2⟩
    have Qa2 := Lib.hid q2
    have Na2 := Lib.hid (N1.out.mv Q1.out.blk m2)
    have Ma2 := Lib.hid (M1.out.trans m2)
    clear q2 m2 HT2
    have HT3 := Lib.hid (take_ok (s := [60, 62]) rfl hB1 Qa2.out)
    go_wp2_with fail
    refine HT3.out.mono ?_
    rintro e w3 ⟨rfl, q3, m3⟩
    have Qa3 := Lib.hid q3
    have Na3 := Lib.hid (Na2.out.mv Qa2.out.blk m3)
    have Ma3 := Lib.hid (Ma2.out.trans m3)
    clear q3 m3 HT3
    have HT4 := Lib.hid (take_ok (s := [60]) rfl hB2 Qa3.out)
    go_wp2_with fail
    refine HT4.out.mono ?_
    rintro e w4 ⟨rfl, q4, m4⟩
    have Qa4 := Lib.hid q4
    have Na4 := Lib.hid (Na3.out.mv Qa3.out.blk m4)
    have Ma4 := Lib.hid (Ma3.out.trans m4)
    clear q4 m4 HT4
    have HC3 := Lib.hid (HR.out o (j + 1) y k2 b _ H3.out Qa4.out)
    go_wp2_with fail
    refine HC3.out.mono ?_
    rintro e w30 ⟨v30, rfl, n30, q30, m30⟩
    obtain ⟨A30, c30, rfl, y30, -⟩ := n30.form
    unfold maxLen at y30
    have N30 := Lib.hid n30
    have Q30 := Lib.hid q30
    have M30 := Lib.hid (Ma4.out.trans m30)
    have N23 := Lib.hid (Na4.out.mv Qa4.out.blk m30)
    clear n30 q30 m30
    have HJ := Lib.hid (join_ok (op := 12) Q30.out N23.out N30.out H7.out)
    go_wp2_with fail
    refine HJ.out.mono ?_
    rintro e w4 ⟨v4, rfl, n4, b4⟩
    obtain ⟨A4, c4, rfl, -⟩ := n4.form
    have N4 := Lib.hid n4
    have Q4 := Lib.hid (Q30.out.below b4)
    have M4 := Lib.hid (M30.out.trans (Mv.of b4))
    clear n4 b4
    go_wp2
    go_ret
    exact ⟨_, rfl, N4.out, Q4.out, M4.out⟩
  | false =>
  cases hB3 : isAt L j [60, 61] with
  | true =>
    simp [hB0, hB1, hB2, hB3] at h2
  | false =>
  cases hB4 : isAt L j [62] with
  | true =>
    simp only [hB0, hB1, hB2, hB3, hB4, Bool.or_self, Bool.false_eq_true, if_false, if_true] at h2
    obtain ⟨y, k2, h3, h4⟩ := bnd_some h2
    obtain ⟨h7, rfl⟩ := ok1_some h4
    have H3 := Lib.hid h3
    have H7 := Lib.hid h7
    clear h2 h3 h4 h7
    have HT2 := Lib.hid (take_ok (s := [61]) rfl hB0 Q1.out)
    go_wp2_with fail
    refine HT2.out.mono ?_
    rintro e w2 ⟨rfl, q2, m2⟩
    have Qa2 := Lib.hid q2
    have Na2 := Lib.hid (N1.out.mv Q1.out.blk m2)
    have Ma2 := Lib.hid (M1.out.trans m2)
    clear q2 m2 HT2
    have HT3 := Lib.hid (take_ok (s := [60, 62]) rfl hB1 Qa2.out)
    go_wp2_with fail
    refine HT3.out.mono ?_
    rintro e w3 ⟨rfl, q3, m3⟩
    have Qa3 := Lib.hid q3
    have Na3 := Lib.hid (Na2.out.mv Qa2.out.blk m3)
    have Ma3 := Lib.hid (Ma2.out.trans m3)
    clear q3 m3 HT3
    have HT4 := Lib.hid (take_ok (s := [60]) rfl hB2 Qa3.out)
    go_wp2_with fail
    refine HT4.out.mono ?_
    rintro e w4 ⟨rfl, q4, m4⟩
    have Qa4 := Lib.hid q4
    have Na4 := Lib.hid (Na3.out.mv Qa3.out.blk m4)
    have Ma4 := Lib.hid (Ma3.out.trans m4)
    clear q4 m4 HT4
    have HT5 := Lib.hid (take_ok (s := [60, 61]) rfl hB3 Qa4.out)
    go_wp2_with fail
    refine HT5.out.mono ?_
    rintro e w5 ⟨rfl, q5, m5⟩
    have Qa5 := Lib.hid q5
    have Na5 := Lib.hid (Na4.out.mv Qa4.out.blk m5)
    have Ma5 := Lib.hid (Ma4.out.trans m5)
    clear q5 m5 HT5
    have HT6 := Lib.hid (take_ok (s := [62]) rfl hB4 Qa5.out)
    go_wp2_with fail
    refine HT6.out.mono ?_
    rintro e w6 ⟨rfl, q6, m6⟩
    have Qa6 := Lib.hid q6
    have Na6 := Lib.hid (Na5.out.mv Qa5.out.blk m6)
    have Ma6 := Lib.hid (Ma5.out.trans m6)
    clear q6 m6 HT6
    have HC3 := Lib.hid (HR.out o (j + 1) y k2 b _ H3.out Qa6.out)
    go_wp2_with fail
    refine HC3.out.mono ?_
    rintro e w30 ⟨v30, rfl, n30, q30, m30⟩
    obtain ⟨A30, c30, rfl, y30, -⟩ := n30.form
    unfold maxLen at y30
    have N30 := Lib.hid n30
    have Q30 := Lib.hid q30
    have M30 := Lib.hid (Ma6.out.trans m30)
    have N23 := Lib.hid (Na6.out.mv Qa6.out.blk m30)
    clear n30 q30 m30
    have HJ := Lib.hid (join_ok (op := 12) Q30.out N30.out N23.out H7.out)
    go_wp2_with fail
    refine HJ.out.mono ?_
    rintro e w4 ⟨v4, rfl, n4, b4⟩
    obtain ⟨A4, c4, rfl, -⟩ := n4.form
    have N4 := Lib.hid n4
    have Q4 := Lib.hid (Q30.out.below b4)
    have M4 := Lib.hid (M30.out.trans (Mv.of b4))
    clear n4 b4
    go_wp2
    go_ret
    exact ⟨_, rfl, N4.out, Q4.out, M4.out⟩
  | false =>
  cases hB5 : isAt L j [62, 61] with
  | true =>
    simp [hB0, hB1, hB2, hB3, hB4, hB5] at h2
  | false =>
  simp only [hB0, hB1, hB2, hB3, hB4, hB5, Bool.or_self, Bool.false_eq_true, if_false, Option.some.injEq, Prod.mk.injEq, List.cons.injEq, and_true] at h2
  obtain ⟨rfl, rfl⟩ := h2
  have HT2 := Lib.hid (take_ok (s := [61]) rfl hB0 Q1.out)
  go_wp2_with fail
  refine HT2.out.mono ?_
  rintro e w2 ⟨rfl, q2, m2⟩
  have Qa2 := Lib.hid q2
  have Na2 := Lib.hid (N1.out.mv Q1.out.blk m2)
  have Ma2 := Lib.hid (M1.out.trans m2)
  clear q2 m2 HT2
  have HT3 := Lib.hid (take_ok (s := [60, 62]) rfl hB1 Qa2.out)
  go_wp2_with fail
  refine HT3.out.mono ?_
  rintro e w3 ⟨rfl, q3, m3⟩
  have Qa3 := Lib.hid q3
  have Na3 := Lib.hid (Na2.out.mv Qa2.out.blk m3)
  have Ma3 := Lib.hid (Ma2.out.trans m3)
  clear q3 m3 HT3
  have HT4 := Lib.hid (take_ok (s := [60]) rfl hB2 Qa3.out)
  go_wp2_with fail
  refine HT4.out.mono ?_
  rintro e w4 ⟨rfl, q4, m4⟩
  have Qa4 := Lib.hid q4
  have Na4 := Lib.hid (Na3.out.mv Qa3.out.blk m4)
  have Ma4 := Lib.hid (Ma3.out.trans m4)
  clear q4 m4 HT4
  have HT5 := Lib.hid (take_ok (s := [60, 61]) rfl hB3 Qa4.out)
  go_wp2_with fail
  refine HT5.out.mono ?_
  rintro e w5 ⟨rfl, q5, m5⟩
  have Qa5 := Lib.hid q5
  have Na5 := Lib.hid (Na4.out.mv Qa4.out.blk m5)
  have Ma5 := Lib.hid (Ma4.out.trans m5)
  clear q5 m5 HT5
  have HT6 := Lib.hid (take_ok (s := [62]) rfl hB4 Qa5.out)
  go_wp2_with fail
  refine HT6.out.mono ?_
  rintro e w6 ⟨rfl, q6, m6⟩
  have Qa6 := Lib.hid q6
  have Na6 := Lib.hid (Na5.out.mv Qa5.out.blk m6)
  have Ma6 := Lib.hid (Ma5.out.trans m6)
  clear q6 m6 HT6
  have HT7 := Lib.hid (take_ok (s := [62, 61]) rfl hB5 Qa6.out)
  go_wp2_with fail
  refine HT7.out.mono ?_
  rintro e w7 ⟨rfl, q7, m7⟩
  have Qa7 := Lib.hid q7
  have Na7 := Lib.hid (Na6.out.mv Qa6.out.blk m7)
  have Ma7 := Lib.hid (Ma6.out.trans m7)
  clear q7 m7 HT7
  go_wp2
  go_ret
  exact ⟨_, rfl, Na7.out, Qa7.out, Ma7.out⟩
set_option maxRecDepth 100000 in
set_option maxHeartbeats 1600000 in
theorem sum_ok {f : Nat} (hs : ∀ g, g ≤ f → C1 113 L lv g .prod) : C1 112 L lv (f + 1) .sum := by
  intro o i z k b w hrun hq
  simp only [run] at hrun
  obtain ⟨x, j, h1, h2⟩ := bnd_some hrun
  have HS := Lib.hid (hs f (Nat.le_refl _) o i x j b w h1 hq)
  have HR := Lib.hid hs
  have H2 := Lib.hid h2
  clear hrun h1 hs hq h2
  go_enter Tryz.func112, Tryz.ntmps112
  go_wp2_with fail
  refine HS.out.mono ?_
  rintro e w1 ⟨v1, rfl, n1, q1, m1⟩
  obtain ⟨A1, c1, rfl, y1, -⟩ := n1.form
  unfold maxLen at y1
  have N1 := Lib.hid n1
  have Q1 := Lib.hid q1
  have M1 := Lib.hid m1
  clear n1 q1 m1
  go_wp2
  go_loopg [3] f (fun g s3 wr => ∃ (x' : List Nd) (v' : Value) (j' : Nat), g ≤ f ∧ v' = s3 ∧ NdW wr v' x' ∧ Rq wr b L lv j' o ∧ Mv w wr b ∧ run L g .sumL [x'] o j' = some ([z], k))
  case atStart => exact ⟨x, _, j, Nat.le_refl _, rfl, N1.out, Q1.out, M1.out, H2.out⟩
  case round =>
    obtain ⟨x', v', j', hgf, rfl, n', q', m', hr⟩ := hrel
    cases gk with
    | zero => simp [run] at hr
    | succ gk =>
    simp only [run, List.headD_cons] at hr
    obtain ⟨A0, c0, rfl, y0, -⟩ := n'.form
    unfold maxLen at y0
    have N0 := Lib.hid n'
    have Q0 := Lib.hid q'
    have M0 := Lib.hid m'
    clear n' q' m'
    cases hB0 : isAt L j' [43] with
    | true =>
      have hB1 := isAt_ne (u := [45]) hB0 (by decide)
      rw [hB0] at hr
      simp only [Bool.false_eq_true, if_false, if_true] at hr
      obtain ⟨y, k2, h3, h4⟩ := bnd_some hr
      obtain ⟨y2, k3, h5, h6⟩ := bnd_some h4
      obtain ⟨h7, rfl⟩ := ok1_some h5
      have H3 := Lib.hid h3
      have H6 := Lib.hid h6
      have H7 := Lib.hid h7
      have hil := isAt_lt hB0
      clear hr h3 h4 h5 h6 h7
      have HI2 := Lib.hid (is_ok (s := [43]) rfl hB0 Q0.out)
      go_wp2_with fail
      refine HI2.out.mono ?_
      rintro e w2 ⟨rfl, b2⟩
      have Qa2 := Lib.hid (Q0.out.below b2)
      have Na2 := Lib.hid (N0.out.below b2)
      have Ma2 := Lib.hid (M0.out.trans (Mv.of b2))
      clear b2 HI2
      have HI3 := Lib.hid (is_ok (s := [45]) rfl hB1 Qa2.out)
      go_wp2_with fail
      refine HI3.out.mono ?_
      rintro e w3 ⟨rfl, b3⟩
      have Qa3 := Lib.hid (Qa2.out.below b3)
      have Na3 := Lib.hid (Na2.out.below b3)
      have Ma3 := Lib.hid (Ma2.out.trans (Mv.of b3))
      clear b3 HI3
      obtain ⟨-, d1, -, -, -, fz⟩ := Qa3.out.cells
      have f1 := fz 1
      have hlen := Qa3.out.len
      have Q20 := Lib.hid (Qa3.out.setI hil)
      have N20 := Lib.hid (Na3.out.mv Qa3.out.blk (mv_set w3 b 1 (.int .i64 ((j' : Int) + 1))))
      have M20 := Lib.hid (Ma3.out.trans (mv_set w3 b 1 (.int .i64 ((j' : Int) + 1))))
      have HC3 := Lib.hid (HR.out gk (by omega) o (j' + 1) y k2 b _ H3.out Q20.out)
      clear fz
      go_wp2_with fail
      refine HC3.out.mono ?_
      rintro e wc ⟨v30, rfl, n30, q30, m30⟩
      obtain ⟨A30, c30, rfl, y30, -⟩ := n30.form
      unfold maxLen at y30
      have N30 := Lib.hid n30
      have Q30 := Lib.hid q30
      have M30 := Lib.hid (M20.out.trans m30)
      have N23 := Lib.hid (N20.out.mv Q20.out.blk m30)
      clear n30 q30 m30
      have HJ := Lib.hid (join_ok (op := 14) Q30.out N23.out N30.out H7.out)
      go_wp2_with fail
      refine HJ.out.mono ?_
      rintro e w4 ⟨v4, rfl, n4, b4⟩
      obtain ⟨A4, c4, rfl, -⟩ := n4.form
      have N4 := Lib.hid n4
      have Q4 := Lib.hid (Q30.out.below b4)
      have M4 := Lib.hid (M30.out.trans (Mv.of b4))
      clear n4 b4
      go_wp2
      go_roundg gk
      case measure => omega
      case rel => exact ⟨y2, _, k2, by omega, rfl, N4.out, Q4.out, M4.out, H6.out⟩
    | false =>
    cases hB1 : isAt L j' [45] with
    | true =>
      rw [hB0, hB1] at hr
      simp at hr
    | false =>
    rw [hB0, hB1] at hr
    simp only [Bool.false_eq_true, if_false, Option.some.injEq, Prod.mk.injEq, List.cons.injEq, and_true] at hr
    obtain ⟨rfl, rfl⟩ := hr
    have HI2 := Lib.hid (is_ok (s := [43]) rfl hB0 Q0.out)
    go_wp2_with fail
    refine HI2.out.mono ?_
    rintro e w2 ⟨rfl, b2⟩
    have Qa2 := Lib.hid (Q0.out.below b2)
    have Na2 := Lib.hid (N0.out.below b2)
    have Ma2 := Lib.hid (M0.out.trans (Mv.of b2))
    clear b2 HI2
    have HI3 := Lib.hid (is_ok (s := [45]) rfl hB1 Qa2.out)
    go_wp2_with fail
    refine HI3.out.mono ?_
    rintro e w3 ⟨rfl, b3⟩
    have Qa3 := Lib.hid (Qa2.out.below b3)
    have Na3 := Lib.hid (Na2.out.below b3)
    have Ma3 := Lib.hid (Ma2.out.trans (Mv.of b3))
    clear b3 HI3
    go_wp2
    go_ret
    exact ⟨_, rfl, Na3.out, Qa3.out, Ma3.out⟩
set_option maxRecDepth 100000 in
set_option maxHeartbeats 1600000 in
theorem prod_ok {f : Nat} (hs : ∀ g, g ≤ f → C1 114 L lv g .oper) : C1 113 L lv (f + 1) .prod := by
  intro o i z k b w hrun hq
  simp only [run] at hrun
  obtain ⟨x, j, h1, h2⟩ := bnd_some hrun
  have HS := Lib.hid (hs f (Nat.le_refl _) o i x j b w h1 hq)
  have HR := Lib.hid hs
  have H2 := Lib.hid h2
  clear hrun h1 hs hq h2
  go_enter Tryz.func113, Tryz.ntmps113
  go_wp2_with fail
  refine HS.out.mono ?_
  rintro e w1 ⟨v1, rfl, n1, q1, m1⟩
  obtain ⟨A1, c1, rfl, y1, -⟩ := n1.form
  unfold maxLen at y1
  have N1 := Lib.hid n1
  have Q1 := Lib.hid q1
  have M1 := Lib.hid m1
  clear n1 q1 m1
  go_wp2
  go_loopg [3] f (fun g s3 wr => ∃ (x' : List Nd) (v' : Value) (j' : Nat), g ≤ f ∧ v' = s3 ∧ NdW wr v' x' ∧ Rq wr b L lv j' o ∧ Mv w wr b ∧ run L g .prodL [x'] o j' = some ([z], k))
  case atStart => exact ⟨x, _, j, Nat.le_refl _, rfl, N1.out, Q1.out, M1.out, H2.out⟩
  case round =>
    obtain ⟨x', v', j', hgf, rfl, n', q', m', hr⟩ := hrel
    cases gk with
    | zero => simp [run] at hr
    | succ gk =>
    simp only [run, List.headD_cons] at hr
    obtain ⟨A0, c0, rfl, y0, -⟩ := n'.form
    unfold maxLen at y0
    have N0 := Lib.hid n'
    have Q0 := Lib.hid q'
    have M0 := Lib.hid m'
    clear n' q' m'
    cases hB0 : isAt L j' [42] with
    | true =>
      have hB1 := isAt_ne (u := [100, 105, 118]) hB0 (by decide)
      have hB2 := isAt_ne (u := [109, 111, 100]) hB0 (by decide)
      rw [hB0] at hr
      simp only [Bool.false_eq_true, if_false, if_true] at hr
      obtain ⟨y, k2, h3, h4⟩ := bnd_some hr
      obtain ⟨y2, k3, h5, h6⟩ := bnd_some h4
      obtain ⟨h7, rfl⟩ := ok1_some h5
      have H3 := Lib.hid h3
      have H6 := Lib.hid h6
      have H7 := Lib.hid h7
      have hil := isAt_lt hB0
      clear hr h3 h4 h5 h6 h7
      have HI2 := Lib.hid (is_ok (s := [42]) rfl hB0 Q0.out)
      go_wp2_with fail
      refine HI2.out.mono ?_
      rintro e w2 ⟨rfl, b2⟩
      have Qa2 := Lib.hid (Q0.out.below b2)
      have Na2 := Lib.hid (N0.out.below b2)
      have Ma2 := Lib.hid (M0.out.trans (Mv.of b2))
      clear b2 HI2
      have HI3 := Lib.hid (is_ok (s := [100, 105, 118]) rfl hB1 Qa2.out)
      go_wp2_with fail
      refine HI3.out.mono ?_
      rintro e w3 ⟨rfl, b3⟩
      have Qa3 := Lib.hid (Qa2.out.below b3)
      have Na3 := Lib.hid (Na2.out.below b3)
      have Ma3 := Lib.hid (Ma2.out.trans (Mv.of b3))
      clear b3 HI3
      have HI4 := Lib.hid (is_ok (s := [109, 111, 100]) rfl hB2 Qa3.out)
      go_wp2_with fail
      refine HI4.out.mono ?_
      rintro e w4 ⟨rfl, b4⟩
      have Qa4 := Lib.hid (Qa3.out.below b4)
      have Na4 := Lib.hid (Na3.out.below b4)
      have Ma4 := Lib.hid (Ma3.out.trans (Mv.of b4))
      clear b4 HI4
      obtain ⟨-, d1, -, -, -, fz⟩ := Qa4.out.cells
      have f1 := fz 1
      have hlen := Qa4.out.len
      have Q20 := Lib.hid (Qa4.out.setI hil)
      have N20 := Lib.hid (Na4.out.mv Qa4.out.blk (mv_set w4 b 1 (.int .i64 ((j' : Int) + 1))))
      have M20 := Lib.hid (Ma4.out.trans (mv_set w4 b 1 (.int .i64 ((j' : Int) + 1))))
      have HC3 := Lib.hid (HR.out gk (by omega) o (j' + 1) y k2 b _ H3.out Q20.out)
      clear fz
      go_wp2_with fail
      refine HC3.out.mono ?_
      rintro e wc ⟨v30, rfl, n30, q30, m30⟩
      obtain ⟨A30, c30, rfl, y30, -⟩ := n30.form
      unfold maxLen at y30
      have N30 := Lib.hid n30
      have Q30 := Lib.hid q30
      have M30 := Lib.hid (M20.out.trans m30)
      have N23 := Lib.hid (N20.out.mv Q20.out.blk m30)
      clear n30 q30 m30
      have HJ := Lib.hid (join_ok (op := 16) Q30.out N23.out N30.out H7.out)
      go_wp2_with fail
      refine HJ.out.mono ?_
      rintro e w4 ⟨v4, rfl, n4, b4⟩
      obtain ⟨A4, c4, rfl, -⟩ := n4.form
      have N4 := Lib.hid n4
      have Q4 := Lib.hid (Q30.out.below b4)
      have M4 := Lib.hid (M30.out.trans (Mv.of b4))
      clear n4 b4
      go_wp2
      go_roundg gk
      case measure => omega
      case rel => exact ⟨y2, _, k2, by omega, rfl, N4.out, Q4.out, M4.out, H6.out⟩
    | false =>
    cases hB1 : isAt L j' [100, 105, 118] with
    | true =>
      have hB2 := isAt_ne (u := [109, 111, 100]) hB1 (by decide)
      rw [hB0, hB1] at hr
      simp only [Bool.false_eq_true, if_false, if_true] at hr
      obtain ⟨y, k2, h3, h4⟩ := bnd_some hr
      obtain ⟨y2, k3, h5, h6⟩ := bnd_some h4
      obtain ⟨h7, rfl⟩ := ok1_some h5
      have H3 := Lib.hid h3
      have H6 := Lib.hid h6
      have H7 := Lib.hid h7
      have hil := isAt_lt hB1
      clear hr h3 h4 h5 h6 h7
      have HI2 := Lib.hid (is_ok (s := [42]) rfl hB0 Q0.out)
      go_wp2_with fail
      refine HI2.out.mono ?_
      rintro e w2 ⟨rfl, b2⟩
      have Qa2 := Lib.hid (Q0.out.below b2)
      have Na2 := Lib.hid (N0.out.below b2)
      have Ma2 := Lib.hid (M0.out.trans (Mv.of b2))
      clear b2 HI2
      have HI3 := Lib.hid (is_ok (s := [100, 105, 118]) rfl hB1 Qa2.out)
      go_wp2_with fail
      refine HI3.out.mono ?_
      rintro e w3 ⟨rfl, b3⟩
      have Qa3 := Lib.hid (Qa2.out.below b3)
      have Na3 := Lib.hid (Na2.out.below b3)
      have Ma3 := Lib.hid (Ma2.out.trans (Mv.of b3))
      clear b3 HI3
      have HI4 := Lib.hid (is_ok (s := [100, 105, 118]) rfl hB1 Qa3.out)
      go_wp2_with fail
      refine HI4.out.mono ?_
      rintro e w4 ⟨rfl, b4⟩
      have Qa4 := Lib.hid (Qa3.out.below b4)
      have Na4 := Lib.hid (Na3.out.below b4)
      have Ma4 := Lib.hid (Ma3.out.trans (Mv.of b4))
      clear b4 HI4
      have HI5 := Lib.hid (is_ok (s := [109, 111, 100]) rfl hB2 Qa4.out)
      go_wp2_with fail
      refine HI5.out.mono ?_
      rintro e w5 ⟨rfl, b5⟩
      have Qa5 := Lib.hid (Qa4.out.below b5)
      have Na5 := Lib.hid (Na4.out.below b5)
      have Ma5 := Lib.hid (Ma4.out.trans (Mv.of b5))
      clear b5 HI5
      obtain ⟨-, d1, -, -, -, fz⟩ := Qa5.out.cells
      have f1 := fz 1
      have hlen := Qa5.out.len
      have Q20 := Lib.hid (Qa5.out.setI hil)
      have N20 := Lib.hid (Na5.out.mv Qa5.out.blk (mv_set w5 b 1 (.int .i64 ((j' : Int) + 1))))
      have M20 := Lib.hid (Ma5.out.trans (mv_set w5 b 1 (.int .i64 ((j' : Int) + 1))))
      have HC3 := Lib.hid (HR.out gk (by omega) o (j' + 1) y k2 b _ H3.out Q20.out)
      clear fz
      go_wp2_with fail
      refine HC3.out.mono ?_
      rintro e wc ⟨v30, rfl, n30, q30, m30⟩
      obtain ⟨A30, c30, rfl, y30, -⟩ := n30.form
      unfold maxLen at y30
      have N30 := Lib.hid n30
      have Q30 := Lib.hid q30
      have M30 := Lib.hid (M20.out.trans m30)
      have N23 := Lib.hid (N20.out.mv Q20.out.blk m30)
      clear n30 q30 m30
      have HJ := Lib.hid (join_ok (op := 17) Q30.out N23.out N30.out H7.out)
      go_wp2_with fail
      refine HJ.out.mono ?_
      rintro e w4 ⟨v4, rfl, n4, b4⟩
      obtain ⟨A4, c4, rfl, -⟩ := n4.form
      have N4 := Lib.hid n4
      have Q4 := Lib.hid (Q30.out.below b4)
      have M4 := Lib.hid (M30.out.trans (Mv.of b4))
      clear n4 b4
      go_wp2
      go_roundg gk
      case measure => omega
      case rel => exact ⟨y2, _, k2, by omega, rfl, N4.out, Q4.out, M4.out, H6.out⟩
    | false =>
    cases hB2 : isAt L j' [109, 111, 100] with
    | true =>
      rw [hB0, hB1, hB2] at hr
      simp at hr
    | false =>
    rw [hB0, hB1, hB2] at hr
    simp only [Bool.false_eq_true, if_false, Option.some.injEq, Prod.mk.injEq, List.cons.injEq, and_true] at hr
    obtain ⟨rfl, rfl⟩ := hr
    have HI2 := Lib.hid (is_ok (s := [42]) rfl hB0 Q0.out)
    go_wp2_with fail
    refine HI2.out.mono ?_
    rintro e w2 ⟨rfl, b2⟩
    have Qa2 := Lib.hid (Q0.out.below b2)
    have Na2 := Lib.hid (N0.out.below b2)
    have Ma2 := Lib.hid (M0.out.trans (Mv.of b2))
    clear b2 HI2
    have HI3 := Lib.hid (is_ok (s := [100, 105, 118]) rfl hB1 Qa2.out)
    go_wp2_with fail
    refine HI3.out.mono ?_
    rintro e w3 ⟨rfl, b3⟩
    have Qa3 := Lib.hid (Qa2.out.below b3)
    have Na3 := Lib.hid (Na2.out.below b3)
    have Ma3 := Lib.hid (Ma2.out.trans (Mv.of b3))
    clear b3 HI3
    have HI4 := Lib.hid (is_ok (s := [109, 111, 100]) rfl hB2 Qa3.out)
    go_wp2_with fail
    refine HI4.out.mono ?_
    rintro e w4 ⟨rfl, b4⟩
    have Qa4 := Lib.hid (Qa3.out.below b4)
    have Na4 := Lib.hid (Na3.out.below b4)
    have Ma4 := Lib.hid (Ma3.out.trans (Mv.of b4))
    clear b4 HI4
    go_wp2
    go_ret
    exact ⟨_, rfl, Na4.out, Qa4.out, Ma4.out⟩
end Go.Proofs.YtobkcdkffcenbaaGreatDoor.Lr

