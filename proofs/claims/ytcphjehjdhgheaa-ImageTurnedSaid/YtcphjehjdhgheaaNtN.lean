/- Whether a net may be, by the document. Conditions: none. The document's Check, Small, Same of a net; its Order, of layer 15. Conditions: none. -/
import Derived.Test.YtcphjehjdhgheaaNtG
import Derived.Test.YtcphjehjdhgheaaNtP
namespace Go.Proofs.Ytcphjehjdhgheaa.Nt
open Go.ChangeShapes Go.WideShapes Go.ChangeAt Go.RowKit Go.Proofs.Ytcphjehjdhgheaa.Tr
set_option linter.unusedVariables false
set_option linter.unusedSimpArgs false

theorem mayOp_parts (n nin : Nat) (x : Op5) : mayOp n nin x = (decide (0 ≤ kids x.op) && plainB nin x && fldB n x.a (kids x.op) 0 && fldB n x.b (kids x.op) 1 && fldB n x.c (kids x.op) 2) := rfl
set_option maxRecDepth 100000 in
set_option maxHeartbeats 4000000 in
theorem dmay_any (w : World) (ov rv iv : Value) (N : Net) (h : NetR w ov rv iv N) : Calls Try.prog 72 #[.agg #[ov, rv, iv]] w (fun e w' => e = .returned (.bool (mayN N)) ∧ Below w.heap.size w w') := by
  obtain ⟨h1, h2, h3⟩ := h
  obtain ⟨A, c, rfl, z1, z2⟩ := h1.form
  obtain ⟨A2, c2, rfl, z3, z4⟩ := ints_form h2
  obtain ⟨A3, c3, rfl, z5, z6⟩ := ints_form h3
  obtain ⟨n, hn⟩ : ∃ n, N.ops.length = n := ⟨_, rfl⟩
  obtain ⟨nr, hnr⟩ : ∃ n, N.roots.length = n := ⟨_, rfl⟩
  obtain ⟨ni, hni'⟩ : ∃ n, N.ins.length = n := ⟨_, rfl⟩
  rw [hn] at h1 z1 ⊢
  rw [hnr] at h2 z3 ⊢
  rw [hni'] at h3 z5 ⊢
  have HN := Lib.hid hn
  have HNR := Lib.hid hnr
  have HNI := Lib.hid hni'
  have H1 := Lib.hid h1
  have H2 := Lib.hid h2
  unfold maxLen at z2 z4 z6
  clear h1 h2 h3 hn hnr hni'
  obtain ⟨w1, hw1⟩ : ∃ W, w.alloc (.cells #[.slice A n c, .slice A2 nr c2, .slice A3 ni c3] 25) = W := ⟨_, rfl⟩
  have HW1 := Lib.hid hw1
  have HB1 : Hid (Below w.heap.size w w1) := Lib.hid (by rw [← hw1]; exact below_new _ _)
  have HX1 : Hid (NetBox w1 w.heap.size 25 (.slice A n c) (.slice A2 nr c2) (.slice A3 ni c3)) := Lib.hid (by rw [← hw1]; exact box_new _ _ _ _ _)
  have hs1 : w.heap.size < w1.heap.size := HX1.out.lt
  obtain ⟨p0, p1, p2⟩ := HX1.out.ats
  clear hw1
  by_cases hbig : n ≤ 100000
  case neg =>
    have hd : ((100000 : Int) < (n : Int)) := by omega
    have HM : Hid (mayN N = false) := Lib.hid (may_many (by rw [HN.out]; exact hbig))
    clear hbig
    go_enter Try.func72, Try.ntmps72
    go_wp2_with fail
    go_ret
    exact ⟨ret_bool HM.out.symm, below_new _ _⟩
  have hd : ¬ ((100000 : Int) < (n : Int)) := by omega
  go_enter Try.func72, Try.ntmps72
  go_wp2_with fail
  rw [HW1.out]
  go_wp2_with fail
  go_loopw [3] (fun vi wr => ∃ i : Nat, i ≤ n ∧ vi = .int .i64 (i : Int) ∧ Below w1.heap.size w1 wr ∧ okOps N i) (fun vi _ => n - (intOf vi).toNat)
  case atStart => exact ⟨0, Nat.zero_le _, rfl, Below.refl _ _, fun k x h => by omega⟩
  case round =>
    obtain ⟨i, hi, rfl, hb, hok⟩ := hrel
    have HBR := Lib.hid hb
    have HOK := Lib.hid hok
    have hsr := hb.size
    have HXR := Lib.hid (HX1.out.below hb hs1)
    obtain ⟨y0, y1, y2⟩ := HXR.out.ats
    clear hb hok
    by_cases hlt : i < n
    · obtain ⟨x, hx⟩ : ∃ x, N.ops[i]? = some x := ⟨_, List.getElem?_eq_getElem (by rw [HN.out]; exact hlt)⟩
      have HX := Lib.hid hx
      obtain ⟨g, o, rfl, hg, d0, d1, d2, d3, d4⟩ := ((H1.out.below HB1.out (Nat.le_refl _)).below HBR.out (Nat.le_refl _)).at hx
      have hmo := mayOp_parts n ni x
      obtain ⟨kk, hkk⟩ : ∃ kk, kids x.op = kk := ⟨_, rfl⟩
      obtain ⟨pb, hpb⟩ : ∃ b, plainB ni x = b := ⟨_, rfl⟩
      obtain ⟨f0, hf0⟩ : ∃ b, fldB n x.a kk 0 = b := ⟨_, rfl⟩
      obtain ⟨f1, hf1⟩ : ∃ b, fldB n x.b kk 1 = b := ⟨_, rfl⟩
      obtain ⟨f2, hf2⟩ : ∃ b, fldB n x.c kk 2 = b := ⟨_, rfl⟩
      have hop : ∀ W, Calls Try.prog 96 #[.int .i64 x.op] W (fun e w' => e = .returned (.int .i64 kk) ∧ w' = W) := fun W => by have := dkids_any x.op W; rw [hkk] at this; exact this
      have hpl : ∀ W, Calls Try.prog 110 #[.agg #[.slice (some ⟨g, o, none⟩) n c, .slice A2 nr c2, .slice A3 ni c3], opV x] W (fun e w' => e = .returned (.bool pb) ∧ Below W.heap.size W w') := fun W => by have := dplain_any W (.slice (some ⟨g, o, none⟩) n c) (.slice A2 nr c2) A3 c3 ni x; rw [hpb] at this; exact this
      have hfl : ∀ W (k a : Int) b, fldB n k kk a = b → Calls Try.prog 111 #[.agg #[.slice (some ⟨g, o, none⟩) n c, .slice A2 nr c2, .slice A3 ni c3], .int .i64 k, .int .i64 kk, .int .i64 a] W (fun e w' => e = .returned (.bool b) ∧ Below W.heap.size W w') := fun W k a b hb => by have := dopd_any W (.slice A2 nr c2) (.slice A3 ni c3) (some ⟨g, o, none⟩) c n k kk a; rw [hb] at this; exact this
      rw [hkk, hpb, hf0, hf1, hf2] at hmo
      obtain ⟨xo, xa, xb, xc, xn⟩ := x
      dsimp only at d0 d1 d2 d3 d4 hop hpl hfl hf0 hf1 hf2
      unfold opV at hpl
      have HMO := Lib.hid hmo
      have HOP := Lib.hid hop
      have HPL := Lib.hid hpl
      have HF0 := Lib.hid (fun W => hfl W _ _ _ hf0)
      have HF1 := Lib.hid (fun W => hfl W _ _ _ hf1)
      have HF2 := Lib.hid (fun W => hfl W _ _ _ hf2)
      obtain ⟨w5, hw5⟩ : ∃ W, wr.alloc (.cells #[.int .i64 xo, .int .i64 xa, .int .i64 xb, .int .i64 xc, .int .i64 xn] 69) = W := ⟨_, rfl⟩
      have HW5 := Lib.hid hw5
      have HB5 : Hid (Below w1.heap.size w1 w5) := Lib.hid (by rw [← hw5]; exact HBR.out.trans ((below_new _ _).mono hsr))
      have hc5 := heap_alloc_new wr (.cells #[.int .i64 xo, .int .i64 xa, .int .i64 xb, .int .i64 xc, .int .i64 xn] 69)
      rw [hw5] at hc5
      have hl5 := lt_of_block hc5
      have HCE : Hid (∀ W, Below w5.heap.size w5 W → (W.cell? ⟨w.heap.size, 0, none⟩ = some (.slice (some ⟨g, o, none⟩) n c) ∧ W.cell? ⟨w.heap.size, 1, none⟩ = some (.slice A2 nr c2) ∧ W.cell? ⟨w.heap.size, 2, none⟩ = some (.slice A3 ni c3)) ∧
          (W.cell? ⟨wr.heap.size, 0, none⟩ = some (.int .i64 xo) ∧ W.cell? ⟨wr.heap.size, 1, none⟩ = some (.int .i64 xa) ∧ W.cell? ⟨wr.heap.size, 2, none⟩ = some (.int .i64 xb) ∧ W.cell? ⟨wr.heap.size, 3, none⟩ = some (.int .i64 xc) ∧ W.cell? ⟨wr.heap.size, 4, none⟩ = some (.int .i64 xn))) := Lib.hid (fun W hW => by
        have h5 : W.heap[wr.heap.size]? = some (.cells #[.int .i64 xo, .int .i64 xa, .int .i64 xb, .int .i64 xc, .int .i64 xn] 69 (0, 0)) := (hW.block _ hl5).trans hc5
        exact ⟨((HX1.out.below HB5.out hs1).below hW (by have := HB5.out.size; omega)).ats, by simp [World.cell?, h5], by simp [World.cell?, h5], by simp [World.cell?, h5], by simp [World.cell?, h5], by simp [World.cell?, h5]⟩)
      have HFIN : Hid (∀ W, Below w5.heap.size w5 W → Below w.heap.size w W) := Lib.hid (fun W hW => HB1.out.trans ((HB5.out.trans (hW.mono HB5.out.size)).mono HB1.out.size))
      have HFI1 : Hid (∀ W, Below w5.heap.size w5 W → Below w1.heap.size w1 W) := Lib.hid (fun W hW => HB5.out.trans (hW.mono HB5.out.size))
      obtain ⟨⟨r0, r1, r2⟩, t0, t1, t2, t3, t4⟩ := HCE.out w5 (Below.refl _ _)
      have HBAD : Hid (mayOp n ni ⟨xo, xa, xb, xc, xn⟩ = false → mayN N = false) := Lib.hid (fun hb => may_bad HX.out (by rw [HN.out, HNI.out]; exact hb))
      clear hx hmo hop hpl hfl hf0 hf1 hf2 hpb hkk hw5 hc5
      go_wp2_with fail
      rw [HW5.out]
      go_wp2_with fail
      refine (HOP.out _).mono ?_
      rintro e w2' ⟨rfl, rfl⟩
      by_cases hneg : kk < 0
      · have HM := Lib.hid (HBAD.out (by rw [HMO.out, decide_eq_false (by omega)]; rfl))
        go_wp2_with fail
        go_ret
        exact ⟨ret_bool HM.out.symm, HFIN.out _ (Below.refl _ _)⟩
      have hpos : decide ((0 : Int) ≤ kk) = true := decide_eq_true (by omega)
      rw [hpos, Bool.true_and] at HMO
      go_wp2_with fail
      refine (HPL.out _).mono ?_
      rintro e w6 ⟨rfl, hb6⟩
      have HB6 := Lib.hid hb6
      obtain ⟨⟨-, -, -⟩, -, s1, s2, s3, -⟩ := HCE.out w6 hb6
      obtain ⟨⟨m0, m1, m2⟩, -⟩ := HCE.out w6 hb6
      clear hb6
      cases pb with
      | false =>
        have HM := Lib.hid (HBAD.out (by rw [HMO.out]; rfl))
        go_wp2_with fail
        go_ret
        exact ⟨ret_bool HM.out.symm, HFIN.out _ HB6.out⟩
      | true =>
        rw [Bool.true_and] at HMO
        go_wp2_with fail
        refine (HF0.out _).mono ?_
        rintro e w7 ⟨rfl, hb7⟩
        have HB7 := Lib.hid (HB6.out.trans (hb7.mono HB6.out.size))
        obtain ⟨⟨n0, n1, n2⟩, -, u1, u2, u3, -⟩ := HCE.out w7 HB7.out
        clear hb7
        cases f0 with
        | false =>
          have HM := Lib.hid (HBAD.out (by rw [HMO.out]; rfl))
          go_wp2_with fail
          go_ret
          exact ⟨ret_bool HM.out.symm, HFIN.out _ HB7.out⟩
        | true =>
          rw [Bool.true_and] at HMO
          go_wp2_with fail
          refine (HF1.out _).mono ?_
          rintro e w8 ⟨rfl, hb8⟩
          have HB8 := Lib.hid (HB7.out.trans (hb8.mono HB7.out.size))
          obtain ⟨⟨o0, o1, o2⟩, -, v1, v2, v3, -⟩ := HCE.out w8 HB8.out
          clear hb8
          cases f1 with
          | false =>
            have HM := Lib.hid (HBAD.out (by rw [HMO.out]; rfl))
            go_wp2_with fail
            go_ret
            exact ⟨ret_bool HM.out.symm, HFIN.out _ HB8.out⟩
          | true =>
            rw [Bool.true_and] at HMO
            go_wp2_with fail
            refine (HF2.out _).mono ?_
            rintro e w9 ⟨rfl, hb9⟩
            have HB9 := Lib.hid (HB8.out.trans (hb9.mono HB8.out.size))
            clear hb9
            cases f2 with
            | false =>
              have HM := Lib.hid (HBAD.out HMO.out)
              go_wp2_with fail
              go_ret
              exact ⟨ret_bool HM.out.symm, HFIN.out _ HB9.out⟩
            | true =>
              have HO2 : Hid (okOps N (i + 1)) := Lib.hid (fun k y hk hy => by
                by_cases e : k = i
                · subst e
                  rw [HX.out] at hy; injection hy with hy; subst hy
                  rw [HN.out, HNI.out]; exact HMO.out
                · exact HOK.out k y (by omega) hy)
              have HBE := Lib.hid (HFI1.out _ HB9.out)
              go_wp2_with fail
              exact ⟨⟨i + 1, by omega, by go_num, HBE.out, HO2.out⟩, by simp [intOf]; omega⟩
    · have HOA : Hid (okOps N N.ops.length) := Lib.hid (by
        have e : i = n := by omega
        rw [HN.out, ← e]; exact HOK.out)
      go_wp2_with fail
      go_loopw [6] (fun vk wk => ∃ k : Nat, k ≤ nr ∧ vk = .int .i64 (k : Int) ∧ (∃ q, wk = wr.drewN q) ∧ (N.roots.take k).any (fun y => !isOp n y) = false) (fun vk _ => nr - (intOf vk).toNat)
      case atStart => exact ⟨0, Nat.zero_le _, rfl, ⟨0, rfl⟩, by simp⟩
      case round =>
        obtain ⟨k, hk, rfl, ⟨q, rfl⟩, ha⟩ := hrel
        have HA := Lib.hid ha
        clear ha
        by_cases hkl : k < nr
        · obtain ⟨y, hy⟩ : ∃ y, N.roots[k]? = some y := ⟨_, List.getElem?_eq_getElem (by rw [HNR.out]; exact hkl)⟩
          obtain ⟨g2, o2, rfl, hg2, e0⟩ := ints_at ((H2.out.below HB1.out (Nat.le_refl _)).below HBR.out (Nat.le_refl _)) hy
          have HY := Lib.hid hy
          clear hy
          by_cases b1 : y < 0
          · have HM : Hid (mayN N = false) := Lib.hid (may_root (by rw [HN.out]; exact List.any_eq_true.2 ⟨y, List.mem_of_getElem? HY.out, by unfold isOp; simp; omega⟩))
            go_wp2_with fail
            go_quiet (fail)
            go_wp2_with fail
            go_ret
            exact ⟨ret_bool HM.out.symm, HB1.out.trans ((below_drewN (below_drewN HBR.out _) _).mono HB1.out.size)⟩
          · by_cases b2 : y < (n : Int)
            · have HA2 : Hid ((N.roots.take (k + 1)).any (fun y => !isOp n y) = false) := Lib.hid (by
                rw [List.take_add_one, HY.out, List.any_append, HA.out]; simp [isOp]; omega)
              have hd2 : decide ((n : Int) ≤ y) = false := decide_eq_false (by omega)
              go_wp2_with fail
              go_quiet (fail)
              go_wp2_with fail
              exact ⟨⟨k + 1, by omega, by go_num, ⟨_, by first | rfl | (rw [World.drewN_drewN])⟩, HA2.out⟩, by simp [intOf]; omega⟩
            · have HM : Hid (mayN N = false) := Lib.hid (may_root (by rw [HN.out]; exact List.any_eq_true.2 ⟨y, List.mem_of_getElem? HY.out, by unfold isOp; simp; omega⟩))
              have hd2 : decide ((n : Int) ≤ y) = true := decide_eq_true (by omega)
              go_wp2_with fail
              go_quiet (fail)
              go_wp2_with fail
              go_ret
              exact ⟨ret_bool HM.out.symm, HB1.out.trans ((below_drewN (below_drewN HBR.out _) _).mono HB1.out.size)⟩
        · have HM : Hid (mayN N = true) := Lib.hid (may_true (by rw [HN.out]; exact hbig) HOA.out (by
            have e : k = nr := by omega
            have := HA.out
            rw [e, ← HNR.out, List.take_length] at this
            rw [HN.out]; exact this))
          go_wp2_with fail
          go_ret
          exact ⟨ret_bool HM.out.symm, HB1.out.trans ((below_drewN HBR.out _).mono HB1.out.size)⟩
end Go.Proofs.Ytcphjehjdhgheaa.Nt

namespace Go.Proofs.Ytcphjehjdhgheaa.Nt
open Go.ChangeShapes Go.WideShapes Go.ChangeAt Go.RowKit Go.Proofs.Ytcphjehjdhgheaa.Tr
set_option linter.unusedVariables false
set_option linter.unusedSimpArgs false

def SmlPost (w : World) (N : Net) (e : Ending) (w' : World) : Prop := ∃ b, e = .returned (.bool b) ∧ (b = true → N.ops.length ≤ 300 ∧ N.roots.length ≤ 60 ∧ N.ins.length ≤ 60) ∧ Below w.heap.size w w'
set_option maxHeartbeats 1600000 in
theorem dsmall_any (w : World) (ov rv iv : Value) (N : Net) (h : NetR w ov rv iv N) : Calls Try.prog 14 #[.agg #[ov, rv, iv]] w (SmlPost w N) := by
  obtain ⟨h1, h2, h3⟩ := h
  obtain ⟨A, c, rfl, z1, z2⟩ := h1.form
  obtain ⟨A2, c2, rfl, z3, z4⟩ := ints_form h2
  obtain ⟨A3, c3, rfl, z5, z6⟩ := ints_form h3
  clear h1 h2 h3
  have HP : Hid (∀ b W, (b = true → N.ops.length ≤ 300 ∧ N.roots.length ≤ 60 ∧ N.ins.length ≤ 60) → Below w.heap.size w W → SmlPost w N (.returned (.bool b)) W) := Lib.hid (fun b W h1 h2 => ⟨b, rfl, h1, h2⟩)
  obtain ⟨n, hn⟩ : ∃ n, N.ops.length = n := ⟨_, rfl⟩
  obtain ⟨nr, hnr⟩ : ∃ n, N.roots.length = n := ⟨_, rfl⟩
  obtain ⟨ni, hni⟩ : ∃ n, N.ins.length = n := ⟨_, rfl⟩
  rw [hn, hnr, hni] at HP ⊢
  clear hn hnr hni z1 z2 z3 z4 z5 z6
  by_cases q1 : n ≤ 300
  · have p1 : (n : Int) ≤ 300 := by omega
    by_cases q2 : nr ≤ 60
    · have p2 : (nr : Int) ≤ 60 := by omega
      by_cases q3 : ni ≤ 60
      · have p3 : (ni : Int) ≤ 60 := by omega
        go_enter Try.func14, Try.ntmps14
        go_wp2
        go_ret
        exact HP.out true _ (fun _ => ⟨q1, q2, q3⟩) (below_new _ _)
      · have p3 : ¬ (ni : Int) ≤ 60 := by omega
        go_enter Try.func14, Try.ntmps14
        go_wp2
        go_ret
        exact HP.out false _ (fun h => by cases h) (below_new _ _)
    · have p2 : ¬ (nr : Int) ≤ 60 := by omega
      go_enter Try.func14, Try.ntmps14
      go_wp2
      go_ret
      exact HP.out false _ (fun h => by cases h) (below_new _ _)
  · have p1 : ¬ (n : Int) ≤ 300 := by omega
    go_enter Try.func14, Try.ntmps14
    go_wp2
    go_ret
    exact HP.out false _ (fun h => by cases h) (below_new _ _)
set_option maxRecDepth 100000 in
set_option maxHeartbeats 4000000 in
theorem dcheck_any (w : World) (ov rv iv : Value) (N : Net) (h : NetR w ov rv iv N) : Calls Try.prog 37 #[.agg #[ov, rv, iv]] w (fun e w' => e = .returned (.int .i64 (checkN N)) ∧ Below w.heap.size w w') := by
  have HH := Lib.hid h
  obtain ⟨A, c, rfl, z1, z2⟩ := h.1.form
  obtain ⟨w1, hw1⟩ : ∃ W, w.alloc (.cells #[.slice A N.ops.length c, rv, iv] 25) = W := ⟨_, rfl⟩
  have HW1 := Lib.hid hw1
  have HB1 : Hid (Below w.heap.size w w1) := Lib.hid (by rw [← hw1]; exact below_new _ _)
  have HX1 : Hid (NetBox w1 w.heap.size 25 (.slice A N.ops.length c) rv iv) := Lib.hid (by rw [← hw1]; exact box_new _ _ _ _ _)
  have HMA := Lib.hid (dmay_any w1 (.slice A N.ops.length c) rv iv N (HH.out.below HB1.out (Nat.le_refl _)))
  obtain ⟨mb, hmb⟩ : ∃ b, mayN N = b := ⟨_, rfl⟩
  rw [hmb] at HMA
  have HMB := Lib.hid hmb
  obtain ⟨p0, p1, p2⟩ := HX1.out.ats
  clear h hw1 hmb
  go_enter Try.func37, Try.ntmps37
  go_wp2_with fail
  rw [HW1.out]
  go_wp2_with fail
  refine HMA.out.mono ?_
  rintro e w2 ⟨rfl, hb2⟩
  have HB2 := Lib.hid hb2
  obtain ⟨q0, q1, q2⟩ := (HX1.out.below hb2 HX1.out.lt).ats
  have HX2 := Lib.hid (HX1.out.below hb2 HX1.out.lt)
  clear hb2
  cases mb with
  | false =>
    have HC : Hid (checkN N = 1) := Lib.hid (by unfold checkN; rw [HMB.out]; rfl)
    go_wp2
    go_ret
    exact ⟨ret_int HC.out.symm, HB1.out.trans (HB2.out.mono HB1.out.size)⟩
  | true =>
    have HRO : Hid (∀ W, Below w2.heap.size w2 W → Calls Try.prog 50 #[.agg #[.slice A N.ops.length c, rv, iv]] W (fun e w' => ∃ v, e = .returned v ∧ Ints w' v (natI (orderN N)) ∧ Below w2.heap.size w2 w')) := Lib.hid (fun W hW => by
      refine (dorder_any W _ rv iv N (((HH.out.below HB1.out (Nat.le_refl _)).below HB2.out (Nat.le_refl _)).below hW (Nat.le_refl _)) HMB.out).mono ?_
      rintro e w' ⟨v, rfl, ho, hb⟩
      exact ⟨v, rfl, Ints.of_own (l := natI (orderN N)) (by rw [show (natI (orderN N)).length = (orderN N).length by unfold natI; simp]; exact ho), hW.trans (hb.mono hW.size)⟩)
    have HX3 : Hid (∀ W, Below w2.heap.size w2 W → W.cell? ⟨w.heap.size, 0, none⟩ = some (.slice A N.ops.length c) ∧ W.cell? ⟨w.heap.size, 1, none⟩ = some rv ∧ W.cell? ⟨w.heap.size, 2, none⟩ = some iv) := Lib.hid (fun W hW => (HX2.out.below hW HX2.out.lt).ats)
    have hnl : (natI (orderN N)).length = (orderN N).length := by unfold natI; simp
    have HNL := Lib.hid hnl
    obtain ⟨L, hL⟩ : ∃ L, (orderN N).length = L := ⟨_, rfl⟩
    obtain ⟨n, hn⟩ : ∃ L, N.ops.length = L := ⟨_, rfl⟩
    have HL := Lib.hid hL
    have HN := Lib.hid hn
    rw [hn] at HRO HX3 q0 p0 z1 ⊢
    have HFIN : Hid (∀ W, Below w2.heap.size w2 W → Below w.heap.size w W) := Lib.hid (fun W hW => (HB1.out.trans (HB2.out.mono HB1.out.size)).trans (hW.mono (Nat.le_trans HB1.out.size HB2.out.size)))
    clear hnl hL hn
    by_cases hlt : L < n
    · have HC : Hid (checkN N = 12) := Lib.hid (by
        have : okG (grN N) = false := by unfold okG; exact decide_eq_false (by show ¬ N.ops.length ≤ (orderN N).length; rw [HL.out, HN.out]; omega)
        unfold checkN; rw [HMB.out, this]; rfl)
      have hlt2 : (L : Int) < (n : Int) := by omega
      go_wp2_with fail
      go_region_held3 (fun W => W.cell? ⟨w.heap.size, 0, none⟩ = some (.slice A n c) ∧ W.cell? ⟨w.heap.size, 1, none⟩ = some rv ∧ W.cell? ⟨w.heap.size, 2, none⟩ = some iv)
        (first | exact ⟨q0, q1, q2⟩ | exact HX3.out _ HB5.out | (go_keep; done))
        (first | (go_at_call 50; with_reducible refine (HRO.out _ (by first | with_reducible exact Below.refl _ _ | with_reducible exact below_drewN (Below.refl _ _) _ | with_reducible exact Below.drew (Below.refl _ _))).mono ?_; rintro r w5 ⟨v, rfl, hi5, hb5⟩; have HB5 := Lib.hid hb5; obtain ⟨A5, c5, rfl, z3, z4⟩ := ints_form hi5; rw [HNL.out, HL.out]; clear hb5 hi5 z3 z4))
      all_goals
        go_wp2
        go_ret
        exact ⟨ret_int HC.out.symm, HFIN.out _ (by first | exact HB5.out | exact HB5.out.drew)⟩
    · have HC : Hid (checkN N = 0) := Lib.hid (check_ok.2 ⟨HMB.out, by unfold okG; exact decide_eq_true (by show N.ops.length ≤ (orderN N).length; rw [HL.out, HN.out]; omega)⟩)
      have hlt2 : ¬ (L : Int) < (n : Int) := by omega
      go_wp2_with fail
      go_region_held3 (fun W => W.cell? ⟨w.heap.size, 0, none⟩ = some (.slice A n c) ∧ W.cell? ⟨w.heap.size, 1, none⟩ = some rv ∧ W.cell? ⟨w.heap.size, 2, none⟩ = some iv)
        (first | exact ⟨q0, q1, q2⟩ | exact HX3.out _ HB5.out | (go_keep; done))
        (first | (go_at_call 50; with_reducible refine (HRO.out _ (by first | with_reducible exact Below.refl _ _ | with_reducible exact below_drewN (Below.refl _ _) _ | with_reducible exact Below.drew (Below.refl _ _))).mono ?_; rintro r w5 ⟨v, rfl, hi5, hb5⟩; have HB5 := Lib.hid hb5; obtain ⟨A5, c5, rfl, z3, z4⟩ := ints_form hi5; rw [HNL.out, HL.out]; clear hb5 hi5 z3 z4))
      all_goals
        go_wp2
        go_ret
        exact ⟨ret_int HC.out.symm, HFIN.out _ (by first | exact HB5.out | exact HB5.out.drew)⟩
/-- Of layer 15: the document's Order. -/
def EOrdPost (w : World) (N : Net) (e : Ending) (w' : World) : Prop :=
  Below w.heap.size w w' ∧ ((checkN N ≠ 0 ∧ e = .returned (.tuple #[.slice none 0 0, .int .i64 (checkN N)])) ∨ (checkN N = 0 ∧ ∃ v, e = .returned (.tuple #[v, .int .i64 0]) ∧ w'.ownsRow w.heap.size 3 1 v (orderN N).length (intsOf (natI (orderN N)))))
set_option maxRecDepth 100000 in
set_option maxHeartbeats 4000000 in
theorem eorder_any (w : World) (ov rv iv : Value) (N : Net) (h : NetR w ov rv iv N) : Calls Try.prog 18 #[.agg #[ov, rv, iv]] w (EOrdPost w N) := by
  have HH := Lib.hid h
  obtain ⟨w1, hw1⟩ : ∃ W, w.alloc (.cells #[ov, rv, iv] 25) = W := ⟨_, rfl⟩
  have HW1 := Lib.hid hw1
  have HB1 : Hid (Below w.heap.size w w1) := Lib.hid (by rw [← hw1]; exact below_new _ _)
  have HX1 : Hid (NetBox w1 w.heap.size 25 ov rv iv) := Lib.hid (by rw [← hw1]; exact box_new _ _ _ _ _)
  have HMA := Lib.hid (dcheck_any w1 ov rv iv N (HH.out.below HB1.out (Nat.le_refl _)))
  obtain ⟨C, hC⟩ : ∃ b, checkN N = b := ⟨_, rfl⟩
  rw [hC] at HMA
  have HC := Lib.hid hC
  obtain ⟨p0, p1, p2⟩ := HX1.out.ats
  clear h hw1 hC
  go_enter Try.func18, Try.ntmps18
  go_wp2_with fail
  rw [HW1.out]
  go_wp2_with fail
  refine HMA.out.mono ?_
  rintro e w2 ⟨rfl, hb2⟩
  have HB2 := Lib.hid hb2
  obtain ⟨q0, q1, q2⟩ := (HX1.out.below hb2 HX1.out.lt).ats
  clear hb2
  by_cases h0 : C = 0
  · subst h0
    have HRO := Lib.hid (dorder_any w2 ov rv iv N ((HH.out.below HB1.out (Nat.le_refl _)).below HB2.out (Nat.le_refl _)) (check_ok.1 HC.out).1)
    go_wp2_with fail
    refine HRO.out.mono ?_
    rintro e w3 ⟨v, rfl, ho, hb3⟩
    have HO := Lib.hid ho
    have HB3 := Lib.hid hb3
    have hsz : w.heap.size ≤ w2.heap.size := by have := HB1.out.size; have := HB2.out.size; omega
    clear ho hb3
    go_wp2
    go_ret2
    exact ⟨(HB1.out.trans (HB2.out.mono HB1.out.size)).trans (HB3.out.mono hsz), .inr ⟨HC.out, v, rfl, own_base HO.out hsz⟩⟩
  · have hne : (C != 0) = true := by simpa using h0
    go_wp2
    go_ret2
    exact ⟨HB1.out.trans (HB2.out.mono HB1.out.size), .inl ⟨by rw [HC.out]; exact h0, by rw [HC.out]; rfl⟩⟩
end Go.Proofs.Ytcphjehjdhgheaa.Nt
