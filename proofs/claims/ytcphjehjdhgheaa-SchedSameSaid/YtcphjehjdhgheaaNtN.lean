/- The document's Check, Small, Same of a net; its Order, of layer 15. Conditions: none. -/
import Derived.Test.YtcphjehjdhgheaaNtL
import Derived.Test.YtcphjehjdhgheaaNtK
namespace Go.Proofs.Ytcphjehjdhgheaa.Nt
open Go.ChangeShapes Go.WideShapes Go.ChangeAt Go.RowKit Go.Proofs.Ytcphjehjdhgheaa.Tr
set_option linter.unusedVariables false
set_option linter.unusedSimpArgs false

def SmlPost (w : World) (N : Net) (e : Ending) (w' : World) : Prop := ∃ b, e = .returned (.bool b) ∧ (b = true → N.ops.length ≤ 300 ∧ N.roots.length ≤ 60 ∧ N.ins.length ≤ 60) ∧ Below w.heap.size w w'
set_option maxHeartbeats 1600000 in
theorem dsmall_any (w : World) (ov rv iv : Value) (N : Net) (h : NetR w ov rv iv N) : Calls Try.prog 14 #[.agg #[ov, rv, iv]] w (SmlPost w N) := by
  obtain ⟨h1, h2, h3⟩ := h
  obtain ⟨A, c, rfl, z1, z2⟩ := h1.form
  obtain ⟨A2, c2, rfl, z3, z4⟩ := ints_form h2
  obtain ⟨A3, c3, rfl, z5, z6⟩ := ints_form h3
  clear h1 h2 h3
  have HP : Hid (∀ b W, (b = true → N.ops.length ≤ 300 ∧ N.roots.length ≤ 60 ∧ N.ins.length ≤ 60) → Below w.heap.size w W → SmlPost w N (.returned (.bool b)) W) := Lib.hid (fun b W h1 h2 => ⟨b, rfl, h1, h2⟩)
  obtain ⟨n, hn⟩ : ∃ n, N.ops.length = n := ⟨_, rfl⟩
  obtain ⟨nr, hnr⟩ : ∃ n, N.roots.length = n := ⟨_, rfl⟩
  obtain ⟨ni, hni⟩ : ∃ n, N.ins.length = n := ⟨_, rfl⟩
  rw [hn, hnr, hni] at HP ⊢
  clear hn hnr hni z1 z2 z3 z4 z5 z6
  by_cases q1 : n ≤ 300
  · have p1 : (n : Int) ≤ 300 := by omega
    by_cases q2 : nr ≤ 60
    · have p2 : (nr : Int) ≤ 60 := by omega
      by_cases q3 : ni ≤ 60
      · have p3 : (ni : Int) ≤ 60 := by omega
        go_enter Try.func14, Try.ntmps14
        go_wp2
        go_ret
        exact HP.out true _ (fun _ => ⟨q1, q2, q3⟩) (below_new _ _)
      · have p3 : ¬ (ni : Int) ≤ 60 := by omega
        go_enter Try.func14, Try.ntmps14
        go_wp2
        go_ret
        exact HP.out false _ (fun h => by cases h) (below_new _ _)
    · have p2 : ¬ (nr : Int) ≤ 60 := by omega
      go_enter Try.func14, Try.ntmps14
      go_wp2
      go_ret
      exact HP.out false _ (fun h => by cases h) (below_new _ _)
  · have p1 : ¬ (n : Int) ≤ 300 := by omega
    go_enter Try.func14, Try.ntmps14
    go_wp2
    go_ret
    exact HP.out false _ (fun h => by cases h) (below_new _ _)
set_option maxRecDepth 100000 in
set_option maxHeartbeats 4000000 in
theorem dcheck_any (w : World) (ov rv iv : Value) (N : Net) (h : NetR w ov rv iv N) : Calls Try.prog 37 #[.agg #[ov, rv, iv]] w (fun e w' => e = .returned (.int .i64 (checkN N)) ∧ Below w.heap.size w w') := by
  have HH := Lib.hid h
  obtain ⟨A, c, rfl, z1, z2⟩ := h.1.form
  obtain ⟨w1, hw1⟩ : ∃ W, w.alloc (.cells #[.slice A N.ops.length c, rv, iv] 25) = W := ⟨_, rfl⟩
  have HW1 := Lib.hid hw1
  have HB1 : Hid (Below w.heap.size w w1) := Lib.hid (by rw [← hw1]; exact below_new _ _)
  have HX1 : Hid (NetBox w1 w.heap.size 25 (.slice A N.ops.length c) rv iv) := Lib.hid (by rw [← hw1]; exact box_new _ _ _ _ _)
  have HMA := Lib.hid (dmay_any w1 (.slice A N.ops.length c) rv iv N (HH.out.below HB1.out (Nat.le_refl _)))
  obtain ⟨mb, hmb⟩ : ∃ b, mayN N = b := ⟨_, rfl⟩
  rw [hmb] at HMA
  have HMB := Lib.hid hmb
  obtain ⟨p0, p1, p2⟩ := HX1.out.ats
  clear h hw1 hmb
  go_enter Try.func37, Try.ntmps37
  go_wp2_with fail
  rw [HW1.out]
  go_wp2_with fail
  refine HMA.out.mono ?_
  rintro e w2 ⟨rfl, hb2⟩
  have HB2 := Lib.hid hb2
  obtain ⟨q0, q1, q2⟩ := (HX1.out.below hb2 HX1.out.lt).ats
  have HX2 := Lib.hid (HX1.out.below hb2 HX1.out.lt)
  clear hb2
  cases mb with
  | false =>
    have HC : Hid (checkN N = 1) := Lib.hid (by unfold checkN; rw [HMB.out]; rfl)
    go_wp2
    go_ret
    exact ⟨ret_int HC.out.symm, HB1.out.trans (HB2.out.mono HB1.out.size)⟩
  | true =>
    have HRO : Hid (∀ W, Below w2.heap.size w2 W → Calls Try.prog 50 #[.agg #[.slice A N.ops.length c, rv, iv]] W (fun e w' => ∃ v, e = .returned v ∧ Ints w' v (natI (orderN N)) ∧ Below w2.heap.size w2 w')) := Lib.hid (fun W hW => by
      refine (dorder_any W _ rv iv N (((HH.out.below HB1.out (Nat.le_refl _)).below HB2.out (Nat.le_refl _)).below hW (Nat.le_refl _)) HMB.out).mono ?_
      rintro e w' ⟨v, rfl, ho, hb⟩
      exact ⟨v, rfl, Ints.of_own (l := natI (orderN N)) (by rw [show (natI (orderN N)).length = (orderN N).length by unfold natI; simp]; exact ho), hW.trans (hb.mono hW.size)⟩)
    have HX3 : Hid (∀ W, Below w2.heap.size w2 W → W.cell? ⟨w.heap.size, 0, none⟩ = some (.slice A N.ops.length c) ∧ W.cell? ⟨w.heap.size, 1, none⟩ = some rv ∧ W.cell? ⟨w.heap.size, 2, none⟩ = some iv) := Lib.hid (fun W hW => (HX2.out.below hW HX2.out.lt).ats)
    have hnl : (natI (orderN N)).length = (orderN N).length := by unfold natI; simp
    have HNL := Lib.hid hnl
    obtain ⟨L, hL⟩ : ∃ L, (orderN N).length = L := ⟨_, rfl⟩
    obtain ⟨n, hn⟩ : ∃ L, N.ops.length = L := ⟨_, rfl⟩
    have HL := Lib.hid hL
    have HN := Lib.hid hn
    rw [hn] at HRO HX3 q0 p0 z1 ⊢
    have HFIN : Hid (∀ W, Below w2.heap.size w2 W → Below w.heap.size w W) := Lib.hid (fun W hW => (HB1.out.trans (HB2.out.mono HB1.out.size)).trans (hW.mono (Nat.le_trans HB1.out.size HB2.out.size)))
    clear hnl hL hn
    by_cases hlt : L < n
    · have HC : Hid (checkN N = 12) := Lib.hid (by
        have : okG (grN N) = false := by unfold okG; exact decide_eq_false (by show ¬ N.ops.length ≤ (orderN N).length; rw [HL.out, HN.out]; omega)
        unfold checkN; rw [HMB.out, this]; rfl)
      have hlt2 : (L : Int) < (n : Int) := by omega
      go_wp2_with fail
      go_region_held3 (fun W => W.cell? ⟨w.heap.size, 0, none⟩ = some (.slice A n c) ∧ W.cell? ⟨w.heap.size, 1, none⟩ = some rv ∧ W.cell? ⟨w.heap.size, 2, none⟩ = some iv)
        (first | exact ⟨q0, q1, q2⟩ | exact HX3.out _ HB5.out | (go_keep; done))
        (first | (go_at_call 50; with_reducible refine (HRO.out _ (by first | with_reducible exact Below.refl _ _ | with_reducible exact below_drewN (Below.refl _ _) _ | with_reducible exact Below.drew (Below.refl _ _))).mono ?_; rintro r w5 ⟨v, rfl, hi5, hb5⟩; have HB5 := Lib.hid hb5; obtain ⟨A5, c5, rfl, z3, z4⟩ := ints_form hi5; rw [HNL.out, HL.out]; clear hb5 hi5 z3 z4))
      all_goals
        go_wp2
        go_ret
        exact ⟨ret_int HC.out.symm, HFIN.out _ (by first | exact HB5.out | exact HB5.out.drew)⟩
    · have HC : Hid (checkN N = 0) := Lib.hid (check_ok.2 ⟨HMB.out, by unfold okG; exact decide_eq_true (by show N.ops.length ≤ (orderN N).length; rw [HL.out, HN.out]; omega)⟩)
      have hlt2 : ¬ (L : Int) < (n : Int) := by omega
      go_wp2_with fail
      go_region_held3 (fun W => W.cell? ⟨w.heap.size, 0, none⟩ = some (.slice A n c) ∧ W.cell? ⟨w.heap.size, 1, none⟩ = some rv ∧ W.cell? ⟨w.heap.size, 2, none⟩ = some iv)
        (first | exact ⟨q0, q1, q2⟩ | exact HX3.out _ HB5.out | (go_keep; done))
        (first | (go_at_call 50; with_reducible refine (HRO.out _ (by first | with_reducible exact Below.refl _ _ | with_reducible exact below_drewN (Below.refl _ _) _ | with_reducible exact Below.drew (Below.refl _ _))).mono ?_; rintro r w5 ⟨v, rfl, hi5, hb5⟩; have HB5 := Lib.hid hb5; obtain ⟨A5, c5, rfl, z3, z4⟩ := ints_form hi5; rw [HNL.out, HL.out]; clear hb5 hi5 z3 z4))
      all_goals
        go_wp2
        go_ret
        exact ⟨ret_int HC.out.symm, HFIN.out _ (by first | exact HB5.out | exact HB5.out.drew)⟩
/-- Of layer 15: the document's Order. -/
def EOrdPost (w : World) (N : Net) (e : Ending) (w' : World) : Prop :=
  Below w.heap.size w w' ∧ ((checkN N ≠ 0 ∧ e = .returned (.tuple #[.slice none 0 0, .int .i64 (checkN N)])) ∨ (checkN N = 0 ∧ ∃ v, e = .returned (.tuple #[v, .int .i64 0]) ∧ w'.ownsRow w.heap.size 3 1 v (orderN N).length (intsOf (natI (orderN N)))))
set_option maxRecDepth 100000 in
set_option maxHeartbeats 4000000 in
theorem eorder_any (w : World) (ov rv iv : Value) (N : Net) (h : NetR w ov rv iv N) : Calls Try.prog 18 #[.agg #[ov, rv, iv]] w (EOrdPost w N) := by
  have HH := Lib.hid h
  obtain ⟨w1, hw1⟩ : ∃ W, w.alloc (.cells #[ov, rv, iv] 25) = W := ⟨_, rfl⟩
  have HW1 := Lib.hid hw1
  have HB1 : Hid (Below w.heap.size w w1) := Lib.hid (by rw [← hw1]; exact below_new _ _)
  have HX1 : Hid (NetBox w1 w.heap.size 25 ov rv iv) := Lib.hid (by rw [← hw1]; exact box_new _ _ _ _ _)
  have HMA := Lib.hid (dcheck_any w1 ov rv iv N (HH.out.below HB1.out (Nat.le_refl _)))
  obtain ⟨C, hC⟩ : ∃ b, checkN N = b := ⟨_, rfl⟩
  rw [hC] at HMA
  have HC := Lib.hid hC
  obtain ⟨p0, p1, p2⟩ := HX1.out.ats
  clear h hw1 hC
  go_enter Try.func18, Try.ntmps18
  go_wp2_with fail
  rw [HW1.out]
  go_wp2_with fail
  refine HMA.out.mono ?_
  rintro e w2 ⟨rfl, hb2⟩
  have HB2 := Lib.hid hb2
  obtain ⟨q0, q1, q2⟩ := (HX1.out.below hb2 HX1.out.lt).ats
  clear hb2
  by_cases h0 : C = 0
  · subst h0
    have HRO := Lib.hid (dorder_any w2 ov rv iv N ((HH.out.below HB1.out (Nat.le_refl _)).below HB2.out (Nat.le_refl _)) (check_ok.1 HC.out).1)
    go_wp2_with fail
    refine HRO.out.mono ?_
    rintro e w3 ⟨v, rfl, ho, hb3⟩
    have HO := Lib.hid ho
    have HB3 := Lib.hid hb3
    have hsz : w.heap.size ≤ w2.heap.size := by have := HB1.out.size; have := HB2.out.size; omega
    clear ho hb3
    go_wp2
    go_ret2
    exact ⟨(HB1.out.trans (HB2.out.mono HB1.out.size)).trans (HB3.out.mono hsz), .inr ⟨HC.out, v, rfl, own_base HO.out hsz⟩⟩
  · have hne : (C != 0) = true := by simpa using h0
    go_wp2
    go_ret2
    exact ⟨HB1.out.trans (HB2.out.mono HB1.out.size), .inl ⟨by rw [HC.out]; exact h0, by rw [HC.out]; rfl⟩⟩
end Go.Proofs.Ytcphjehjdhgheaa.Nt
