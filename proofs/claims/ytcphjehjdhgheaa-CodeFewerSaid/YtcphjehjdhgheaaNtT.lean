/- Layer sched: Is. Conditions: the net has at most 100000 inputs. -/
import Derived.Test.YtcphjehjdhgheaaNtJ
import Derived.Test.YtcphjehjdhgheaaNtR
namespace Go.Proofs.Ytcphjehjdhgheaa.Nt
open Go.ChangeShapes Go.WideShapes Go.ChangeAt Go.RowKit Go.Proofs.Ytcphjehjdhgheaa.Tr
set_option linter.unusedVariables false
set_option linter.unusedSimpArgs false

/-- A closure: is a number not below another one? -/
theorem is1_any (k : Int) (b : Nat) (i : Int) (w : World) (h : w.cell? ⟨b, 0, none⟩ = some (.int .i64 i)) : Calls Try.prog 56 #[.int .i64 k, .pointer (some ⟨b, 0, none⟩)] w fun e w' => e = .returned (.bool (decide (i ≤ k))) ∧ w' = w := by
  go_enter Try.func56, Try.ntmps56
  go_wp2
  go_ret
  exact ⟨rfl, rfl⟩
theorem eIs1 : ∀ args w, (callFunc 56 args).run Try.prog w = .ok (.enter 56 args) w := by intro a w; kernel_rfl
theorem is_cont (w : World) (A : Option Addr) (m c b : Nat) (i : Int) (l : List Int) (hm : m = l.length) (hmm : m ≤ maxLen) (hI : Ints w (.slice A m c) l) (hb : w.cell? ⟨b, 0, none⟩ = some (.int .i64 i)) :
    Calls Try.prog 54 #[.slice A m c, .func (.func 56) #[] #[.pointer (some ⟨b, 0, none⟩)]] w (fun e w' => e = .returned (.bool (l.any (fun y => decide (i ≤ y)))) ∧ ∃ q, w' = w.drewN q) :=
  cont_pure 56 #[.pointer (some ⟨b, 0, none⟩)] eIs1 A m c l w _ hm hmm hI (fun x _ q => (is1_any x b i (w.drewN q) hb).mono (by rintro e w' ⟨rfl, rfl⟩; exact ⟨rfl, q, rfl⟩))
set_option maxRecDepth 100000 in
set_option maxHeartbeats 4000000 in
theorem sis_any (w : World) (ov rv iv : Value) (N : Net) (h : NetR w ov rv iv N) (hni : N.ins.length ≤ 100000) : Calls Try.prog 24 #[.agg #[ov, rv, iv]] w (fun e w' => e = .returned (.bool (isN N)) ∧ Below w.heap.size w w') := by
  have HH := Lib.hid h
  obtain ⟨A, c, rfl, z1, z2⟩ := h.1.form
  obtain ⟨n, hn⟩ : ∃ L, N.ops.length = L := ⟨_, rfl⟩
  have HN := Lib.hid hn
  have H1 := Lib.hid h.1
  rw [hn] at HH H1 z1 ⊢
  unfold maxLen at z2
  obtain ⟨w1, hw1⟩ : ∃ W, w.alloc (.cells #[.slice A n c, rv, iv] 30) = W := ⟨_, rfl⟩
  have HW1 := Lib.hid hw1
  have HB1 : Hid (Below w.heap.size w w1) := Lib.hid (by rw [← hw1]; exact below_new _ _)
  have HX1 : Hid (NetBox w1 w.heap.size 30 (.slice A n c) rv iv) := Lib.hid (by rw [← hw1]; exact box_new _ _ _ _ _)
  have HMA := Lib.hid (check_any w1 (.slice A n c) rv iv N (HH.out.below HB1.out (Nat.le_refl _)) hni)
  obtain ⟨C, hC⟩ : ∃ b, checkN N = b := ⟨_, rfl⟩
  rw [hC] at HMA
  have HC := Lib.hid hC
  obtain ⟨p0, p1, p2⟩ := HX1.out.ats
  clear h hw1 hC hn
  go_enter Try.func24, Try.ntmps24
  go_wp2_with fail
  rw [HW1.out]
  go_wp2_with fail
  refine HMA.out.mono ?_
  rintro e w2 ⟨rfl, hb2⟩
  have HB2 := Lib.hid hb2
  have HX2 := Lib.hid (HX1.out.below hb2 HX1.out.lt)
  have HB02 := Lib.hid (HB1.out.trans (hb2.mono HB1.out.size))
  obtain ⟨q0, q1, q2⟩ := HX2.out.ats
  clear hb2
  by_cases h0 : C = 0
  case neg =>
    have hne : (C != 0) = true := by simpa using h0
    have HI : Hid (isN N = false) := Lib.hid (by unfold isN; rw [HC.out]; simp [h0])
    go_wp2
    go_ret
    exact ⟨ret_bool HI.out.symm, HB02.out⟩
  subst h0
  have HM : Hid (mayN N = true) := Lib.hid (check_ok.1 HC.out).1
  have HIS : Hid (isN N = inOrdB N) := Lib.hid (by unfold isN; rw [HC.out]; simp)
  have hbig : n ≤ 100000 := by
    have hm := HM.out
    unfold mayN at hm
    simp only [Bool.and_eq_true] at hm
    have := of_decide_eq_true hm.1.1; rw [HN.out] at this; exact this
  go_wp2_with fail
  go_loopw [11] (fun vi wr => ∃ i : Nat, i ≤ n ∧ vi = .int .i64 (i : Int) ∧ Below w2.heap.size w2 wr ∧ ∀ i', i' < i → ∀ k ∈ ndN N i', k < i') (fun vi _ => n - (intOf vi).toNat)
  case atStart => exact ⟨0, Nat.zero_le _, rfl, Below.refl _ _, fun i' h => by omega⟩
  case round =>
    obtain ⟨i, hi, rfl, hb, hall⟩ := hrel
    have HB := Lib.hid hb
    have HALL := Lib.hid hall
    have hsr := hb.size
    clear hb hall
    by_cases hin : i < n
    · have hxx := op_get (N := N) (i := i) (by rw [HN.out]; exact hin)
      obtain ⟨g, o, rfl, hg, d0, d1, d2, d3, d4⟩ := ((H1.out.below HB02.out (Nat.le_refl _)).below HB.out (Nat.le_refl _)).at hxx
      have hmay := may_at HM.out (i := i) (by rw [HN.out]; exact hin)
      have HNE := Lib.hid (fun W => sneeds_any W (opAt N i) _ _ hmay)
      have HCAST := Lib.hid (nd_cast HM.out (i := i) (by rw [HN.out]; exact hin))
      obtain ⟨xx, hxx2⟩ : ∃ x, opAt N i = x := ⟨_, rfl⟩
      rw [hxx2] at d0 d1 d2 d3 d4 HNE HCAST
      obtain ⟨xo, xa, xb, xc, xn⟩ := xx
      unfold opV at HNE
      dsimp only at d0 d1 d2 d3 d4 HNE
      obtain ⟨w3, hw3⟩ : ∃ W, (wr.alloc (.cells #[.int .i64 (i : Int)] 3)).alloc (.cells #[.int .i64 xo, .int .i64 xa, .int .i64 xb, .int .i64 xc, .int .i64 xn] 79) = W := ⟨_, rfl⟩
      have HW3 := Lib.hid hw3
      have HB3 : Hid (Below wr.heap.size wr w3) := Lib.hid (by rw [← hw3]; exact below2 _ _ _)
      have hl3 : wr.heap.size < w3.heap.size := by rw [← hw3]; simp; omega
      have HI3 : Hid (∀ W, Below w3.heap.size w3 W → W.cell? ⟨wr.heap.size, 0, none⟩ = some (.int .i64 (i : Int))) := Lib.hid (fun W hW => by
        have e : w3.heap[wr.heap.size]? = some (.cells #[.int .i64 (i : Int)] 3 (0, 0)) := by
          rw [← hw3, (below_new _ _).block _ (by simp)]; exact heap_alloc_new _ _
        have := (hW.block _ hl3).trans e
        simp [World.cell?, this])
      have hx3 : OpBox w3 (wr.heap.size + 1) 79 ⟨xo, xa, xb, xc, xn⟩ := by
        have := heap_alloc_new (wr.alloc (.cells #[.int .i64 (i : Int)] 3)) (.cells #[.int .i64 xo, .int .i64 xa, .int .i64 xb, .int .i64 xc, .int .i64 xn] 79)
        rw [hw3, show (wr.alloc (.cells #[.int .i64 (i : Int)] 3)).heap.size = wr.heap.size + 1 by simp] at this
        exact ⟨this⟩
      obtain ⟨a0, a1, a2, a3, a4, -, -, -⟩ := hx3.ats
      clear hxx hmay hxx2 hw3 hx3
      go_wp2_with fail
      rw [HW3.out]
      go_wp2_with fail
      refine (HNE.out w3).mono ?_
      rintro e w4 ⟨lv, rfl, hi4, hb4, hn4⟩
      obtain ⟨A4, c4, rfl, z3, z4⟩ := ints_form hi4
      obtain ⟨L, hL⟩ : ∃ L, (needI ⟨xo, xa, xb, xc, xn⟩).length = L := ⟨_, rfl⟩
      rw [hL] at hi4 z3 ⊢
      have HIC := Lib.hid (is_cont w4 A4 L c4 wr.heap.size (i : Int) (needI ⟨xo, xa, xb, xc, xn⟩) hL.symm (by omega) hi4 (HI3.out w4 hb4))
      obtain ⟨bb, hbb⟩ : ∃ b, ((needI ⟨xo, xa, xb, xc, xn⟩).any fun y => decide ((i : Int) ≤ y)) = b := ⟨_, rfl⟩
      rw [hbb] at HIC
      have HBB := Lib.hid hbb
      have HB4 := Lib.hid (HB.out.trans ((HB3.out.trans (hb4.mono HB3.out.size)).mono hsr))
      unfold maxLen at z4
      clear hi4 hb4 hn4 hL hbb
      go_wp2_with fail
      refine HIC.out.mono ?_
      rintro e w5 ⟨rfl, q, rfl⟩
      cases bb with
      | true =>
        have HI : Hid (isN N = false) := Lib.hid (by
          obtain ⟨y, hy, hd⟩ := List.any_eq_true.1 HBB.out
          rw [← HCAST.out] at hy
          obtain ⟨k, hk, rfl⟩ := List.mem_map.1 hy
          have := of_decide_eq_true hd
          rw [HIS.out]; exact inOrd_bad (by rw [HN.out]; exact hin) hk (by omega))
        go_wp2_with fail
        go_ret
        exact ⟨ret_bool HI.out.symm, HB02.out.trans ((below_drewN HB4.out q).mono HB02.out.size)⟩
      | false =>
        have HA2 : Hid (∀ i', i' < i + 1 → ∀ k ∈ ndN N i', k < i') := Lib.hid (fun i' hi' k' hk' => by
          by_cases e : i' = i
          · subst e
            have := List.any_eq_false.1 HBB.out (k' : Int) (by rw [← HCAST.out]; exact List.mem_map.2 ⟨k', hk', rfl⟩)
            have := of_decide_eq_false (by simpa using this : decide ((i' : Int) ≤ (k' : Int)) = false)
            omega
          · exact HALL.out i' (by omega) k' hk')
        go_wp2_with fail
        exact ⟨⟨i + 1, by omega, by go_num, below_drewN HB4.out q, HA2.out⟩, by simp [intOf]; omega⟩
    · have HI : Hid (isN N = true) := Lib.hid (by rw [HIS.out]; exact in_ord.2 (fun i' hi' => HALL.out i' (by rw [HN.out] at hi'; omega)))
      go_wp2_with fail
      go_ret
      exact ⟨ret_bool HI.out.symm, HB02.out.trans (HB.out.mono HB02.out.size)⟩
end Go.Proofs.Ytcphjehjdhgheaa.Nt
