/- Layer sched: Ends. Conditions: the net has at most 100000 inputs. -/
import Derived.Test.YtcphjehjdhgheaaNtU
namespace Go.Proofs.Ytcphjehjdhgheaa.Nt
open Go.ChangeShapes Go.WideShapes Go.ChangeAt Go.RowKit Go.Proofs.Ytcphjehjdhgheaa.Tr
set_option linter.unusedVariables false
set_option linter.unusedSimpArgs false

set_option maxRecDepth 100000 in
set_option maxHeartbeats 8000000 in
theorem sends_any (w : World) (ov rv iv : Value) (N : Net) (h : NetR w ov rv iv N) (hni : N.ins.length ≤ 100000) : Calls Try.prog 26 #[.agg #[ov, rv, iv]] w (fun e w' => ∃ v, e = .returned v ∧ w'.ownsRow w.heap.size 3 1 v (endsN N).length (intsOf (endsN N)) ∧ Below w.heap.size w w') := by
  have HH := Lib.hid h
  obtain ⟨A, c, rfl, z1, z2⟩ := h.1.form
  obtain ⟨n, hn⟩ : ∃ L, N.ops.length = L := ⟨_, rfl⟩
  have HN := Lib.hid hn
  have H1 := Lib.hid h.1
  rw [hn] at HH H1 z1 ⊢
  unfold maxLen at z2
  obtain ⟨w1, hw1⟩ : ∃ W, w.alloc (.cells #[.slice A n c, rv, iv] 30) = W := ⟨_, rfl⟩
  have HW1 := Lib.hid hw1
  have HB1 : Hid (Below w.heap.size w w1) := Lib.hid (by rw [← hw1]; exact below_new _ _)
  have HX1 : Hid (NetBox w1 w.heap.size 30 (.slice A n c) rv iv) := Lib.hid (by rw [← hw1]; exact box_new _ _ _ _ _)
  have HMA := Lib.hid (sis_any w1 (.slice A n c) rv iv N (HH.out.below HB1.out (Nat.le_refl _)) hni)
  obtain ⟨C, hC⟩ : ∃ b, isN N = b := ⟨_, rfl⟩
  rw [hC] at HMA
  have HC := Lib.hid hC
  obtain ⟨p0, p1, p2⟩ := HX1.out.ats
  clear h hw1 hC hn
  go_enter Try.func26, Try.ntmps26
  go_wp2_with fail
  rw [HW1.out]
  go_wp2_with fail
  refine HMA.out.mono ?_
  rintro e w2 ⟨rfl, hb2⟩
  have HB2 := Lib.hid hb2
  have HX2 := Lib.hid (HX1.out.below hb2 HX1.out.lt)
  have HB02 := Lib.hid (HB1.out.trans (hb2.mono HB1.out.size))
  obtain ⟨q0, q1, q2⟩ := HX2.out.ats
  clear hb2
  cases C with
  | false =>
    have HE : Hid (endsN N = []) := Lib.hid (by unfold endsN; rw [HC.out]; rfl)
    go_wp2
    go_ret
    exact ⟨_, rfl, by rw [HE.out]; exact World.ownsRow_nil _ _ _ _, HB02.out⟩
  | true =>
    have hck : checkN N = 0 := by
      have := HC.out
      unfold isN at this
      simp only [Bool.and_eq_true] at this
      simpa using this.1
    have HM : Hid (mayN N = true) := Lib.hid (check_ok.1 hck).1
    have HE : Hid (endsN N = endsOf N) := Lib.hid (by unfold endsN; rw [HC.out]; rfl)
    have hbig : n ≤ 100000 := by
      have hm := HM.out
      unfold mayN at hm
      simp only [Bool.and_eq_true] at hm
      have := of_decide_eq_true hm.1.1; rw [HN.out] at this; exact this
    obtain ⟨w3, hw3⟩ : ∃ W, w2.alloc (.cells #[.int .i64 (-1)] 3) = W := ⟨_, rfl⟩
    have HW3 := trivial
    have hb3 : Below w2.heap.size w2 w3 := by rw [← hw3]; exact below_new _ _
    have hs3 : w3.heap.size = w2.heap.size + 1 := by rw [← hw3]; simp
    have hc3 : w3.cell? ⟨w2.heap.size, 0, none⟩ = some (.int .i64 (-1)) := by
      have := heap_alloc_new w2 (.cells #[.int .i64 (-1)] 3)
      rw [hw3] at this
      simp [World.cell?, this]
    have HREP := Lib.hid (rep_any n w2.heap.size hbig w3 hc3 (by omega))
    have HX3 := Lib.hid (HX2.out.below hb3 HX2.out.lt)
    have HB03 := Lib.hid (HB02.out.trans (hb3.mono HB02.out.size))
    obtain ⟨r0, r1, r2⟩ := HX3.out.ats
    clear hck hb3 hc3 HW3
    subst hw3
    go_wp2_with fail
    refine HREP.out.mono ?_
    rintro e w4 ⟨v, rfl, ho4, hb4⟩
    have HX4 := Lib.hid (HX3.out.below hb4 HX3.out.lt)
    have HB04 := Lib.hid (HB03.out.trans (hb4.mono HB03.out.size))
    obtain ⟨s0, s1, s2⟩ := HX4.out.ats
    obtain ⟨A2, c2, rfl⟩ : ∃ A c, v = .slice A n c := by
      obtain ⟨-, h1 | ⟨g, cap, cur, e, -⟩⟩ := ho4
      · have := h1.2; rw [h1.1]; exact ⟨none, 0, by rw [this]⟩
      · exact ⟨_, _, e⟩
    have HO0 : Hid (w4.ownsRow w.heap.size 3 1 (.slice A2 n c2) n (intsOf (endR N 0 0))) := Lib.hid (by rw [endR_zero, HN.out]; exact own_base ho4 (by have := HB03.out.size; omega))
    clear ho4 hb4
    go_wp2_with fail
    go_loopw [19] (fun vm wr => ∃ m : Nat, m ≤ n ∧ vm = .int .i64 (m : Int) ∧ wr.ownsRow w.heap.size 3 1 (.slice A2 n c2) n (intsOf (endR N m 0)) ∧ Below w.heap.size w wr ∧ NetBox wr w.heap.size 30 (.slice A n c) rv iv) (fun vm _ => n - (intOf vm).toNat)
    case atStart => exact ⟨0, Nat.zero_le _, rfl, HO0.out, HB04.out, HX4.out⟩
    case round =>
      obtain ⟨m, hm, rfl, ho, hb, hx⟩ := hrel
      have HOm := Lib.hid ho
      have HBm := Lib.hid hb
      have HXm := Lib.hid hx
      have hxl := hx.lt
      clear ho hb hx
      by_cases hml : m < n
      · have hxx := op_get (N := N) (i := m) (by rw [HN.out]; exact hml)
        obtain ⟨g, o, rfl, hg, d0, d1, d2, d3, d4⟩ := (H1.out.below HBm.out (Nat.le_refl _)).at hxx
        have hmay := may_at HM.out (i := m) (by rw [HN.out]; exact hml)
        have HNE := Lib.hid (fun W => sneeds_any W (opAt N m) _ _ hmay)
        have HCAST := Lib.hid (nd_cast HM.out (i := m) (by rw [HN.out]; exact hml))
        have HLT : Hid (∀ k ∈ ndN N m, k < n) := Lib.hid (fun k hk => by
          have := nd_lt HM.out m (by show m < N.ops.length; rw [HN.out]; exact hml) k hk
          have e : (grN N).n = n := HN.out
          rw [e] at this; exact this)
        obtain ⟨xx, hxx2⟩ : ∃ x, opAt N m = x := ⟨_, rfl⟩
        rw [hxx2] at d0 d1 d2 d3 d4 HNE HCAST
        obtain ⟨xo, xa, xb, xc, xn⟩ := xx
        unfold opV at HNE
        dsimp only at d0 d1 d2 d3 d4 HNE
        obtain ⟨w5, hw5⟩ : ∃ W, wr.alloc (.cells #[.int .i64 xo, .int .i64 xa, .int .i64 xb, .int .i64 xc, .int .i64 xn] 79) = W := ⟨_, rfl⟩
        have HW5 := Lib.hid hw5
        have hb5 : Below wr.heap.size wr w5 := by rw [← hw5]; exact below_new _ _
        have hx5 : OpBox w5 wr.heap.size 79 ⟨xo, xa, xb, xc, xn⟩ := by
          have := heap_alloc_new wr (.cells #[.int .i64 xo, .int .i64 xa, .int .i64 xb, .int .i64 xc, .int .i64 xn] 79)
          rw [hw5] at this
          exact ⟨this⟩
        obtain ⟨a0, a1, a2, a3, a4, -, -, -⟩ := hx5.ats
        have HB5 := Lib.hid hb5
        clear hxx hmay hxx2 hw5 hb5 hx5
        go_wp2_with fail
        rw [HW5.out]
        go_wp2_with fail
        refine (HNE.out w5).mono ?_
        rintro e w6 ⟨lv, rfl, hi6, hb6, hn6⟩
        have HI6 := Lib.hid hi6
        have hb56 : Below wr.heap.size wr w6 := HB5.out.trans (hb6.mono HB5.out.size)
        have HN6 : Hid (∀ g o n c, lv = .slice (some ⟨g, o, none⟩) n c → wr.heap.size ≤ g) := Lib.hid (fun g o n c e => by have := hn6 g o n c e; have := HB5.out.size; omega)
        have HO6 := Lib.hid (own_below HOm.out hb56)
        have HB6 := Lib.hid (HBm.out.trans (hb56.mono HBm.out.size))
        have HX6 := Lib.hid (HXm.out.below hb56 hxl)
        have HLTm : Hid (∀ k, (Value.slice A2 n c2).ownBlock = some k → k < wr.heap.size) := Lib.hid (fun k hk => (HOm.out.lt k hk).2)
        obtain ⟨A4, c4, rfl, z3, z4⟩ := ints_form hi6
        obtain ⟨L, hL⟩ : ∃ L, (needI ⟨xo, xa, xb, xc, xn⟩).length = L := ⟨_, rfl⟩
        rw [hL] at HI6 z3 HN6 ⊢
        have HL : Hid ((ndN N m).length = L) := Lib.hid (by rw [← hL, ← HCAST.out, List.length_map])
        unfold maxLen at z4
        clear hi6 hb6 hn6 hL hb56
        go_wp2_with fail
        go_loopw [27] (fun vk wk => ∃ k : Nat, k ≤ L ∧ vk = .int .i64 (k : Int) ∧ wk.ownsRow w.heap.size 3 1 (.slice A2 n c2) n (intsOf (endR N m k)) ∧ Below w.heap.size w wk ∧ NetBox wk w.heap.size 30 (.slice (some ⟨g, o, none⟩) n c) rv iv ∧ Ints wk (.slice A4 L c4) (needI ⟨xo, xa, xb, xc, xn⟩)) (fun vk _ => L - (intOf vk).toNat)
        case atStart => exact ⟨0, Nat.zero_le _, rfl, HO6.out, HB6.out, HX6.out, HI6.out⟩
        case round =>
          obtain ⟨k, hk, rfl, ho, hb, hx, hii⟩ := hrel
          have HOk := Lib.hid ho
          have HBk := Lib.hid hb
          have HXk := Lib.hid hx
          have HIk := Lib.hid hii
          clear ho hb hx hii
          by_cases hkl : k < L
          · obtain ⟨y, hy⟩ : ∃ y, (ndN N m)[k]? = some y := ⟨_, List.getElem?_eq_getElem (by rw [HL.out]; exact hkl)⟩
            have hyi := HLT.out y (List.mem_of_getElem? hy)
            have hy2 : (needI ⟨xo, xa, xb, xc, xn⟩)[k]? = some (y : Int) := by rw [← HCAST.out, List.getElem?_map, hy]; rfl
            obtain ⟨g2, o2, rfl, hg2, e0⟩ := ints_at HIk.out hy2
            obtain ⟨xv, hxv⟩ := endR_get (N := N) (m := m) (k := k) (j := y) (by rw [HN.out]; exact hyi)
            obtain ⟨B, rfl⟩ : ∃ B, A2 = some ⟨B, 0, none⟩ := by
              obtain ⟨-, h1 | ⟨g, cap, cur, e, -⟩⟩ := HOk.out
              · omega
              · simp only [Value.slice.injEq] at e; exact ⟨g, e.1⟩
            have cy := (HOk.out.cellAt y (by omega)).trans (intsOf_get _ y _ hxv)
            have fy := HOk.out.frozenAt y
            have hst := (HOk.out.stored y (.int .i64 (m : Int))).1
            rw [← intsOf_set, endR_set hy] at hst
            have HST := Lib.hid hst
            have hBl := HLTm.out B rfl
            have hgB : g2 ≠ B := by have := HN6.out g2 o2 _ _ rfl; omega
            have HIS : Hid (Ints (wr.setCell ⟨B, y, none⟩ (.int .i64 (m : Int))) (.slice (some ⟨g2, o2, none⟩) L c4) (needI ⟨xo, xa, xb, xc, xn⟩)) := Lib.hid (ints_kp HIk.out ((Kp.refl (fun q => q = B) wr).setCell (p := ⟨B, y, none⟩) rfl _) (fun g o n c e he => by
              simp only [Value.slice.injEq, Option.some.injEq, Addr.mk.injEq] at e; omega))
            have HBS : Hid (Below w.heap.size w (wr.setCell ⟨B, y, none⟩ (.int .i64 (m : Int)))) := Lib.hid (HBk.out.setCell (p := ⟨B, y, none⟩) ((HOk.out.lt B rfl).1) _)
            have hbx : w.heap.size ≠ B := fun e => by
              obtain ⟨cs, hc⟩ := own_cells HOk.out (k := B) rfl
              have := HXk.out.cell
              rw [e, hc] at this; simp at this
            have HXS : Hid (NetBox (wr.setCell ⟨B, y, none⟩ (.int .i64 (m : Int))) w.heap.size 30 (.slice (some ⟨g, o, none⟩) n c) rv iv) := Lib.hid ⟨(Below.heap_setCell _ _ _ _ hbx).trans HXk.out.cell⟩
            clear hy hy2 hxv hst hbx
            go_wp2_with fail
            exact ⟨⟨k + 1, by omega, by go_num, HST.out, HBS.out, HXS.out, HIS.out⟩, by simp [intOf]; omega⟩
          · have HON : Hid (wr.ownsRow w.heap.size 3 1 (.slice A2 n c2) n (intsOf (endR N (m + 1) 0))) := Lib.hid (by rw [← endR_next N m (k := k) (by rw [HL.out]; omega)]; exact HOk.out)
            go_wp2_with fail
            exact ⟨⟨m + 1, by omega, by go_num, HON.out, HBk.out, HXk.out⟩, by simp [intOf]; omega⟩
      · have HOE : Hid (wr.ownsRow w.heap.size 3 1 (.slice A2 n c2) (endsN N).length (intsOf (endsN N))) := Lib.hid (by
          have e := endR_all N (m := m) (by rw [HN.out]; omega)
          have := HOm.out
          rw [e] at this
          rw [HE.out, show (endsOf N).length = n by unfold endsOf; simp; exact HN.out]; exact this)
        go_wp2_with fail
        go_ret
        exact ⟨_, rfl, HOE.out, HBm.out⟩
end Go.Proofs.Ytcphjehjdhgheaa.Nt
