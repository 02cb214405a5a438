/- The document's Check of code. Conditions: none. -/
import Derived.Test.YtcphjehjdhgheaaKaB
import Derived.Test.YtcphjehjdhgheaaNkQ
import Derived.Deep.OwnRows
import Derived.Deep.RegionHeld3
namespace Go.Proofs.Ytcphjehjdhgheaa.Nt
open Go.ChangeShapes Go.WideShapes Go.ChangeAt Go.RowKit Go.Proofs.Ytcphjehjdhgheaa.Tr
set_option linter.unusedVariables false
set_option linter.unusedSimpArgs false

theorem goK_one (nin : Nat) (regs slots : Int) (x : Ins6) (s : List Int × List Int) : goK nin regs slots [x] s = if okI nin regs slots s x = true then some (goneI s x) else none := rfl
theorem goK_next {nin : Nat} {regs slots : Int} {l : List Ins6} {i : Nat} {x : Ins6} {s : List Int × List Int} (h : goK nin regs slots (l.take i) ([], []) = some s) (hi : l[i]? = some x) (ho : okI nin regs slots s x = true) : goK nin regs slots (l.take (i + 1)) ([], []) = some (goneI s x) := by
  rw [List.take_add_one, hi, goK_app, h]
  show goK nin regs slots [x] s = _
  rw [goK_one, if_pos ho]
theorem check_bad {C : Cod} {i : Nat} {x : Ins6} {s : List Int × List Int} (h : goK C.inp.length C.regs C.slots (C.ins.take i) ([], []) = some s) (hi : C.ins[i]? = some x) (ho : okI C.inp.length C.regs C.slots s x = false) : checkK C = 1 := by
  have e : goK C.inp.length C.regs C.slots C.ins ([], []) = none := by
    have e1 : C.ins = C.ins.take i ++ (x :: C.ins.drop (i + 1)) := by
      obtain ⟨hil, e⟩ := List.getElem?_eq_some_iff.1 hi
      conv => lhs; rw [← List.take_append_drop i C.ins, List.drop_eq_getElem_cons hil, e]
    rw [e1, goK_app, h]
    show goK _ _ _ (x :: _) s = none
    unfold goK
    rw [ho]; rfl
  unfold checkK
  rw [e]
  split <;> rfl
theorem check_unsized {C : Cod} (h : sizedB C = false) : checkK C = 1 := by unfold checkK; rw [if_pos h]
theorem check_end {C : Cod} {s : List Int × List Int} (hs : sizedB C = true) (h : goK C.inp.length C.regs C.slots C.ins ([], []) = some s) : checkK C = if C.outs.all (fun k => s.1.contains k) then 0 else 1 := by
  unfold checkK
  rw [hs, if_neg (by simp), h]
theorem okD (nin : Nat) (regs slots : Int) (s : List Int × List Int) (x : Ins6) : okI nin regs slots s x = (decide (0 ≤ nrd x.op) && (restD x (nrd x.op) && (numD nin slots x && ((readsI x).all (fun k => s.1.contains k) &&
    (if x.op = 30 then !s.2.contains x.n else !(x.op == 21 && !s.2.isEmpty) && (decide (0 ≤ x.d) && decide (x.d < regs))))))) := by
  unfold okI
  by_cases h : 0 ≤ nrd x.op
  · have e := num_rest nin slots x h
    rw [decide_eq_true h]
    rw [← Bool.and_assoc (restD _ _), e]
    by_cases h30 : x.op = 30
    · rw [if_pos h30, if_pos h30]
      have : (x.op != 30) = false := by simp [h30]
      rw [this]
      cases restB x <;> cases numB nin slots x <;> cases (x.d == 0) <;> cases (readsI x).all (fun k => s.1.contains k) <;> rfl
    · rw [if_neg h30, if_neg h30]
      have : (x.op != 30) = true := by simpa using h30
      rw [this]
      cases restB x <;> cases numB nin slots x <;> cases (readsI x).all (fun k => s.1.contains k) <;> simp [Bool.and_assoc]
  · rw [decide_eq_false h]; rfl
theorem inB_of {n : Nat} {l : List Int} (h : ∀ k ∈ l, 0 ≤ k ∧ k < (n : Int)) (k : Int) : inB n l k = l.contains k := by
  unfold inB
  cases hc : l.contains k with
  | false => simp
  | true =>
    have := h k (by simpa using hc)
    simp; omega
theorem numD_store {nin : Nat} {slots : Int} {x : Ins6} (h : numD nin slots x = true) (hp : x.op = 30) : 0 ≤ x.n ∧ x.n < slots := by
  unfold numD at h
  rw [if_neg (by omega), if_neg (by omega), if_neg (by omega), if_pos (.inr hp)] at h
  simpa using h
theorem sized_of {C : Cod} (h1 : 0 ≤ C.regs) (h2 : C.regs ≤ 100000) (h3 : 0 ≤ C.slots) (h4 : C.slots ≤ 100000) (h5 : C.ins.length ≤ 200000) : sizedB C = true := by unfold sizedB; simp; omega
theorem unsized_of {C : Cod} (h : ¬ (0 ≤ C.regs ∧ C.regs ≤ 100000 ∧ 0 ≤ C.slots ∧ C.slots ≤ 100000 ∧ C.ins.length ≤ 200000)) : sizedB C = false := by unfold sizedB; simp; omega
set_option maxRecDepth 100000 in
set_option maxHeartbeats 16000000 in
theorem kcheck_any (w : World) (iv ov pv : Value) (C : Cod) (h : CodR w iv ov pv C) : Calls Try.prog 35 #[.agg #[iv, .int .i64 C.regs, .int .i64 C.slots, ov, pv]] w (fun e w' => e = .returned (.int .i64 (checkK C)) ∧ Below w.heap.size w w') := by
  have HH := Lib.hid h
  obtain ⟨A, c, rfl, z1, z2⟩ := h.1.form
  obtain ⟨A2, c2, rfl, z3, z4⟩ := ints_form h.2.1
  obtain ⟨A3, c3, rfl, z5, z6⟩ := ints_form h.2.2
  obtain ⟨n, hn⟩ : ∃ L, C.ins.length = L := ⟨_, rfl⟩
  obtain ⟨no, hno⟩ : ∃ L, C.outs.length = L := ⟨_, rfl⟩
  obtain ⟨ni, hni⟩ : ∃ L, C.inp.length = L := ⟨_, rfl⟩
  obtain ⟨regs, hregs⟩ : ∃ r, C.regs = r := ⟨_, rfl⟩
  obtain ⟨slots, hslots⟩ : ∃ r, C.slots = r := ⟨_, rfl⟩
  have HN := Lib.hid hn
  have HNO := Lib.hid hno
  have HNI := Lib.hid hni
  have HRE := Lib.hid hregs
  have HSL := Lib.hid hslots
  rw [hn, hno, hni] at HH ⊢
  rw [hn] at z1
  rw [hno] at z3
  rw [hni] at z5
  rw [hregs, hslots]
  unfold maxLen at z2 z4 z6
  obtain ⟨x, hx⟩ : ∃ W, w.alloc (.cells #[.slice A n c, .int .i64 regs, .int .i64 slots, .slice A2 no c2, .slice A3 ni c3] 54) = W := ⟨_, rfl⟩
  have HBX : Hid (Below w.heap.size w x) := Lib.hid (by rw [← hx]; exact below_new _ _)
  have HXX : Hid (CodBox x w.heap.size 54 (.slice A n c) regs slots (.slice A2 no c2) (.slice A3 ni c3)) := Lib.hid (by rw [← hx]; exact codbox_new _ _ _ _ _ _ _)
  have HCX := Lib.hid (HH.out.below HBX.out (Nat.le_refl _))
  obtain ⟨p0, p1, p2, p3, p4⟩ := HXX.out.ats
  by_cases hz : ¬ (0 ≤ regs ∧ regs ≤ 100000 ∧ 0 ≤ slots ∧ slots ≤ 100000 ∧ n ≤ 200000)
  · have HK : Hid (checkK C = 1) := Lib.hid (check_unsized (unsized_of (by rw [hregs, hslots, hn]; exact hz)))
    clear h hn hno hni hregs hslots
    by_cases h1 : regs < 0
    · have d1 : decide (regs < 0) = true := decide_eq_true h1
      go_enter Try.func35, Try.ntmps35
      go_wp2
      go_ret
      exact ⟨ret_int HK.out.symm, HBX.out⟩
    have d1 : decide (regs < 0) = false := decide_eq_false h1
    by_cases h2 : 100000 < regs
    · have d2 : decide (100000 < regs) = true := decide_eq_true h2
      go_enter Try.func35, Try.ntmps35
      go_wp2
      go_ret
      exact ⟨ret_int HK.out.symm, HBX.out⟩
    have d2 : decide (100000 < regs) = false := decide_eq_false h2
    by_cases h3 : slots < 0
    · have d3 : decide (slots < 0) = true := decide_eq_true h3
      go_enter Try.func35, Try.ntmps35
      go_wp2
      go_ret
      exact ⟨ret_int HK.out.symm, HBX.out⟩
    have d3 : decide (slots < 0) = false := decide_eq_false h3
    by_cases h4 : 100000 < slots
    · have d4 : decide (100000 < slots) = true := decide_eq_true h4
      go_enter Try.func35, Try.ntmps35
      go_wp2
      go_ret
      exact ⟨ret_int HK.out.symm, HBX.out⟩
    have d4 : decide (100000 < slots) = false := decide_eq_false h4
    have d5 : decide ((200000 : Int) < (n : Int)) = true := decide_eq_true (by omega)
    go_enter Try.func35, Try.ntmps35
    go_wp2
    go_ret
    exact ⟨ret_int HK.out.symm, HBX.out⟩
  · obtain ⟨r0, r1, s0, s1, n5⟩ := Classical.not_not.1 hz
    have HSZ : Hid (sizedB C = true) := Lib.hid (sized_of (by rw [hregs]; exact r0) (by rw [hregs]; exact r1) (by rw [hslots]; exact s0) (by rw [hslots]; exact s1) (by rw [hn]; exact n5))
    obtain ⟨R, rfl⟩ : ∃ R : Nat, regs = (R : Int) := ⟨regs.toNat, by omega⟩
    obtain ⟨S, rfl⟩ : ∃ S : Nat, slots = (S : Int) := ⟨slots.toNat, by omega⟩
    have d1 : decide ((R : Int) < 0) = false := decide_eq_false (by omega)
    have d2 : decide ((100000 : Int) < (R : Int)) = false := decide_eq_false (by omega)
    have d3 : decide ((S : Int) < 0) = false := decide_eq_false (by omega)
    have d4 : decide ((100000 : Int) < (S : Int)) = false := decide_eq_false (by omega)
    have d5 : decide ((200000 : Int) < (n : Int)) = false := decide_eq_false (by omega)
    have hmkR := run_make_row' (P := Try.prog) 113 4 (.bool false) 1 Try.underlying113 info4 rfl .i64 .i64 R (by omega) (by omega)
    have hmkS := run_make_row' (P := Try.prog) 113 4 (.bool false) 1 Try.underlying113 info4 rfl .i64 .i64 S (by omega) (by omega)
    obtain ⟨x1, hx1⟩ : ∃ W, x.alloc (.cells (madeCells #[.bool false] R) 4) = W := ⟨_, rfl⟩
    have hb1 : Below x.heap.size x x1 := by rw [← hx1]; exact below_new _ _
    have hw1 : x1.ownsRow x.heap.size 4 1 (.slice (some ⟨x.heap.size, 0, none⟩) R R) R (boolsOf (hasB R [])) := by
      have h1 := heap_alloc_new x (.cells (madeCells #[.bool false] R) 4)
      rw [hx1] at h1
      refine own_at (xs := boolsOf (hasB R [])) ?_ (Nat.le_refl _) (has_len _ _) (by unfold maxLen; omega)
      rw [has_nil]; exact h1
    obtain ⟨x2, hx2⟩ : ∃ W, x1.alloc (.cells (madeCells #[.bool false] S) 4) = W := ⟨_, rfl⟩
    have hs1 : x1.heap.size = x.heap.size + 1 := by rw [← hx1]; simp
    have hb2 : Below x1.heap.size x1 x2 := by rw [← hx2]; exact below_new _ _
    have HW2 : Hid (x2.ownsRow x.heap.size 4 1 (.slice (some ⟨x.heap.size, 0, none⟩) R R) R (boolsOf (hasB R []))) := Lib.hid (own_below hw1 hb2)
    have HS2 : Hid (x2.ownsRow x.heap.size 4 1 (.slice (some ⟨x.heap.size + 1, 0, none⟩) S S) S (boolsOf (hasB S []))) := Lib.hid (by
      have h1 := heap_alloc_new x1 (.cells (madeCells #[.bool false] S) 4)
      rw [hx2, hs1] at h1
      refine own_at (xs := boolsOf (hasB S [])) ?_ (by omega) (has_len _ _) (by unfold maxLen; omega)
      rw [has_nil]; exact h1)
    have HBX2 : Hid (Below x.heap.size x x2) := Lib.hid (hb1.trans (hb2.mono hb1.size))
    obtain ⟨p0', p1', p2', p3', p4'⟩ := (HXX.out.below hb1 HXX.out.lt).ats
    have HOD : Hid (∀ s y, okI C.inp.length C.regs C.slots s y = okI ni (R : Int) (S : Int) s y) := Lib.hid (fun s y => by rw [hni, hregs, hslots])
    have HNX : Hid (∀ (i : Nat) (y : Ins6) (s : List Int × List Int), C.ins[i]? = some y → goK ni (R : Int) (S : Int) (C.ins.take i) ([], []) = some s → (okI ni (R : Int) (S : Int) s y = false → checkK C = 1) ∧ (okI ni (R : Int) (S : Int) s y = true → goK ni (R : Int) (S : Int) (C.ins.take (i + 1)) ([], []) = some (goneI s y))) := Lib.hid (fun i y s hi hg =>
      ⟨fun ho => check_bad (i := i) (x := y) (s := s) (by rw [hni, hregs, hslots]; exact hg) hi (by rw [hni, hregs, hslots]; exact ho), fun ho => goK_next hg hi ho⟩)
    have HEN : Hid (∀ s, goK ni (R : Int) (S : Int) C.ins ([], []) = some s → checkK C = if C.outs.all (fun k => s.1.contains k) then 0 else 1) := Lib.hid (fun s hg => check_end HSZ.out (by rw [hni, hregs, hslots]; exact hg))
    have hneb : x.heap.size + 1 ≠ x.heap.size := by omega
    clear h hn hno hni hregs hslots hz hw1 hb1 hb2
    go_enter Try.func35, Try.ntmps35
    go_wp2_with fail
    clear hx1 hx2 hx
    go_loopw [5, 6] (fun v5 v6 wr => ∃ (i : Nat) (wl st : List Int), i ≤ n ∧ v6 = .int .i64 (i : Int) ∧ v5 = .bool (!st.isEmpty) ∧ goK ni (R : Int) (S : Int) (C.ins.take i) ([], []) = some (wl, st) ∧ (∀ k ∈ wl, 0 ≤ k ∧ k < (R : Int)) ∧
      wr.ownsRow x.heap.size 4 1 (.slice (some ⟨x.heap.size, 0, none⟩) R R) R (boolsOf (hasB R wl)) ∧ wr.ownsRow x.heap.size 4 1 (.slice (some ⟨x.heap.size + 1, 0, none⟩) S S) S (boolsOf (hasB S st)) ∧ Below x.heap.size x wr) (fun v5 v6 _ => n - (intOf v6).toNat)
    case atStart => exact ⟨0, [], [], Nat.zero_le _, rfl, rfl, rfl, fun k hk => by simp at hk, HW2.out, HS2.out, HBX2.out⟩
    case round =>
      obtain ⟨i, wl, st, hi, rfl, rfl, hgo, hwb, hww, hss, hb⟩ := hrel
      have HGO := Lib.hid hgo
      have HWB := Lib.hid hwb
      have HWW := Lib.hid hww
      have HSS := Lib.hid hss
      have HB := Lib.hid hb
      have hsr : x.heap.size ≤ wr.heap.size := hb.size
      obtain ⟨wm, hwm⟩ : ∃ W, W = wr := ⟨_, rfl⟩
      subst hwm
      have HXm := Lib.hid (HXX.out.below hb HXX.out.lt)
      have HCm := Lib.hid (HCX.out.below hb (Nat.le_refl _))
      obtain ⟨t0, t1, t2, t3, t4⟩ := HXm.out.ats
      obtain ⟨stE, hstE⟩ : ∃ b, st.isEmpty = b := ⟨_, rfl⟩
      rw [hstE]
      have HSTE := Lib.hid hstE
      clear hgo hwb hww hss hb hstE
      by_cases hin : i < n
      · obtain ⟨y, hy⟩ : ∃ y, C.ins[i]? = some y := ⟨_, List.getElem?_eq_getElem (by rw [HN.out]; exact hin)⟩
        obtain ⟨g, o, rfl, hg, e0, e1, e2, e3, e4, e5⟩ := HCm.out.1.at hy
        have HNXT := Lib.hid (HNX.out i y (wl, st) hy HGO.out)
        have HOD := Lib.hid (okD ni (R : Int) (S : Int) (wl, st) y)
        obtain ⟨w3, hw3⟩ : ∃ W, wm.alloc (.cells #[.int .i64 y.op, .int .i64 y.d, .int .i64 y.a, .int .i64 y.b, .int .i64 y.c, .int .i64 y.n] 112) = W := ⟨_, rfl⟩
        have hb3 : Below wm.heap.size wm w3 := by rw [← hw3]; exact below_new _ _
        have HY3 : Hid (InsBox w3 wm.heap.size 112 y) := Lib.hid (by rw [← hw3]; exact insbox_new _ _ _)
        have HB3 : Hid (Below x.heap.size x w3) := Lib.hid (HB.out.trans (hb3.mono HB.out.size))
        have HBm3 := Lib.hid hb3
        obtain ⟨y0, y1, y2, y3, y4, y5⟩ := HY3.out.ats
        clear hy hb3
        go_wp2_with fail
        clear hw3 e0 e1 e2 e3 e4 e5 t0 t1 t2 t3 t4
        refine (kreads_any w3 y).mono ?_
        rintro e w4 ⟨rv, rfl, hri, hb4⟩
        have HB4 : Hid (Below wm.heap.size wm w4) := Lib.hid (HBm3.out.trans (hb4.mono HBm3.out.size))
        have HX4 : Hid (Below w.heap.size w w4) := Lib.hid (HBX.out.trans ((HB3.out.trans (hb4.mono HB3.out.size)).mono HBX.out.size))
        have HY4 := Lib.hid (HY3.out.below hb4 HY3.out.lt)
        have HRI := Lib.hid hri
        obtain ⟨RA, rc, rfl, u1, u2⟩ := ints_form hri
        unfold maxLen at u2
        clear hri hb4 y0 y1 y2 y3 y4 y5
        by_cases hr : ¬ (0 ≤ nrd y.op)
        · have hd : decide (0 ≤ nrd y.op) = false := decide_eq_false hr
          have HK : Hid (checkK C = 1) := Lib.hid (HNXT.out.1 (by rw [HOD.out, hd]; rfl))
          rw [hd]
          go_wp2_with fail
          go_ret
          exact ⟨ret_int HK.out.symm, HX4.out⟩
        have hr : 0 ≤ nrd y.op := Classical.not_not.1 hr
        have hd : decide (0 ≤ nrd y.op) = true := decide_eq_true hr
        have hlen := reads_len hr
        have HRL := Lib.hid hlen
        obtain ⟨m, hm⟩ : ∃ m, (readsI y).length = m := ⟨_, rfl⟩
        rw [hm] at hlen u1 HRI HRL ⊢
        have HM := Lib.hid hm
        have HRS := Lib.hid (krest_any w4 y (m : Int) hlen (by omega))
        obtain ⟨bR, hbR⟩ : ∃ b, restD y (m : Int) = b := ⟨_, rfl⟩
        rw [hbR] at HRS
        have HBR : Hid (restD y (nrd y.op) = bR) := Lib.hid (by rw [← hlen]; exact hbR)
        obtain ⟨y0, y1, y2, y3, y4, y5⟩ := HY4.out.ats
        rw [hd]
        have HD := Lib.hid hd
        clear hlen hm hbR hd hr
        go_wp2_with fail
        refine HRS.out.mono ?_
        rintro e w5 ⟨rfl, hb5⟩
        have HB5 : Hid (Below wm.heap.size wm w5) := Lib.hid (HB4.out.trans (hb5.mono HB4.out.size))
        have HX5 : Hid (Below w.heap.size w w5) := Lib.hid (HX4.out.trans (hb5.mono HX4.out.size))
        have HY5 := Lib.hid (HY4.out.below hb5 HY4.out.lt)
        have HRI5 := Lib.hid (HRI.out.below hb5 (Nat.le_refl _))
        have HXb5 := Lib.hid (HXm.out.below HB5.out HXm.out.lt)
        clear hb5 y0 y1 y2 y3 y4 y5
        cases bR with
        | false =>
          have HK : Hid (checkK C = 1) := Lib.hid (HNXT.out.1 (by rw [HOD.out, HD.out, HBR.out]; rfl))
          go_wp2_with fail
          go_ret
          exact ⟨ret_int HK.out.symm, HX5.out⟩
        | true =>
          obtain ⟨y0, y1, y2, y3, y4, y5⟩ := HY5.out.ats
          obtain ⟨t0, t1, t2, t3, t4⟩ := HXb5.out.ats
          have HNU := Lib.hid (knumber_any w5 (.slice (some ⟨g, o, none⟩) n c) (.slice A2 no c2) (.slice A3 ni c3) (R : Int) (S : Int) y C.inp (HCm.out.2.2.below HB5.out (Nat.le_refl _)))
          obtain ⟨bN, hbN⟩ : ∃ b, numD C.inp.length (S : Int) y = b := ⟨_, rfl⟩
          rw [hbN] at HNU
          have HBN : Hid (numD ni (S : Int) y = bN) := Lib.hid (by rw [← HNI.out]; exact hbN)
          clear hbN
          go_wp2_with fail
          refine HNU.out.mono ?_
          rintro e w6 ⟨rfl, hb6⟩
          have HB6 : Hid (Below wm.heap.size wm w6) := Lib.hid (HB5.out.trans (hb6.mono HB5.out.size))
          have HX6 : Hid (Below w.heap.size w w6) := Lib.hid (HX5.out.trans (hb6.mono HX5.out.size))
          have HY6 := Lib.hid (HY5.out.below hb6 HY5.out.lt)
          have HRI6 := Lib.hid (HRI5.out.below hb6 (Nat.le_refl _))
          have HXb6 := Lib.hid (HXm.out.below HB6.out HXm.out.lt)
          clear hb6 y0 y1 y2 y3 y4 y5 t0 t1 t2 t3 t4
          cases bN with
          | false =>
            have HK : Hid (checkK C = 1) := Lib.hid (HNXT.out.1 (by rw [HOD.out, HD.out, HBR.out, HBN.out]; rfl))
            go_wp2_with fail
            go_ret
            exact ⟨ret_int HK.out.symm, HX6.out⟩
          | true =>
            have hs6 : wm.heap.size ≤ w6.heap.size := HB6.out.size
            simp only [Bool.not_true]
            go_wp2_with fail
            go_loopw [10] (fun v10 wr => ∃ k : Nat, k ≤ m ∧ v10 = .int .i64 (k : Int) ∧ Below w6.heap.size w6 wr ∧ ∀ (j : Nat) (z : Int), j < k → (readsI y)[j]? = some z → wl.contains z = true) (fun v10 _ => m - (intOf v10).toNat)
            case atStart => exact ⟨0, Nat.zero_le _, rfl, Below.refl _ _, fun j z h => by omega⟩
            case round =>
              obtain ⟨k, hk, rfl, hbk, hall⟩ := hrel
              have HALL := Lib.hid hall
              have HBk := Lib.hid hbk
              have hsk : w6.heap.size ≤ wr.heap.size := hbk.size
              obtain ⟨wk, hwk⟩ : ∃ W, W = wr := ⟨_, rfl⟩
              subst hwk
              clear hall hbk
              have HBmk : Hid (Below wm.heap.size wm wk) := Lib.hid (HB6.out.trans (HBk.out.mono hs6))
              have HXk : Hid (Below w.heap.size w wk) := Lib.hid (HX6.out.trans (HBk.out.mono HX6.out.size))
              have HYk := Lib.hid (HY6.out.below HBk.out HY6.out.lt)
              have HWk := Lib.hid (own_below HWW.out HBmk.out)
              have HSk := Lib.hid (own_below HSS.out HBmk.out)
              by_cases hkm : k < m
              · obtain ⟨z, hzz⟩ : ∃ z, (readsI y)[k]? = some z := ⟨_, List.getElem?_eq_getElem (by rw [HM.out]; exact hkm)⟩
                obtain ⟨g', o', rfl, hg', f0⟩ := ints_at (HRI6.out.below HBk.out (Nat.le_refl _)) hzz
                have HZ := Lib.hid hzz
                have HWR := Lib.hid (kwritten_any wk _ R R _ wl z HWk.out (by omega))
                rw [inB_of HWB.out] at HWR
                obtain ⟨bz, hbz⟩ : ∃ b, wl.contains z = b := ⟨_, rfl⟩
                rw [hbz] at HWR
                have HBZ := Lib.hid hbz
                clear hzz hbz
                go_wp2_with fail
                refine HWR.out.mono ?_
                rintro e w7 ⟨rfl, hb7⟩
                have HX7 : Hid (Below w.heap.size w w7) := Lib.hid (HXk.out.trans (hb7.mono HXk.out.size))
                have HB7 : Hid (Below w6.heap.size w6 w7) := Lib.hid (HBk.out.trans (hb7.mono hsk))
                clear hb7
                cases bz with
                | false =>
                  have HK : Hid (checkK C = 1) := Lib.hid (HNXT.out.1 (by
                    rw [HOD.out, HD.out, HBR.out, HBN.out]
                    have : (readsI y).all (fun k => wl.contains k) = false := by
                      cases e : (readsI y).all (fun k => wl.contains k) with
                      | false => rfl
                      | true =>
                        rw [List.all_eq_true] at e
                        have := e z (List.mem_of_getElem? HZ.out)
                        rw [HBZ.out] at this; cases this
                    show (true && (true && (true && ((readsI y).all (fun k => wl.contains k) && _)))) = false
                    rw [this]; rfl))
                  go_wp2_with fail
                  go_ret
                  exact ⟨ret_int HK.out.symm, HX7.out⟩
                | true =>
                  have HALL2 : Hid (∀ (j : Nat) (z : Int), j < k + 1 → (readsI y)[j]? = some z → wl.contains z = true) := Lib.hid (fun j z' hj hz' => by
                    by_cases e : j = k
                    · subst e; rw [HZ.out] at hz'; injection hz' with hz'; subst hz'; exact HBZ.out
                    · exact HALL.out j z' (by omega) hz')
                  go_wp2_with fail
                  go_roundw
                  case rel => exact ⟨k + 1, by omega, by go_num, HB7.out, HALL2.out⟩
                  case measure => simp [intOf]; omega
              · have hke : k = m := by omega
                subst hke
                have HAL : Hid ((readsI y).all (fun k => wl.contains k) = true) := Lib.hid (by
                  rw [List.all_eq_true]
                  intro z hz
                  obtain ⟨j, hj, e⟩ := List.mem_iff_getElem.1 hz
                  exact HALL.out j z (by rw [HM.out] at hj; omega) (by rw [List.getElem?_eq_getElem hj, e]))
                have HOK : Hid (okI ni (R : Int) (S : Int) (wl, st) y = (if y.op = 30 then !st.contains y.n else !(y.op == 21 && !stE) && (decide (0 ≤ y.d) && decide (y.d < (R : Int))))) := Lib.hid (by
                  rw [HOD.out, HD.out, HBR.out, HBN.out]
                  show (true && (true && (true && ((readsI y).all (fun k => wl.contains k) && _)))) = _
                  rw [HAL.out, ← HSTE.out]; rfl)
                obtain ⟨y0, y1, y2, y3, y4, y5⟩ := HYk.out.ats
                obtain ⟨t0, t1, t2, t3, t4⟩ := (HXm.out.below HBmk.out HXm.out.lt).ats
                clear hkm
                by_cases h30 : y.op = 30
                · have hn0 := numD_store HBN.out h30
                  have k30 : (y.op == 30) = true := by simpa using h30
                  obtain ⟨q, hq⟩ : ∃ q : Nat, y.n = (q : Int) := ⟨y.n.toNat, by omega⟩
                  have hqS : q < S := by omega
                  have ct := (HSk.out.cellAt q (by omega)).trans (has_at hqS)
                  have ft := HSk.out.frozenAt q
                  rw [hq] at y5
                  obtain ⟨bs, hbs⟩ : ∃ b, st.contains (q : Int) = b := ⟨_, rfl⟩
                  rw [hbs] at ct
                  have HBS : Hid (st.contains y.n = bs) := Lib.hid (by rw [hq]; exact hbs)
                  have HQ := Lib.hid hq
                  have H30 := Lib.hid h30
                  clear hbs hq hn0
                  cases bs with
                  | true =>
                    have HK : Hid (checkK C = 1) := Lib.hid (HNXT.out.1 (by rw [HOK.out, if_pos h30, HBS.out]; rfl))
                    clear h30
                    go_wp2_with fail
                    go_ret
                    exact ⟨ret_int HK.out.symm, HXk.out⟩
                  | false =>
                    have HNX2 : Hid (goK ni (R : Int) (S : Int) (C.ins.take (i + 1)) ([], []) = some (wl, st ++ [(q : Int)])) := Lib.hid (by
                      have := HNXT.out.2 (by rw [HOK.out, if_pos h30, HBS.out]; rfl)
                      rw [this]; unfold goneI; rw [if_pos h30, HQ.out])
                    have HST : Hid ((wk.setCell ⟨x.heap.size + 1, q, none⟩ (.bool true)).ownsRow x.heap.size 4 1 (.slice (some ⟨x.heap.size + 1, 0, none⟩) S S) S (boolsOf (hasB S (st ++ [(q : Int)])))) := Lib.hid (by
                      have := (HSk.out.stored q (.bool true)).1
                      rw [has_set hqS] at this; exact this)
                    have HWT : Hid ((wk.setCell ⟨x.heap.size + 1, q, none⟩ (.bool true)).ownsRow x.heap.size 4 1 (.slice (some ⟨x.heap.size, 0, none⟩) R R) R (boolsOf (hasB R wl))) := Lib.hid (own_block HWk.out (fun p hp => Below.heap_setCell _ _ _ _ (fun e => by
                      have e2 : some x.heap.size = some p := hp
                      injection e2 with e2
                      subst e2
                      exact hneb e.symm)))
                    have HBT : Hid (Below x.heap.size x (wk.setCell ⟨x.heap.size + 1, q, none⟩ (.bool true))) := Lib.hid ((HB.out.trans (HBmk.out.mono HB.out.size)).setCell (p := ⟨x.heap.size + 1, q, none⟩) (by show x.heap.size ≤ x.heap.size + 1; omega) _)
                    have HNE : Hid (Value.bool true = .bool (!(st ++ [(q : Int)]).isEmpty)) := Lib.hid (by simp)
                    clear h30
                    go_wp2_with fail
                    go_roundw
                    case rel => exact ⟨i + 1, wl, st ++ [(q : Int)], by omega, by go_num, HNE.out, HNX2.out, HWB.out, HWT.out, HST.out, HBT.out⟩
                    case measure => simp [intOf]; omega
                · have k30 : (y.op == 30) = false := by simpa using h30
                  obtain ⟨b21, hb21⟩ : ∃ b, (y.op == 21) = b := ⟨_, rfl⟩
                  by_cases hbad : (b21 && !stE) = true
                  · have HK : Hid (checkK C = 1) := Lib.hid (HNXT.out.1 (by rw [HOK.out, if_neg h30, hb21, hbad]; rfl))
                    clear h30
                    cases b21 <;> cases stE <;> first | (exfalso; revert hbad; decide) | skip
                    go_wp2_with fail
                    go_ret
                    exact ⟨ret_int HK.out.symm, HXk.out⟩
                  have hbad2 : (b21 && !stE) = false := by simpa using hbad
                  by_cases hd0 : y.d < 0
                  · have e0 : decide (y.d < 0) = true := decide_eq_true hd0
                    have HK : Hid (checkK C = 1) := Lib.hid (HNXT.out.1 (by rw [HOK.out, if_neg h30, hb21, hbad2, decide_eq_false (show ¬ 0 ≤ y.d by omega)]; rfl))
                    clear h30
                    cases b21 <;> cases stE <;> first | (exfalso; revert hbad; decide) | skip
                    all_goals
                      go_wp2_with fail
                      go_ret
                      exact ⟨ret_int HK.out.symm, HXk.out⟩
                  have e0 : decide (y.d < 0) = false := decide_eq_false hd0
                  by_cases hdR : (R : Int) ≤ y.d
                  · have e1 : decide ((R : Int) ≤ y.d) = true := decide_eq_true hdR
                    have HK : Hid (checkK C = 1) := Lib.hid (HNXT.out.1 (by rw [HOK.out, if_neg h30, hb21, hbad2, decide_eq_false (show ¬ y.d < (R : Int) by omega), Bool.and_false, Bool.and_false]))
                    clear h30
                    cases b21 <;> cases stE <;> first | (exfalso; revert hbad; decide) | skip
                    all_goals
                      go_wp2_with fail
                      go_ret
                      exact ⟨ret_int HK.out.symm, HXk.out⟩
                  have e1 : decide ((R : Int) ≤ y.d) = false := decide_eq_false hdR
                  obtain ⟨q, hq⟩ : ∃ q : Nat, y.d = (q : Int) := ⟨y.d.toNat, by omega⟩
                  have hqR : q < R := by omega
                  have HNX2 : Hid (goK ni (R : Int) (S : Int) (C.ins.take (i + 1)) ([], []) = some (wl ++ [(q : Int)], st)) := Lib.hid (by
                    have := HNXT.out.2 (by rw [HOK.out, if_neg h30, hb21, hbad2, decide_eq_true (show 0 ≤ y.d by omega), decide_eq_true (show y.d < (R : Int) by omega)]; rfl)
                    rw [this]; unfold goneI; rw [if_neg h30, hq])
                  rw [hq] at y1 e0 e1
                  have ct := (HWk.out.cellAt q (by omega)).trans (has_at hqR)
                  have ft := HWk.out.frozenAt q
                  have HWT : Hid ((wk.setCell ⟨x.heap.size, q, none⟩ (.bool true)).ownsRow x.heap.size 4 1 (.slice (some ⟨x.heap.size, 0, none⟩) R R) R (boolsOf (hasB R (wl ++ [(q : Int)])))) := Lib.hid (by
                    have := (HWk.out.stored q (.bool true)).1
                    rw [has_set hqR] at this; exact this)
                  have HST : Hid ((wk.setCell ⟨x.heap.size, q, none⟩ (.bool true)).ownsRow x.heap.size 4 1 (.slice (some ⟨x.heap.size + 1, 0, none⟩) S S) S (boolsOf (hasB S st))) := Lib.hid (own_block HSk.out (fun p hp => Below.heap_setCell _ _ _ _ (fun e => by
                    have e2 : some (x.heap.size + 1) = some p := hp
                    injection e2 with e2
                    subst e2
                    exact hneb e)))
                  have HBT : Hid (Below x.heap.size x (wk.setCell ⟨x.heap.size, q, none⟩ (.bool true))) := Lib.hid ((HB.out.trans (HBmk.out.mono HB.out.size)).setCell (p := ⟨x.heap.size, q, none⟩) (Nat.le_refl _) _)
                  have HWB2 : Hid (∀ k ∈ wl ++ [(q : Int)], 0 ≤ k ∧ k < (R : Int)) := Lib.hid (fun k hk => by
                    rcases List.mem_append.1 hk with hk | hk
                    · exact HWB.out k hk
                    · simp at hk; omega)
                  have HEE : Hid (st.isEmpty = stE) := HSTE
                  generalize wl.contains (q : Int) = qb at ct
                  clear h30 hq hd0 hdR hbad2
                  cases b21 <;> cases stE <;> first | (exfalso; revert hbad; decide) | skip
                  all_goals
                    go_wp2_with fail
                    go_roundw
                    case rel => exact ⟨i + 1, wl ++ [(q : Int)], st, by omega, by go_num, by rw [HEE.out], HNX2.out, HWB2.out, HWT.out, HST.out, HBT.out⟩
                    case measure => simp [intOf]; omega
      · have hie : i = n := by omega
        subst hie
        have HK : Hid (checkK C = if C.outs.all (fun k => wl.contains k) then 0 else 1) := Lib.hid (HEN.out (wl, st) (by
          have := HGO.out
          rw [← HN.out, List.take_length] at this; exact this))
        have HXm2 : Hid (Below w.heap.size w wm) := Lib.hid (HBX.out.trans (HB.out.mono HBX.out.size))
        clear hin
        go_wp2_with fail
        go_loopw [11] (fun v11 wr => ∃ k : Nat, k ≤ no ∧ v11 = .int .i64 (k : Int) ∧ Below wm.heap.size wm wr ∧ ∀ (j : Nat) (z : Int), j < k → C.outs[j]? = some z → wl.contains z = true) (fun v11 _ => no - (intOf v11).toNat)
        case atStart => exact ⟨0, Nat.zero_le _, rfl, Below.refl _ _, fun j z h => by omega⟩
        case round =>
          obtain ⟨k, hk, rfl, hbk, hall⟩ := hrel
          have HALL := Lib.hid hall
          have HBk := Lib.hid hbk
          have hsk : wm.heap.size ≤ wr.heap.size := hbk.size
          have HXk : Hid (Below w.heap.size w wr) := Lib.hid (HXm2.out.trans (HBk.out.mono HXm2.out.size))
          have HWk := Lib.hid (own_below HWW.out HBk.out)
          obtain ⟨t0, t1, t2, t3, t4⟩ := (HXm.out.below hbk HXm.out.lt).ats
          clear hall hbk
          by_cases hkm : k < no
          · obtain ⟨z, hzz⟩ : ∃ z, C.outs[k]? = some z := ⟨_, List.getElem?_eq_getElem (by rw [HNO.out]; exact hkm)⟩
            obtain ⟨g', o', rfl, hg', f0⟩ := ints_at (HCm.out.2.1.below HBk.out (Nat.le_refl _)) hzz
            have HZ := Lib.hid hzz
            have HWR := Lib.hid (kwritten_any wr _ R R _ wl z HWk.out (by omega))
            rw [inB_of HWB.out] at HWR
            obtain ⟨bz, hbz⟩ : ∃ b, wl.contains z = b := ⟨_, rfl⟩
            rw [hbz] at HWR
            have HBZ := Lib.hid hbz
            clear hzz hbz
            go_wp2_with fail
            refine HWR.out.mono ?_
            rintro e w7 ⟨rfl, hb7⟩
            have HX7 : Hid (Below w.heap.size w w7) := Lib.hid (HXk.out.trans (hb7.mono HXk.out.size))
            have HB7 : Hid (Below wm.heap.size wm w7) := Lib.hid (HBk.out.trans (hb7.mono hsk))
            clear hb7
            cases bz with
            | false =>
              have HK1 : Hid (checkK C = 1) := Lib.hid (by
                rw [HK.out, if_neg]
                intro e
                rw [List.all_eq_true] at e
                have := e z (List.mem_of_getElem? HZ.out)
                rw [HBZ.out] at this; cases this)
              go_wp2_with fail
              go_ret
              exact ⟨ret_int HK1.out.symm, HX7.out⟩
            | true =>
              have HALL2 : Hid (∀ (j : Nat) (z : Int), j < k + 1 → C.outs[j]? = some z → wl.contains z = true) := Lib.hid (fun j z' hj hz' => by
                by_cases e : j = k
                · subst e; rw [HZ.out] at hz'; injection hz' with hz'; subst hz'; exact HBZ.out
                · exact HALL.out j z' (by omega) hz')
              go_wp2_with fail
              go_roundw
              case rel => exact ⟨k + 1, by omega, by go_num, HB7.out, HALL2.out⟩
              case measure => simp [intOf]; omega
          · have hke : k = no := by omega
            subst hke
            have HK1 : Hid (checkK C = 0) := Lib.hid (by
              rw [HK.out, if_pos]
              rw [List.all_eq_true]
              intro z hz
              obtain ⟨j, hj, e⟩ := List.mem_iff_getElem.1 hz
              exact HALL.out j z (by rw [HNO.out] at hj; omega) (by rw [List.getElem?_eq_getElem hj, e]))
            go_wp2_with fail
            go_ret
            exact ⟨ret_int HK1.out.symm, HXk.out⟩
end Go.Proofs.Ytcphjehjdhgheaa.Nt
