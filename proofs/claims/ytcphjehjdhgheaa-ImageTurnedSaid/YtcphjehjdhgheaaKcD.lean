/- The program's Check of code. Conditions: numbers have 64 bits. -/
import Derived.Test.YtcphjehjdhgheaaKcC
import Derived.Carry
namespace Go.Proofs.Ytcphjehjdhgheaa.Nt
open Go.ChangeShapes Go.WideShapes Go.ChangeAt Go.RowKit Go.Maps Go.WideMaps Go.Proofs.Ytcphjehjdhgheaa.Tr
set_option linter.unusedVariables false
set_option linter.unusedSimpArgs false

theorem put_any (w : World) (b n : Nat) (l : List Int) (k : Int) (h : SetIs w b n l) (hn : n < maxLen) (hk : W64 k) : Calls Try.prog 104 #[.map (some b), .int .i64 k] w (fun e w' => e = .returned (.tuple #[]) ∧ SetIs w' b (n + 1) (l ++ [k]) ∧ w.grownBy w' (some b)) := by
  obtain ⟨w', hrun, hs, hg⟩ := h.put hn k hk
  have HS := Lib.hid hs
  have HG := Lib.hid hg
  clear h hs hg
  go_enter Try.func104, Try.ntmps104
  go_wp2
  go_end0
  exact ⟨rfl, HS.out, HG.out⟩
abbrev GonePost (w : World) (bw bs n1 n2 : Nat) (wl st : List Int) (x : Ins6) (e : Ending) (w' : World) : Prop :=
  e = .returned (.tuple #[]) ∧ SetIs w' bw (n1 + 1) (goneI (wl, st) x).1 ∧ SetIs w' bs (n2 + 1) (goneI (wl, st) x).2 ∧ Kp (fun i => i = bw ∨ i = bs) w w'
theorem SetIs.mono {w : World} {b n m : Nat} {l : List Int} (h : SetIs w b n l) (hn : n ≤ m) : SetIs w b m l := by
  obtain ⟨D, h1, h2⟩ := h; exact ⟨D, h1.mono hn, h2⟩
set_option maxRecDepth 100000 in
set_option maxHeartbeats 4000000 in
theorem gone_any (w : World) (iv ov pv : Value) (R S : Int) (bw bs n1 n2 : Nat) (wl st : List Int) (x : Ins6) (hw : SetIs w bw n1 wl) (hs : SetIs w bs n2 st) (hne : bw ≠ bs) (hn1 : n1 < 1000000) (hn2 : n2 < 1000000) (hx : InsW x) :
    Calls Try.prog 63 #[chkV iv R S ov pv bw bs, insV x] w (GonePost w bw bs n1 n2 wl st x) := by
  obtain ⟨y, hy⟩ : ∃ W, (w.alloc (.cells #[iv, .int .i64 R, .int .i64 S, ov, pv, .map (some bw), .map (some bs)] 107)).alloc (.cells #[.int .i64 x.op, .int .i64 x.d, .int .i64 x.a, .int .i64 x.b, .int .i64 x.c, .int .i64 x.n] 109) = W := ⟨_, rfl⟩
  have HB : Hid (Below w.heap.size w y) := Lib.hid (by rw [← hy]; exact below2 _ _ _)
  have HX : Hid (ChkBox y w.heap.size iv R S ov pv bw bs) := Lib.hid (by
    rw [← hy]
    exact ⟨(Below.heap_alloc _ _ _ (by simp)).trans (heap_alloc_new _ _)⟩)
  have HY : Hid (InsBox y (w.heap.size + 1) 109 x) := Lib.hid (by
    rw [← hy]
    have := insbox_new (w.alloc (.cells #[iv, .int .i64 R, .int .i64 S, ov, pv, .map (some bw), .map (some bs)] 107)) 109 x
    rw [show (w.alloc (.cells #[iv, .int .i64 R, .int .i64 S, ov, pv, .map (some bw), .map (some bs)] 107)).heap.size = w.heap.size + 1 by simp] at this
    exact this)
  have hlw := hw.lt
  have hls := hs.lt
  have HW := Lib.hid (hw.below HB.out hw.lt)
  have HS := Lib.hid (hs.below HB.out hs.lt)
  have HXW := Lib.hid hx
  have HKP : Hid (Kp (fun i => i = bw ∨ i = bs) w y) := Lib.hid ((Kp.of_below HB.out).wide (fun _ _ h => h.elim))
  obtain ⟨o, d, a, b, c, m⟩ := x
  unfold insV
  dsimp only
  obtain ⟨p0, p1, p2, p3, p4, p5, p6⟩ := HX.out.ats
  obtain ⟨q0, q1, q2, q3, q4, q5⟩ := HY.out.ats
  dsimp only at q0 q1 q2 q3 q4 q5
  clear hw hs hx
  by_cases h30 : o = 30
  · subst h30
    have HP := Lib.hid (put_any y bs n2 st m HS.out (by unfold maxLen; omega) HXW.out.n)
    have HE : Hid (goneI (wl, st) ⟨30, d, a, b, c, m⟩ = (wl, st ++ [m])) := Lib.hid rfl
    go_enter Try.func63, Try.ntmps63
    go_wp2_with fail
    refine HP.out.mono ?_
    rintro e w1 ⟨rfl, h1, h2⟩
    have HF : Hid (GonePost w bw bs n1 n2 wl st ⟨30, d, a, b, c, m⟩ (.returned (.tuple #[])) w1) := Lib.hid ⟨rfl, by rw [HE.out]; exact (HW.out.keep (h2.block _ HW.out.lt (fun e => hne (by injection e)))).mono (by omega), by rw [HE.out]; exact h1, HKP.out.grown h2 (fun k hk _ => .inr (by injection hk with hk; exact hk.symm))⟩
    go_wp2
    go_end0
    exact HF.out
  · have k30 : (o == 30) = false := by simpa using h30
    have HP := Lib.hid (put_any y bw n1 wl d HW.out (by unfold maxLen; omega) HXW.out.d)
    have HE : Hid (goneI (wl, st) ⟨o, d, a, b, c, m⟩ = (wl ++ [d], st)) := Lib.hid (by unfold goneI; rw [if_neg h30])
    go_enter Try.func63, Try.ntmps63
    go_wp2_with fail
    refine HP.out.mono ?_
    rintro e w1 ⟨rfl, h1, h2⟩
    have HF : Hid (GonePost w bw bs n1 n2 wl st ⟨o, d, a, b, c, m⟩ (.returned (.tuple #[])) w1) := Lib.hid ⟨rfl, by rw [HE.out]; exact h1, by rw [HE.out]; exact (HS.out.keep (h2.block _ HS.out.lt (fun e => hne (by injection e with e; exact e.symm)))).mono (by omega), HKP.out.grown h2 (fun k hk _ => .inl (by injection hk with hk; exact hk.symm))⟩
    go_wp2
    go_end0
    exact HF.out
set_option maxHeartbeats 4000000 in
theorem sized_any (w : World) (A : Option Addr) (n c : Nat) (ov pv : Value) (R S : Int) (bw bs : Nat) (C : Cod) (hn : C.ins.length = n) (hR : C.regs = R) (hS : C.slots = S) : Calls Try.prog 61 #[chkV (.slice A n c) R S ov pv bw bs] w (fun e w' => e = .returned (.bool (sizedB C)) ∧ Below w.heap.size w w') := by
  have HB := Lib.hid (below_new w (.cells #[.slice A n c, .int .i64 R, .int .i64 S, ov, pv, .map (some bw), .map (some bs)] 107))
  have HBE := Lib.hid (fun (i e : Int) W => below_any i e W)
  have HZ : Hid (sizedB C = ((decide (0 ≤ R) && decide (R < 100001)) && ((decide (0 ≤ S) && decide (S < 100001)) && decide ((n : Int) ≤ 200000)))) := Lib.hid (by
    unfold sizedB
    rw [hR, hS, hn, Bool.eq_iff_iff]
    simp only [Bool.and_eq_true, decide_eq_true_eq]
    omega)
  obtain ⟨b1, hb1⟩ : ∃ b, (decide (0 ≤ R) && decide (R < 100001)) = b := ⟨_, rfl⟩
  obtain ⟨b2, hb2⟩ : ∃ b, (decide (0 ≤ S) && decide (S < 100001)) = b := ⟨_, rfl⟩
  rw [hb1, hb2] at HZ
  have H1 : Hid (∀ W, Calls Try.prog 100 #[.int .i64 R, .int .i64 100001] W (fun e w' => e = .returned (.bool b1) ∧ w' = W)) := Lib.hid (fun W => by have := HBE.out R 100001 W; rw [hb1] at this; exact this)
  have H2 : Hid (∀ W, Calls Try.prog 100 #[.int .i64 S, .int .i64 100001] W (fun e w' => e = .returned (.bool b2) ∧ w' = W)) := Lib.hid (fun W => by have := HBE.out S 100001 W; rw [hb2] at this; exact this)
  clear hb1 hb2 hn hR hS
  cases b1 with
  | false =>
    go_enter Try.func61, Try.ntmps61
    go_wp2_with fail
    refine (H1.out _).mono ?_
    rintro e w' ⟨rfl, rfl⟩
    go_wp2_with fail
    go_ret
    exact ⟨ret_bool HZ.out.symm, HB.out⟩
  | true =>
  cases b2 with
  | false =>
    go_enter Try.func61, Try.ntmps61
    go_wp2_with fail
    refine (H1.out _).mono ?_
    rintro e w' ⟨rfl, rfl⟩
    go_wp2_with fail
    refine (H2.out _).mono ?_
    rintro e w' ⟨rfl, rfl⟩
    go_wp2_with fail
    go_ret
    exact ⟨ret_bool HZ.out.symm, HB.out⟩
  | true =>
    go_enter Try.func61, Try.ntmps61
    go_wp2_with fail
    refine (H1.out _).mono ?_
    rintro e w' ⟨rfl, rfl⟩
    go_wp2_with fail
    refine (H2.out _).mono ?_
    rintro e w' ⟨rfl, rfl⟩
    go_wp2_with fail
    go_ret
    exact ⟨ret_bool (by rw [HZ.out]; simp), HB.out⟩
set_option maxRecDepth 100000 in
set_option maxHeartbeats 8000000 in
theorem ccheck_any (w : World) (iv ov pv : Value) (C : Cod) (h : CodR w iv ov pv C) (hw : CodW C) : Calls Try.prog 33 #[.agg #[iv, .int .i64 C.regs, .int .i64 C.slots, ov, pv]] w (fun e w' => e = .returned (.int .i64 (checkK C)) ∧ Below w.heap.size w w') := by
  have HH := Lib.hid h
  have HCW := Lib.hid hw
  obtain ⟨A, c, rfl, z1, z2⟩ := h.1.form
  obtain ⟨A2, c2, rfl, z3, z4⟩ := ints_form h.2.1
  obtain ⟨A3, c3, rfl, z5, z6⟩ := ints_form h.2.2
  obtain ⟨n, hn⟩ : ∃ L, C.ins.length = L := ⟨_, rfl⟩
  obtain ⟨no, hno⟩ : ∃ L, C.outs.length = L := ⟨_, rfl⟩
  obtain ⟨ni, hni⟩ : ∃ L, C.inp.length = L := ⟨_, rfl⟩
  obtain ⟨R, hregs⟩ : ∃ r, C.regs = r := ⟨_, rfl⟩
  obtain ⟨S, hslots⟩ : ∃ r, C.slots = r := ⟨_, rfl⟩
  have HN := Lib.hid hn
  have HNO := Lib.hid hno
  have HNI := Lib.hid hni
  have HRE := Lib.hid hregs
  have HSL := Lib.hid hslots
  rw [hn, hno, hni] at HH ⊢
  rw [hn] at z1
  rw [hno] at z3
  rw [hni] at z5
  rw [hregs, hslots]
  unfold maxLen at z2 z4 z6
  obtain ⟨x, hx⟩ : ∃ W, w.alloc (.cells #[.slice A n c, .int .i64 R, .int .i64 S, .slice A2 no c2, .slice A3 ni c3] 59) = W := ⟨_, rfl⟩
  have hbx : Below w.heap.size w x := by rw [← hx]; exact below_new _ _
  have hxs : x.heap.size = w.heap.size + 1 := by rw [← hx]; simp
  have hxx : CodBox x w.heap.size 59 (.slice A n c) R S (.slice A2 no c2) (.slice A3 ni c3) := by rw [← hx]; exact codbox_new _ _ _ _ _ _ _
  obtain ⟨x1, hx1⟩ : ∃ W, x.alloc (.map #[] 0) = W := ⟨_, rfl⟩
  have hb1 : Below x.heap.size x x1 := by rw [← hx1]; exact below_new _ _
  have hx1s : x1.heap.size = w.heap.size + 2 := by rw [← hx1]; simp; omega
  have hm1 : SetIs x1 x.heap.size 0 [] := by rw [← hx1]; exact SetIs.made x
  obtain ⟨x2, hx2⟩ : ∃ W, x1.alloc (.map #[] 0) = W := ⟨_, rfl⟩
  have hb2 : Below x1.heap.size x1 x2 := by rw [← hx2]; exact below_new _ _
  have hx2s : x2.heap.size = w.heap.size + 3 := by rw [← hx2]; simp; omega
  have hm2 : SetIs x2 x1.heap.size 0 [] := by rw [← hx2]; exact SetIs.made x1
  obtain ⟨x3, hx3⟩ : ∃ W, x2.alloc (.cells #[.slice A n c, .int .i64 R, .int .i64 S, .slice A2 no c2, .slice A3 ni c3, .map (some (w.heap.size + 1)), .map (some (w.heap.size + 2))] 107) = W := ⟨_, rfl⟩
  have hb3 : Below x2.heap.size x2 x3 := by rw [← hx3]; exact below_new _ _
  have hx3s : x3.heap.size = w.heap.size + 4 := by rw [← hx3]; simp; omega
  have hc3 : ChkBox x3 x2.heap.size (.slice A n c) R S (.slice A2 no c2) (.slice A3 ni c3) (w.heap.size + 1) (w.heap.size + 2) := by rw [← hx3]; exact ⟨heap_alloc_new _ _⟩
  rw [hx2s] at hc3
  rw [hxs] at hm1
  rw [hx1s] at hm2
  have HC3 := Lib.hid hc3
  have hb23 : Below x.heap.size x x3 := hb1.trans ((hb2.trans (hb3.mono (by omega))).mono (by omega))
  have HM1 : Hid (SetIs x3 (w.heap.size + 1) 0 []) := Lib.hid ((hm1.below hb2 (by omega)).below hb3 (by omega))
  have HM2 : Hid (SetIs x3 (w.heap.size + 2) 0 []) := Lib.hid (hm2.below hb3 (by omega))
  have HX3 := Lib.hid (hxx.below hb23 (by omega))
  have HB3 : Hid (Below w.heap.size w x3) := Lib.hid (hbx.trans (hb23.mono (by omega)))
  have HSZ := Lib.hid (fun W => sized_any W A n c (.slice A2 no c2) (.slice A3 ni c3) R S (w.heap.size + 1) (w.heap.size + 2) C hn hregs hslots)
  have HNX : Hid (∀ (i : Nat) (y : Ins6) (s : List Int × List Int), C.ins[i]? = some y → goK ni R S (C.ins.take i) ([], []) = some s → (okI ni R S s y = false → checkK C = 1) ∧ (okI ni R S s y = true → goK ni R S (C.ins.take (i + 1)) ([], []) = some (goneI s y))) := Lib.hid (fun i y s hi hg =>
    ⟨fun ho => check_bad (i := i) (x := y) (s := s) (by rw [hni, hregs, hslots]; exact hg) hi (by rw [hni, hregs, hslots]; exact ho), fun ho => goK_next hg hi ho⟩)
  have HEN : Hid (sizedB C = true → ∀ s, goK ni R S C.ins ([], []) = some s → checkK C = if C.outs.all (fun k => s.1.contains k) then 0 else 1) := Lib.hid (fun hz s hg => check_end hz (by rw [hni, hregs, hslots]; exact hg))
  have HUS : Hid (sizedB C = false → checkK C = 1) := Lib.hid check_unsized
  have HLE : Hid (sizedB C = true → n ≤ 200000) := Lib.hid (fun hz => by unfold sizedB at hz; simp only [Bool.and_eq_true, decide_eq_true_eq] at hz; omega)
  have heu := eUnwr
  obtain ⟨p0, p1, p2, p3, p4, p5, p6⟩ := HC3.out.ats
  obtain ⟨r0, r1, r2, r3, r4⟩ := hxx.ats
  clear h hw hn hno hni hregs hslots hb1 hb2 hb3 hb23 hbx hxx hm1 hm2 hc3
  have hmm := @run_makeMap Try.prog
  go_enter Try.func33, Try.ntmps33
  go_wp2_with fail
  clear hmm hx hx1 hx2 hx3 r0 r1 r2 r3 r4
  refine (HSZ.out _).mono ?_
  obtain ⟨bz, hbz⟩ : ∃ b, sizedB C = b := ⟨_, rfl⟩
  rw [hbz] at HEN HUS HLE ⊢
  rintro e x4 ⟨rfl, hb4⟩
  have hx4s : w.heap.size + 4 ≤ x4.heap.size := by have := hb4.size; omega
  have HB4 : Hid (Below w.heap.size w x4) := Lib.hid (HB3.out.trans (hb4.mono HB3.out.size))
  have HM14 := Lib.hid (HM1.out.below hb4 HM1.out.lt)
  have HM24 := Lib.hid (HM2.out.below hb4 HM2.out.lt)
  have HC4 := Lib.hid (HC3.out.below hb4 HC3.out.lt)
  have HX4 := Lib.hid (HX3.out.below hb4 HX3.out.lt)
  clear hb4 p0 p1 p2 p3 p4 p5 p6 hbz
  cases bz with
  | false =>
    have HK : Hid (checkK C = 1) := Lib.hid (HUS.out rfl)
    go_wp2_with fail
    go_ret
    exact ⟨ret_int HK.out.symm, HB4.out⟩
  | true =>
    have hn2 := HLE.out rfl
    obtain ⟨t0, t1, t2, t3, t4⟩ := HX4.out.ats
    simp only [Bool.not_true]
    go_wp2_with fail
    go_loopw [16] (fun v16 wr => ∃ (i : Nat) (wl st : List Int), i ≤ n ∧ v16 = .int .i64 (i : Int) ∧ goK ni R S (C.ins.take i) ([], []) = some (wl, st) ∧ SetIs wr (w.heap.size + 1) i wl ∧ SetIs wr (w.heap.size + 2) i st ∧
      ChkBox wr (w.heap.size + 3) (.slice A n c) R S (.slice A2 no c2) (.slice A3 ni c3) (w.heap.size + 1) (w.heap.size + 2) ∧ CodBox wr w.heap.size 59 (.slice A n c) R S (.slice A2 no c2) (.slice A3 ni c3) ∧ Below w.heap.size w wr ∧ w.heap.size + 4 ≤ wr.heap.size) (fun v16 _ => n - (intOf v16).toNat)
    case atStart => exact ⟨0, [], [], Nat.zero_le _, rfl, rfl, HM14.out, HM24.out, HC4.out, HX4.out, HB4.out, hx4s⟩
    case round =>
      obtain ⟨i, wl, st, hi, rfl, hgo, hm1, hm2, hck, hcx, hb, hsz⟩ := hrel
      have HGO := Lib.hid hgo
      have HM1r := Lib.hid hm1
      have HM2r := Lib.hid hm2
      have HCK := Lib.hid hck
      have HCX := Lib.hid hcx
      have HB := Lib.hid hb
      obtain ⟨wm, hwm⟩ : ∃ W, W = wr := ⟨_, rfl⟩
      subst hwm
      have HHm := Lib.hid (HH.out.below hb (Nat.le_refl _))
      clear hgo hm1 hm2 hck hcx hb
      by_cases hin : i < n
      · obtain ⟨y, hy⟩ : ∃ y, C.ins[i]? = some y := ⟨_, List.getElem?_eq_getElem (by rw [HN.out]; exact hin)⟩
        obtain ⟨g, o, rfl, hg, e0, e1, e2, e3, e4, e5⟩ := HHm.out.1.at hy
        have HNXT := Lib.hid (HNX.out i y (wl, st) hy HGO.out)
        have HYW := Lib.hid (HCW.out.1 y (List.mem_of_getElem? hy))
        obtain ⟨w3, hw3⟩ : ∃ W, wm.alloc (.cells #[.int .i64 y.op, .int .i64 y.d, .int .i64 y.a, .int .i64 y.b, .int .i64 y.c, .int .i64 y.n] 109) = W := ⟨_, rfl⟩
        have hb3 : Below wm.heap.size wm w3 := by rw [← hw3]; exact below_new _ _
        have HY3 : Hid (InsBox w3 wm.heap.size 109 y) := Lib.hid (by rw [← hw3]; exact insbox_new _ _ _)
        have HBm3 := Lib.hid hb3
        have HCK3 := Lib.hid (HCK.out.below hb3 HCK.out.lt)
        have HMA := Lib.hid (cmay_any w3 (.slice (some ⟨g, o, none⟩) n c) (.slice A2 no c2) (.slice A3 ni c3) R S (w.heap.size + 1) (w.heap.size + 2) i i wl st C.inp y (HM1r.out.below hb3 HM1r.out.lt) (HM2r.out.below hb3 HM2r.out.lt) (HHm.out.2.2.below hb3 (Nat.le_refl _)) HYW.out)
        rw [HNI.out] at HMA
        obtain ⟨bo, hbo⟩ : ∃ b, okI ni R S (wl, st) y = b := ⟨_, rfl⟩
        rw [hbo] at HMA HNXT
        obtain ⟨y0, y1, y2, y3, y4, y5⟩ := HY3.out.ats
        obtain ⟨u0, u1, u2, u3, u4, u5, u6⟩ := HCK3.out.ats
        clear hy hb3 hbo
        go_wp2_with fail
        clear hw3 e0 e1 e2 e3 e4 e5
        refine HMA.out.mono ?_
        rintro e w4 ⟨rfl, hb4⟩
        have HB4 : Hid (Below wm.heap.size wm w4) := Lib.hid (HBm3.out.trans (hb4.mono HBm3.out.size))
        have HY4 := Lib.hid (HY3.out.below hb4 HY3.out.lt)
        have HCK4 := Lib.hid (HCK3.out.below hb4 HCK3.out.lt)
        have HCX4 := Lib.hid (HCX.out.below HB4.out HCX.out.lt)
        have HBw4 : Hid (Below w.heap.size w w4) := Lib.hid (HB.out.trans (HB4.out.mono HB.out.size))
        clear hb4 y0 y1 y2 y3 y4 y5 u0 u1 u2 u3 u4 u5 u6
        cases bo with
        | false =>
          have HK : Hid (checkK C = 1) := Lib.hid (HNXT.out.1 rfl)
          go_wp2_with fail
          go_ret
          exact ⟨ret_int HK.out.symm, HBw4.out⟩
        | true =>
          have HGN := Lib.hid (HNXT.out.2 rfl)
          have HGA := Lib.hid (gone_any w4 (.slice (some ⟨g, o, none⟩) n c) (.slice A2 no c2) (.slice A3 ni c3) R S (w.heap.size + 1) (w.heap.size + 2) i i wl st y (HM1r.out.below HB4.out HM1r.out.lt) (HM2r.out.below HB4.out HM2r.out.lt) (by omega) (by omega) (by omega) HYW.out)
          obtain ⟨y0, y1, y2, y3, y4, y5⟩ := HY4.out.ats
          obtain ⟨u0, u1, u2, u3, u4, u5, u6⟩ := HCK4.out.ats
          simp only [Bool.not_true]
          go_wp2_with fail
          refine HGA.out.mono ?_
          rintro e w5 ⟨rfl, hs1, hs2, hkp⟩
          have HS1 := Lib.hid hs1
          have HS2 := Lib.hid hs2
          have HCK5 := Lib.hid (HCK4.out.keep (hkp.block _ HCK4.out.lt (by omega)))
          have HCX5 : Hid (CodBox w5 w.heap.size 59 (.slice (some ⟨g, o, none⟩) n c) R S (.slice A2 no c2) (.slice A3 ni c3)) := Lib.hid ⟨(hkp.block _ HCX4.out.lt (by omega)).trans HCX4.out.cell⟩
          have HB5 : Hid (Below w.heap.size w w5) := Lib.hid (HBw4.out.trans (hkp.below HBw4.out.size (fun i _ h => by omega)))
          have hs5 : w.heap.size + 4 ≤ w5.heap.size := by have := HB4.out.size; have := hkp.size; omega
          clear hs1 hs2 hkp y0 y1 y2 y3 y4 y5 u0 u1 u2 u3 u4 u5 u6
          go_wp2_with fail
          go_roundw
          case rel => exact ⟨i + 1, _, _, by omega, by go_num, HGN.out, HS1.out, HS2.out, HCK5.out, HCX5.out, HB5.out, hs5⟩
          case measure => simp [intOf]; omega
      · have hie : i = n := by omega
        subst hie
        have HK : Hid (checkK C = if C.outs.all (fun k => wl.contains k) then 0 else 1) := Lib.hid (HEN.out (by first | rfl | trivial) (wl, st) (by
          have := HGO.out
          rw [← HN.out, List.take_length] at this; exact this))
        have HCO := Lib.hid (contM_any 64 (chkV (.slice A i c) R S (.slice A2 no c2) (.slice A3 ni c3) (w.heap.size + 1) (w.heap.size + 2)) heu A2 no c2 C.outs wm (fun k => !wl.contains k) HNO.out.symm (by unfold maxLen; omega) HHm.out.2.1
          (fun v hv W hW => unwr_any W _ _ _ R S _ _ i wl v (HM1r.out.below hW HM1r.out.lt) (HCW.out.2 v hv)))
        have HAN : Hid ((C.outs.any fun k => !wl.contains k) = !(C.outs.all fun k => wl.contains k)) := Lib.hid (by rw [List.not_all_eq_any_not])
        obtain ⟨ba, hba⟩ : ∃ b, (C.outs.any fun k => !wl.contains k) = b := ⟨_, rfl⟩
        rw [hba] at HCO HAN
        obtain ⟨u0, u1, u2, u3, u4, u5, u6⟩ := HCK.out.ats
        obtain ⟨s0, s1, s2, s3, s4⟩ := HCX.out.ats
        clear hba hin
        go_wp2_with fail
        refine HCO.out.mono ?_
        rintro e w5 ⟨rfl, hb5⟩
        have HB5 : Hid (Below w.heap.size w w5) := Lib.hid (HB.out.trans (hb5.mono HB.out.size))
        cases ba with
        | true =>
          have HK1 : Hid (checkK C = 1) := Lib.hid (by
            have := HAN.out
            rw [HK.out, if_neg]
            intro e; rw [e] at this; cases this)
          go_wp2_with fail
          go_ret
          exact ⟨ret_int HK1.out.symm, HB5.out⟩
        | false =>
          have HK1 : Hid (checkK C = 0) := Lib.hid (by
            have := HAN.out
            rw [HK.out, if_pos]
            cases e : (C.outs.all fun k => wl.contains k) with
            | true => rfl
            | false => rw [e] at this; cases this)
          go_wp2_with fail
          go_ret
          exact ⟨ret_int HK1.out.symm, HB5.out⟩
end Go.Proofs.Ytcphjehjdhgheaa.Nt
