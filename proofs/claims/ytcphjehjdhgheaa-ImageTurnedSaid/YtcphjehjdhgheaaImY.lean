/- Whether two codes are the same. Conditions: none. -/
import Derived.Test.YtcphjehjdhgheaaKnZ
namespace Go.Proofs.Ytcphjehjdhgheaa.Nt
open Go.ChangeShapes Go.WideShapes Go.ChangeAt Go.RowKit Go.Proofs.Ytcphjehjdhgheaa.Tr
set_option linter.unusedVariables false
set_option linter.unusedSimpArgs false

def sameB (C D : Cod) : Bool := C.regs == D.regs && C.slots == D.slots && decide (C.ins = D.ins) && decide (C.outs = D.outs) && decide (C.inp = D.inp)
theorem same_eq {C D : Cod} : sameB C D = true ↔ C = D := by
  obtain ⟨a, b, c, d, e⟩ := C
  obtain ⟨a', b', c', d', e'⟩ := D
  unfold sameB
  simp
  constructor
  · rintro ⟨⟨⟨⟨rfl, rfl⟩, rfl⟩, rfl⟩, rfl⟩; exact ⟨rfl, rfl, rfl, rfl, rfl⟩
  · rintro ⟨rfl, rfl, rfl, rfl, rfl⟩; exact ⟨⟨⟨⟨rfl, rfl⟩, rfl⟩, rfl⟩, rfl⟩
def insEq (x y : Ins6) : Bool := x.op == y.op && x.d == y.d && x.a == y.a && x.b == y.b && x.c == y.c && x.n == y.n
theorem ins_eq {x y : Ins6} : insEq x y = true ↔ x = y := by
  obtain ⟨a, b, c, d, e, f⟩ := x
  obtain ⟨a', b', c', d', e', f'⟩ := y
  unfold insEq
  simp
  constructor
  · rintro ⟨⟨⟨⟨⟨rfl, rfl⟩, rfl⟩, rfl⟩, rfl⟩, rfl⟩; exact ⟨rfl, rfl, rfl, rfl, rfl, rfl⟩
  · rintro ⟨rfl, rfl, rfl, rfl, rfl, rfl⟩; exact ⟨⟨⟨⟨⟨rfl, rfl⟩, rfl⟩, rfl⟩, rfl⟩, rfl⟩
theorem take_more {l m : List Ins6} {i : Nat} {x y : Ins6} (h : l.take i = m.take i) (hx : l[i]? = some x) (hy : m[i]? = some y) : l.take (i + 1) = m.take (i + 1) ↔ x = y := by
  rw [List.take_add_one, List.take_add_one, hx, hy, h]
  simp
theorem undI : Try.prog.underlying 112 = some (.struct (Try.prog.fieldsOf 112)) := by kernel_rfl
theorem stoodI : Try.prog.stoodInHeld 112 = false := by kernel_rfl
theorem guardI : Try.prog.eqGuardType Try.prog.depth 112 = false := by kernel_rfl
def eq6 (a b c d e f a' b' c' d' e' f' : Int) : Bool := a == a' && (b == b' && (c == c' && (d == d' && (e == e' && f == f'))))
theorem equal_ins (k : Nat) (a b c d e f a' b' c' d' e' f' : Int) (w : World) :
    (Op.equalIn (k + 2) 112 (.agg #[.int .i64 a, .int .i64 b, .int .i64 c, .int .i64 d, .int .i64 e, .int .i64 f]) (.agg #[.int .i64 a', .int .i64 b', .int .i64 c', .int .i64 d', .int .i64 e', .int .i64 f'])).run Try.prog w = .ok (eq6 a b c d e f a' b' c' d' e' f') w := by
  rw [run_equalIn_agg w (k + 1) 112 _ _ undI stoodI]
  simp only [Program.fieldsOf, Try.underlying112]
  unfold eq6
  rcases Bool.eq_false_or_eq_true (a == a') with h1 | h1
  · rcases Bool.eq_false_or_eq_true (b == b') with h2 | h2
    · rcases Bool.eq_false_or_eq_true (c == c') with h3 | h3
      · rcases Bool.eq_false_or_eq_true (d == d') with h4 | h4
        · rcases Bool.eq_false_or_eq_true (e == e') with h5 | h5
          · rcases Bool.eq_false_or_eq_true (f == f') with h6 | h6
            · simp [go_sem, h1, h2, h3, h4, h5, h6, Try.underlying3]
            · simp [go_sem, h1, h2, h3, h4, h5, h6, Try.underlying3]
          · simp [go_sem, h1, h2, h3, h4, h5, Try.underlying3]
        · simp [go_sem, h1, h2, h3, h4, Try.underlying3]
      · simp [go_sem, h1, h2, h3, Try.underlying3]
    · simp [go_sem, h1, h2, Try.underlying3]
  · simp [go_sem, h1, Try.underlying3]
theorem neq_ins (a b c d e f a' b' c' d' e' f' : Int) (w : World) :
    (binOp .neq 112 (.agg #[.int .i64 a, .int .i64 b, .int .i64 c, .int .i64 d, .int .i64 e, .int .i64 f]) (.agg #[.int .i64 a', .int .i64 b', .int .i64 c', .int .i64 d', .int .i64 e', .int .i64 f'])).run Try.prog w = .ok (.bool (!eq6 a b c d e f a' b' c' d' e' f')) w := by
  rw [run_neq_struct, show (10000 : Nat) = 9998 + 2 from rfl, equal_ins]; rfl
theorem guard_ins (op : BinOp) (x y : Operand) (xs ys : Array Value) (w : World) : (eqGuard op 112 x y (.agg xs) (.agg ys)).run Try.prog w = .ok () w := run_eqGuard_agg w op 112 x y xs ys guardI
attribute [local go_sem ↓] neq_ins guard_ins
set_option maxRecDepth 100000 in
set_option maxHeartbeats 8000000 in
theorem ksame_any (w : World) (iv ov pv iu ou pu : Value) (C D : Cod) (h : CodR w iv ov pv C) (k : CodR w iu ou pu D) : Calls Try.prog 43 #[.agg #[iv, .int .i64 C.regs, .int .i64 C.slots, ov, pv], .agg #[iu, .int .i64 D.regs, .int .i64 D.slots, ou, pu]] w (fun e w' => e = .returned (.bool (sameB C D)) ∧ Below w.heap.size w w') := by
  obtain ⟨cA, cc, rfl, z1, z2⟩ := h.1.form
  obtain ⟨oA, oc, rfl, z3, z4⟩ := ints_form h.2.1
  obtain ⟨qA, qc, rfl, z5, z6⟩ := ints_form h.2.2
  obtain ⟨dA, dc, rfl, y1, y2⟩ := k.1.form
  obtain ⟨eA, ec, rfl, y3, y4⟩ := ints_form k.2.1
  obtain ⟨fA, fc, rfl, y5, y6⟩ := ints_form k.2.2
  have H := Lib.hid h
  have Kk := Lib.hid k
  obtain ⟨li, hli⟩ : ∃ k, C.ins.length = k := ⟨_, rfl⟩
  obtain ⟨lo, hlo⟩ : ∃ k, C.outs.length = k := ⟨_, rfl⟩
  obtain ⟨lq, hlq⟩ : ∃ k, C.inp.length = k := ⟨_, rfl⟩
  obtain ⟨rg, hrg⟩ : ∃ k, C.regs = k := ⟨_, rfl⟩
  obtain ⟨sl, hsl⟩ : ∃ k, C.slots = k := ⟨_, rfl⟩
  obtain ⟨mi, hmi⟩ : ∃ k, D.ins.length = k := ⟨_, rfl⟩
  obtain ⟨mo, hmo⟩ : ∃ k, D.outs.length = k := ⟨_, rfl⟩
  obtain ⟨mq, hmq⟩ : ∃ k, D.inp.length = k := ⟨_, rfl⟩
  obtain ⟨sg, hsg⟩ : ∃ k, D.regs = k := ⟨_, rfl⟩
  obtain ⟨tl, htl⟩ : ∃ k, D.slots = k := ⟨_, rfl⟩
  obtain ⟨B, hB⟩ : ∃ B, sameB C D = B := ⟨_, rfl⟩
  have HSB : Hid (B = (rg == sg && sl == tl && decide (C.ins = D.ins) && decide (C.outs = D.outs) && decide (C.inp = D.inp))) := Lib.hid (by rw [← hB]; unfold sameB; rw [hrg, hsg, hsl, htl])
  have HL := Lib.hid hli
  have HM := Lib.hid hmi
  rw [hli, hlo, hlq] at H
  rw [hmi, hmo, hmq] at Kk
  rw [hli, hlo, hlq, hrg, hsl, hmi, hmo, hmq, hsg, htl, hB]
  rw [hli] at z1
  rw [hmi] at y1
  unfold maxLen at z2 y2
  obtain ⟨x, hx⟩ : ∃ W, (w.alloc (.cells #[.slice cA li cc, .int .i64 rg, .int .i64 sl, .slice oA lo oc, .slice qA lq qc] 54)).alloc (.cells #[.slice dA mi dc, .int .i64 sg, .int .i64 tl, .slice eA mo ec, .slice fA mq fc] 54) = W := ⟨_, rfl⟩
  have HX := Lib.hid hx
  have HBX : Hid (Below w.heap.size w x) := Lib.hid (by rw [← hx]; exact below2 _ _ _)
  have HX1 : Hid (CodBox x w.heap.size 54 (.slice cA li cc) rg sl (.slice oA lo oc) (.slice qA lq qc)) := Lib.hid (by rw [← hx]; exact (codbox_new _ _ _ _ _ _ _).below (below_new _ _) (by simp))
  have HX2 : Hid (CodBox x (w.heap.size + 1) 54 (.slice dA mi dc) sg tl (.slice eA mo ec) (.slice fA mq fc)) := Lib.hid (by
    rw [← hx]
    have := codbox_new (w.alloc (.cells #[.slice cA li cc, .int .i64 rg, .int .i64 sl, .slice oA lo oc, .slice qA lq qc] 54)) 54 (.slice dA mi dc) (.slice eA mo ec) (.slice fA mq fc) sg tl
    rw [show (w.alloc (.cells #[.slice cA li cc, .int .i64 rg, .int .i64 sl, .slice oA lo oc, .slice qA lq qc] 54)).heap.size = w.heap.size + 1 by simp] at this
    exact this)
  have HC1 := Lib.hid (H.out.below HBX.out (Nat.le_refl _))
  have HC2 := Lib.hid (Kk.out.below HBX.out (Nat.le_refl _))
  obtain ⟨p0, p1, p2, p3, p4⟩ := HX1.out.ats
  obtain ⟨q0, q1, q2, q3, q4⟩ := HX2.out.ats
  clear h k hx hli hlo hlq hrg hsl hmi hmo hmq hsg htl hB
  go_enter Try.func43, Try.ntmps43
  by_cases h1 : rg = sg
  case' neg =>
    have hb : (rg != sg) = true := by simpa using h1
    have HF : Hid (B = false) := Lib.hid (by rw [HSB.out]; simp [h1])
    clear h1
    go_wp2_with fail
    try rw [HX.out]
    try go_wp2_with fail
    go_ret
    exact ⟨ret_bool HF.out.symm, HBX.out⟩
  subst h1
  by_cases h2 : sl = tl
  case' neg =>
    have hb : (sl != tl) = true := by simpa using h2
    have HF : Hid (B = false) := Lib.hid (by rw [HSB.out]; simp [h2])
    clear h2
    go_wp2_with fail
    try rw [HX.out]
    try go_wp2_with fail
    go_ret
    exact ⟨ret_bool HF.out.symm, HBX.out⟩
  subst h2
  by_cases h3 : li = mi
  case' neg =>
    have hb : ((li : Int) != (mi : Int)) = true := by simp; omega
    have HF : Hid (B = false) := Lib.hid (by
      have : ¬ C.ins = D.ins := fun e => h3 (by rw [← HL.out, ← HM.out, e])
      rw [HSB.out]; simp [this])
    clear h3
    go_wp2_with fail
    try rw [HX.out]
    try go_wp2_with fail
    go_ret
    exact ⟨ret_bool HF.out.symm, HBX.out⟩
  subst h3
  go_wp2_with fail
  try rw [HX.out]
  try go_wp2_with fail
  refine (ints_any _ _ C.outs D.outs x HC1.out.2.1 HC2.out.2.1).mono ?_
  rintro e w1 ⟨rfl, n1, hw1⟩
  have HB1 : Hid (Below x.heap.size x w1) := Lib.hid (by rw [hw1]; exact below_drewN (Below.refl _ _) n1)
  have HC11 := Lib.hid (HC1.out.below HB1.out (Nat.le_refl _))
  have HC21 := Lib.hid (HC2.out.below HB1.out (Nat.le_refl _))
  obtain ⟨s0, s1, s2, s3, s4⟩ := (HX1.out.below HB1.out HX1.out.lt).ats
  obtain ⟨t0, t1, t2, t3, t4⟩ := (HX2.out.below HB1.out HX2.out.lt).ats
  clear hw1 p0 p1 p2 p3 p4 q0 q1 q2 q3 q4
  by_cases h4 : C.outs = D.outs
  case' neg =>
    have hb : decide (C.outs = D.outs) = false := decide_eq_false h4
    have HF : Hid (B = false) := Lib.hid (by rw [HSB.out]; simp [h4])
    rw [hb]
    clear h4 hb
    go_wp2_with fail
    go_ret
    exact ⟨ret_bool HF.out.symm, HBX.out.trans (HB1.out.mono HBX.out.size)⟩
  have H4 := Lib.hid h4
  rw [decide_eq_true h4]
  clear h4
  go_wp2_with fail
  refine (ints_any _ _ C.inp D.inp w1 HC11.out.2.2 HC21.out.2.2).mono ?_
  rintro e w2 ⟨rfl, n2, hw2⟩
  have HB2 : Hid (Below x.heap.size x w2) := Lib.hid (by rw [hw2]; exact below_drewN HB1.out n2)
  have HC12 := Lib.hid (HC1.out.below HB2.out (Nat.le_refl _))
  have HC22 := Lib.hid (HC2.out.below HB2.out (Nat.le_refl _))
  clear hw2 s0 s1 s2 s3 s4 t0 t1 t2 t3 t4
  by_cases h5 : C.inp = D.inp
  case' neg =>
    have hb : decide (C.inp = D.inp) = false := decide_eq_false h5
    have HF : Hid (B = false) := Lib.hid (by rw [HSB.out]; simp [h5])
    rw [hb]
    clear h5 hb
    go_wp2_with fail
    go_ret
    exact ⟨ret_bool HF.out.symm, HBX.out.trans (HB2.out.mono HBX.out.size)⟩
  have H5 := Lib.hid h5
  rw [decide_eq_true h5]
  clear h5
  go_wp2_with fail
  go_loopw [5] (fun vi wr => ∃ (i : Nat), i ≤ li ∧ vi = .int .i64 (i : Int) ∧ C.ins.take i = D.ins.take i ∧ Below x.heap.size x wr) (fun vi _ => li - (intOf vi).toNat)
  case atStart => exact ⟨0, Nat.zero_le _, rfl, rfl, HB2.out⟩
  case round =>
    obtain ⟨i, hi, rfl, htk, hbr⟩ := hrel
    have HTK := Lib.hid htk
    have HBR := Lib.hid hbr
    obtain ⟨s0, s1, s2, s3, s4⟩ := (HX1.out.below hbr HX1.out.lt).ats
    obtain ⟨t0, t1, t2, t3, t4⟩ := (HX2.out.below hbr HX2.out.lt).ats
    clear htk hbr
    by_cases hlt : i < li
    · obtain ⟨u, hu⟩ : ∃ u, C.ins[i]? = some u := ⟨_, List.getElem?_eq_getElem (by rw [HL.out]; exact hlt)⟩
      obtain ⟨v, hv⟩ : ∃ v, D.ins[i]? = some v := ⟨_, List.getElem?_eq_getElem (by rw [HM.out]; exact hlt)⟩
      obtain ⟨g, o, rfl, hg, a0, a1, a2, a3, a4, a5⟩ := (HC1.out.1.below HBR.out (Nat.le_refl _)).at hu
      obtain ⟨g', o', rfl, hg', b0, b1, b2, b3, b4, b5⟩ := (HC2.out.1.below HBR.out (Nat.le_refl _)).at hv
      have HNX := Lib.hid (take_more HTK.out hu hv)
      have HNE : Hid (u ≠ v → B = false) := Lib.hid (fun hne => by
        have : ¬ C.ins = D.ins := fun e => by rw [e, hv] at hu; exact hne (Option.some.inj hu).symm
        rw [HSB.out]; simp [this])
      obtain ⟨uo, ud, ua, ub, uc, un⟩ := u
      obtain ⟨vo, vd, va, vb, vc, vn⟩ := v
      dsimp only at a0 a1 a2 a3 a4 a5 b0 b1 b2 b3 b4 b5
      have hl2 : (i : Int) < (li : Int) := by omega
      obtain ⟨eq, heq⟩ : ∃ b, insEq ⟨uo, ud, ua, ub, uc, un⟩ ⟨vo, vd, va, vb, vc, vn⟩ = b := ⟨_, rfl⟩
      have HEQ := Lib.hid heq
      clear hu hv
      cases eq with
      | true =>
        have huv := ins_eq.1 HEQ.out
        simp only [Ins6.mk.injEq] at huv
        obtain ⟨rfl, rfl, rfl, rfl, rfl, rfl⟩ := huv
        have HTN := Lib.hid (HNX.out.2 rfl)
        have h6 : eq6 uo ud ua ub uc un uo ud ua ub uc un = true := by simp [eq6]
        clear heq
        go_wp2_with fail
        go_quiet (fail)
        go_wp2_with fail
        go_roundw
        case rel => exact ⟨i + 1, by omega, by go_num, HTN.out, by first | exact below_drewN HBR.out _ | exact below_drewN (below_drewN HBR.out _) _⟩
        case measure => simp [intOf]; omega
      | false =>
        have HF := Lib.hid (HNE.out (fun e => by have := ins_eq.2 e; rw [HEQ.out] at this; cases this))
        have h6 : eq6 uo ud ua ub uc un vo vd va vb vc vn = false := by have := HEQ.out; unfold insEq at this; unfold eq6; simpa [Bool.and_assoc] using this
        clear heq
        go_wp2_with fail
        go_quiet (fail)
        go_wp2_with fail
        go_ret
        exact ⟨ret_bool HF.out.symm, HBX.out.trans ((below_drewN HBR.out _).mono HBX.out.size)⟩
    · have hl2 : ¬ (i : Int) < (li : Int) := by omega
      have HT : Hid (B = true) := Lib.hid (by
        have e : C.ins = D.ins := by
          have := HTK.out
          rw [List.take_of_length_le (by rw [HL.out]; omega), List.take_of_length_le (by rw [HM.out]; omega)] at this
          exact this
        rw [HSB.out, e, H4.out, H5.out]; simp)
      go_wp2_with fail
      go_ret
      exact ⟨ret_bool HT.out.symm, HBX.out.trans (HBR.out.mono HBX.out.size)⟩
end Go.Proofs.Ytcphjehjdhgheaa.Nt
