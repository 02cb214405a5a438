/- What lays instructions: one operator's. Conditions: few of all. -/
import Derived.Test.YtcphjehjdhgheaaKmCd
import Derived.Deep.RegionHeld3
import Derived.Deep.RegionLaw
import Derived.Deep.DeepCutAuto
import Derived.Deep.CutRange
namespace Go.Proofs.Ytcphjehjdhgheaa.Nt
open Go.ChangeShapes Go.WideShapes Go.ChangeAt Go.RowKit Go.Proofs.Ytcphjehjdhgheaa.Tr
set_option linter.unusedVariables false
set_option linter.unusedSimpArgs false

variable {w0 W W' : World} {B b : Nat} {S : Net} {pv qv iv ov ev lv fv : Value} {m : Mk} {outs : List Int}
set_option maxRecDepth 100000 in
set_option maxHeartbeats 16000000 in
theorem lay_any (h : MkS w0 B b S pv qv W iv ov ev lv fv m outs) (i : Nat) (o : Op5) (ho : S.ops[i]? = some o) (hll : m.loc.length = i) (hel : m.ends.length = S.ops.length) (hn3 : S.ops.length ≤ 1000) (hil : m.ins.length = i) (hfl : m.free.length ≤ 4 * i) (hrl : m.regs ≤ i) (hsl : m.slots ≤ i)
    (hf : o.op ≠ 21 → ∀ k ∈ [o.a, o.b, o.c], k < 0 ∨ (0 ≤ k ∧ k < (i : Int))) : Calls Try.prog 70 #[.pointer (some ⟨b, 0, none⟩), .int .i64 (i : Int)] W (LayPost w0 B b S pv qv ov ev (layM i o m) outs) := by
  obtain ⟨i0, hi0, hz0, hz1, hz2⟩ := info_parts info3
  obtain ⟨j0, hj0, hy0, hy1, hy2⟩ := info_parts infoK
  have hiS : i < S.ops.length := (List.getElem?_eq_some_iff.1 ho).1
  have HF := Lib.hid hf
  obtain ⟨p0, p1, p2, p3, p4, p5, p6, p7, p8⟩ := h.ats
  obtain ⟨QA, qc, rfl, z1, z2⟩ := h.ops.form
  unfold maxLen at z2
  obtain ⟨n, hn⟩ : ∃ n, S.ops.length = n := ⟨_, rfl⟩
  have hB0 : Below w0.heap.size w0 W := by
    have := h.old
    exact this.mono (Nat.le_refl _) |> fun _ => { os := h.old.os, tape := h.old.tape, output := h.old.output, size := h.old.size, block := fun g hg => h.old.block g (by have := h.lo; omega) }
  obtain ⟨g, oo, rfl, hg, d0, d1, d2, d3, d4⟩ := (h.ops.below hB0 (Nat.le_refl _)).at ho
  rw [hn] at hiS hel hn3 z1
  rw [hn] at p5
  have HN := Lib.hid hn
  have HLY : Hid (∀ s t, s = (if o.op = 21 then (m.free, m.ends) else leave3 i m.loc (m.free, m.ends) [o.a, o.b, o.c]) → t = takeM m.regs s.1 → layM i o m = { ins := m.ins ++ [if o.op = 21 then ⟨o.op, t.1, 0, 0, 0, (m.slots : Int)⟩ else ⟨o.op, t.1, regI m.loc o.a, regI m.loc o.b, regI m.loc o.c, o.n⟩], regs := t.2.1, slots := if o.op = 21 then m.slots + 1 else m.slots, loc := m.loc ++ [t.1], free := if at0 s.2 (i : Int) = -1 then t.2.2 ++ [t.1] else t.2.2, ends := s.2 }) := Lib.hid (fun s t hs ht => by
    subst hs; subst ht; rfl)
  obtain ⟨oop, oa, ob, oc, on⟩ := o
  dsimp only at d0 d1 d2 d3 d4 HLY HF
  obtain ⟨w2, hw2⟩ : ∃ V, (W.alloc (.cells #[.int .i64 oop, .int .i64 oa, .int .i64 ob, .int .i64 oc, .int .i64 on] 79)).alloc (.cells #[.int .i64 oop, .int .i64 0, .int .i64 0, .int .i64 0, .int .i64 0, .int .i64 on] 109) = V := ⟨_, rfl⟩
  have hb2 : Below W.heap.size W w2 := by rw [← hw2]; exact below2 _ _ _
  have hw2s : w2.heap.size = W.heap.size + 2 := by rw [← hw2]; simp
  have HO2 : Hid (OpBox w2 W.heap.size 79 ⟨oop, oa, ob, oc, on⟩) := Lib.hid ⟨by rw [← hw2]; exact (Below.heap_alloc _ _ _ (by simp)).trans (heap_alloc_new _ _)⟩
  have HX2 : Hid (InsBox w2 (W.heap.size + 1) 109 ⟨oop, 0, 0, 0, 0, on⟩) := Lib.hid (by
    rw [← hw2]
    have := insbox_new (W.alloc (.cells #[.int .i64 oop, .int .i64 oa, .int .i64 ob, .int .i64 oc, .int .i64 on] 79)) 109 ⟨oop, 0, 0, 0, 0, on⟩
    rw [show (W.alloc (.cells #[.int .i64 oop, .int .i64 oa, .int .i64 ob, .int .i64 oc, .int .i64 on] 79)).heap.size = W.heap.size + 1 by simp] at this
    exact this)
  have HM2 := Lib.hid (h.below hb2)
  have HB2 := Lib.hid hb2
  have HIVX : Hid (iv.ownBlock ≠ some (W.heap.size + 1)) := Lib.hid (fun e => by have := (h.ins.lt _ e).2; omega)
  have hBW := h.size
  obtain ⟨ox0, ox1, ox2, ox3, ox4, -, -, -⟩ := HO2.out.ats
  obtain ⟨x0, x1, x2, x3, x4, x5⟩ := HX2.out.ats
  obtain ⟨xf1, xf2, xf3, xf4, xf5⟩ := HX2.out.fzs
  dsimp only at ox0 ox1 ox2 ox3 ox4 x0 x1 x2 x3 x4 x5
  obtain ⟨t0, t1, t2, t3, t4, t5, t6, t7, t8⟩ := HM2.out.ats
  obtain ⟨f0, f1, f2, f3, f7, f8⟩ := HM2.out.fzs
  rw [hn] at t5
  have HMR := Lib.hid h
  clear h hn hB0 hb2
  go_enter Try.func70, Try.ntmps70
  go_upto_if 20 with fail
  try rw [hw2]
  try clear hw2
  go_cut [] from 20 to 60 (fun wx => ∃ (fv1 : Value) (R : Mk) (AA BB CC NN : Int), MkS w0 B b S pv (.slice (some ⟨g, oo, none⟩) S.ops.length qc) wx iv ov ev lv fv1 R outs ∧ InsBox wx (W.heap.size + 1) 109 ⟨oop, 0, AA, BB, CC, NN⟩ ∧ W.heap.size + 2 ≤ wx.heap.size ∧ R.free.length ≤ 5000 ∧ R.ends.length = n ∧ (R.ins = m.ins ∧ R.loc = m.loc ∧ R.regs = m.regs ∧ True) ∧ ∀ t, t = takeM R.regs R.free → layM i ⟨oop, oa, ob, oc, on⟩ m = { ins := R.ins ++ [⟨oop, t.1, AA, BB, CC, NN⟩], regs := t.2.1, slots := R.slots, loc := R.loc ++ [t.1], free := if at0 R.ends (i : Int) = -1 then t.2.2 ++ [t.1] else t.2.2, ends := R.ends })
  case first =>
    by_cases hp : oop = 21
    · subst hp
      have HS : Hid (MkS w0 B b S pv (.slice (some ⟨g, oo, none⟩) S.ops.length qc) ((w2.setCell ⟨W.heap.size + 1, 5, none⟩ (.int .i64 (m.slots : Int))).setCell ⟨b, 2, none⟩ (.int .i64 ((m.slots : Int) + 1))) iv ov ev lv fv { m with slots := m.slots + 1 } outs) := Lib.hid (by
        have := (HM2.out.setIns HX2.out (by omega) HIVX.out 5 (.int .i64 (m.slots : Int))).setSlots (m.slots + 1)
        rw [show ((m.slots + 1 : Nat) : Int) = (m.slots : Int) + 1 by omega] at this
        exact this)
      have hbX := HM2.out.neIns HX2.out
      have hXb : W.heap.size + 1 ≠ b := fun e => hbX e.symm
      have HX3 : Hid (InsBox ((w2.setCell ⟨W.heap.size + 1, 5, none⟩ (.int .i64 (m.slots : Int))).setCell ⟨b, 2, none⟩ (.int .i64 ((m.slots : Int) + 1))) (W.heap.size + 1) 109 ⟨21, 0, 0, 0, 0, (m.slots : Int)⟩) := Lib.hid (((HX2.out.set (m.slots : Int)).2).keep (Below.heap_setCell _ _ _ _ hXb))
      obtain ⟨wt, hwt⟩ : ∃ V, (w2.setCell ⟨W.heap.size + 1, 5, none⟩ (.int .i64 (m.slots : Int))).setCell ⟨b, 2, none⟩ (.int .i64 ((m.slots : Int) + 1)) = V := ⟨_, rfl⟩
      rw [hwt] at HS HX3
      have hwts : W.heap.size + 2 ≤ wt.heap.size := by rw [← hwt]; simp; omega
      obtain ⟨R, hR⟩ : ∃ m1 : Mk, ({ m with slots := m.slots + 1 } : Mk) = m1 := ⟨_, rfl⟩
      have HR1 : Hid (R.ins = m.ins ∧ R.loc = m.loc ∧ R.regs = m.regs ∧ R.free = m.free ∧ R.ends = m.ends ∧ R.slots = m.slots + 1) := Lib.hid (by subst hR; exact ⟨rfl, rfl, rfl, rfl, rfl, rfl⟩)
      rw [hR] at HS
      have HFIN : Hid (∀ t, t = takeM R.regs R.free → layM i ⟨21, oa, ob, oc, on⟩ m = { ins := R.ins ++ [⟨21, t.1, 0, 0, 0, (m.slots : Int)⟩], regs := t.2.1, slots := R.slots, loc := R.loc ++ [t.1], free := if at0 R.ends (i : Int) = -1 then t.2.2 ++ [t.1] else t.2.2, ends := R.ends }) := Lib.hid (fun t ht => by
        obtain ⟨a1, a2, a3, a4, a5, a6⟩ := HR1.out
        have := HLY.out (m.free, m.ends) t rfl (by rw [ht, a3, a4])
        rw [this, a1, a2, a5, a6]; rfl)
      have hslo : m.slots + 1 ≤ 1001 := by omega
      clear hR
      have HRF : R.free.length ≤ 5000 := by rw [HR1.out.2.2.2.1]; omega
      have HREL : R.ends.length = n := by rw [HR1.out.2.2.2.2.1]; exact hel
      go_wp2_with fail
      try rw [hwt]
      clear hwt
      go_meet
      exact ⟨_, R, 0, 0, 0, (m.slots : Int), HS.out, HX3.out, hwts, HRF, HREL, ⟨HR1.out.1, HR1.out.2.1, HR1.out.2.2.1, trivial⟩, HFIN.out⟩
    · skip
      have dop : (oop == 21) = false := by simpa using hp
      obtain ⟨ra, hra⟩ : ∃ r, regI m.loc oa = r := ⟨_, rfl⟩
      obtain ⟨rb, hrb⟩ : ∃ r, regI m.loc ob = r := ⟨_, rfl⟩
      obtain ⟨rc, hrc⟩ : ∃ r, regI m.loc oc = r := ⟨_, rfl⟩
      obtain ⟨s, hs⟩ : ∃ s, leave3 i m.loc (m.free, m.ends) [oa, ob, oc] = s := ⟨_, rfl⟩
      have HSL : Hid (s.1.length ≤ m.free.length + 3 ∧ s.2.length = m.ends.length) := Lib.hid (by rw [← hs]; exact leave_len i m.loc [oa, ob, oc] (m.free, m.ends))
      have HQ := HF.out hp
      have HQ1 : Hid (oa < 0 ∨ (0 ≤ oa ∧ oa < (m.loc.length : Int))) := Lib.hid (by rw [hll]; exact HQ oa (by simp))
      have HQ2 : Hid (ob < 0 ∨ (0 ≤ ob ∧ ob < (m.loc.length : Int))) := Lib.hid (by rw [hll]; exact HQ ob (by simp))
      have HQ3 : Hid (oc < 0 ∨ (0 ≤ oc ∧ oc < (m.loc.length : Int))) := Lib.hid (by rw [hll]; exact HQ oc (by simp))
      have HFIN0 : Hid (∀ R : Mk, R.ins = m.ins ∧ R.loc = m.loc ∧ R.regs = m.regs ∧ R.free = s.1 ∧ R.ends = s.2 ∧ R.slots = m.slots → ∀ t, t = takeM R.regs R.free → layM i ⟨oop, oa, ob, oc, on⟩ m = { ins := R.ins ++ [⟨oop, t.1, ra, rb, rc, on⟩], regs := t.2.1, slots := R.slots, loc := R.loc ++ [t.1], free := if at0 R.ends (i : Int) = -1 then t.2.2 ++ [t.1] else t.2.2, ends := R.ends }) := Lib.hid (fun R hR t ht => by
        obtain ⟨a1, a2, a3, a4, a5, a6⟩ := hR
        have := HLY.out s t (by rw [if_neg hp]; exact hs.symm) (by rw [ht, a3, a4])
        rw [this, a1, a2, a5, a6, if_neg hp, if_neg hp, hra, hrb, hrc])
      have hbX := HM2.out.neIns HX2.out
      have hXb : W.heap.size + 1 ≠ b := fun e => hbX e.symm
      have HK : Hid (∀ V, Below (W.heap.size + 1) w2 V → V.cell? ⟨W.heap.size, 1, none⟩ = some (.int .i64 oa) ∧ V.cell? ⟨W.heap.size, 2, none⟩ = some (.int .i64 ob) ∧ V.cell? ⟨W.heap.size, 3, none⟩ = some (.int .i64 oc)) := Lib.hid (fun V hV => by
        have hb : V.heap[W.heap.size]? = w2.heap[W.heap.size]? := hV.block _ (by omega)
        obtain ⟨g0, g1, g2, g3, -⟩ := (OpBox.mk (hb.trans HO2.out.cell)).ats
        exact ⟨g1, g2, g3⟩)
      have hX1 : W.heap.size + 1 ≤ W.heap.size + 1 := Nat.le_refl _
      have K0 := Lib.hid (HK.out _ (Below.refl (W.heap.size + 1) w2))
      have K1 := Lib.hid (HK.out _ (Below.refl (W.heap.size + 1) w2).drew)
      have K2 := Lib.hid (HK.out _ (Below.setCell (p := ⟨W.heap.size + 1, 2, none⟩) (Below.refl (W.heap.size + 1) w2) hX1 (.int .i64 ra)).drew)
      have K3 := Lib.hid (HK.out _ (Below.setCell (p := ⟨W.heap.size + 1, 3, none⟩) (Below.setCell (p := ⟨W.heap.size + 1, 2, none⟩) (Below.refl (W.heap.size + 1) w2) hX1 (.int .i64 ra)) hX1 (.int .i64 rb)).drew)
      have K4 := Lib.hid (HK.out _ (Below.setCell (p := ⟨W.heap.size + 1, 4, none⟩) (Below.setCell (p := ⟨W.heap.size + 1, 3, none⟩) (Below.setCell (p := ⟨W.heap.size + 1, 2, none⟩) (Below.refl (W.heap.size + 1) w2) hX1 (.int .i64 ra)) hX1 (.int .i64 rb)) hX1 (.int .i64 rc)).drew)
      have HREG : Hid (∀ V, Below w2.heap.size w2 V → ∀ k r, regI m.loc k = r → (k < 0 ∨ (0 ≤ k ∧ k < (m.loc.length : Int))) → Calls Try.prog 107 #[.pointer (some ⟨b, 0, none⟩), .int .i64 k] V (fun e w' => e = .returned (.int .i64 r) ∧ w' = V)) := Lib.hid (fun V hV k r hr hk => by
        have := reg_any (HM2.out.below hV) k hk
        rw [hr] at this
        exact this)
      have HA1 := Lib.hid hra
      have HA2 := Lib.hid hrb
      have HA3 := Lib.hid hrc
      have HSS := Lib.hid hs
      clear hra hrb hrc hs HQ
      go_wp2_with fail
      go_region_held3 (fun V => V.cell? ⟨W.heap.size, 1, none⟩ = some (.int .i64 oa) ∧ V.cell? ⟨W.heap.size, 2, none⟩ = some (.int .i64 ob) ∧ V.cell? ⟨W.heap.size, 3, none⟩ = some (.int .i64 oc))
        (first | exact K0.out | exact K1.out | exact K2.out | exact K3.out | exact K4.out)
        (first
        | (go_at_call 107; with_reducible refine (HREG.out _ (Below.refl _ _) _ _ HA1.out HQ1.out).mono ?_; rintro e w' ⟨rfl, rfl⟩)
        | (go_at_call 107; with_reducible refine (HREG.out _ (Below.refl _ _).drew _ _ HA1.out HQ1.out).mono ?_; rintro e w' ⟨rfl, rfl⟩)
        | (go_at_call 107; with_reducible refine (HREG.out _ (Below.refl _ _).drew _ _ HA2.out HQ2.out).mono ?_; rintro e w' ⟨rfl, rfl⟩)
        | (go_at_call 107; with_reducible refine (HREG.out _ (Below.refl _ _).drew _ _ HA3.out HQ3.out).mono ?_; rintro e w' ⟨rfl, rfl⟩))
      obtain ⟨w3, hw3⟩ : ∃ V, (((w2.setCell ⟨W.heap.size + 1, 2, none⟩ (.int .i64 ra)).setCell ⟨W.heap.size + 1, 3, none⟩ (.int .i64 rb)).setCell ⟨W.heap.size + 1, 4, none⟩ (.int .i64 rc)).drew = V := ⟨_, rfl⟩
      rw [hw3]
      have hk4 := K4.out
      rw [hw3] at hk4
      have hw3s : w3.heap.size = W.heap.size + 2 := by rw [← hw3]; simpa using hw2s
      have HXA : Hid (InsBox w3 (W.heap.size + 1) 109 ⟨oop, 0, ra, rb, rc, on⟩) := Lib.hid (by rw [← hw3]; exact ⟨(HX2.out.set3 ra rb rc).cell⟩)
      have HM3 : Hid (MkS w0 B b S pv (.slice (some ⟨g, oo, none⟩) S.ops.length qc) w3 iv ov ev lv fv m outs) := Lib.hid (by
        have hbx : B ≤ W.heap.size + 1 := by omega
        refine HM2.out.exc HX2.out HIVX.out ?_ ?_
        · rw [← hw3]
          exact (Below.setCell (p := ⟨W.heap.size + 1, 4, none⟩) (Below.setCell (p := ⟨W.heap.size + 1, 3, none⟩) (Below.setCell (p := ⟨W.heap.size + 1, 2, none⟩) HM2.out.old hbx (.int .i64 ra)) hbx (.int .i64 rb)) hbx (.int .i64 rc)).drew
        · intro g hg
          rw [← hw3]
          exact (Below.heap_setCell _ _ _ _ hg).trans ((Below.heap_setCell _ _ _ _ hg).trans (Below.heap_setCell _ _ _ _ hg)))
      obtain ⟨q1, q2, q3⟩ := hk4
      obtain ⟨w4, hw4⟩ : ∃ V, w3.alloc (.cells #[.int .i64 oa, .int .i64 ob, .int .i64 oc] 3) = V := ⟨_, rfl⟩
      have HM4 : Hid (MkS w0 B b S pv (.slice (some ⟨g, oo, none⟩) S.ops.length qc) w4 iv ov ev lv fv m outs) := Lib.hid (by rw [← hw4]; exact HM3.out.below (below_new _ _))
      have HX4 : Hid (InsBox w4 (W.heap.size + 1) 109 ⟨oop, 0, ra, rb, rc, on⟩) := Lib.hid (HXA.out.keep (by rw [← hw4]; exact Below.heap_alloc _ _ _ (by omega)))
      have HAG : Hid (w4.heap[W.heap.size + 2]? = some (.cells (intsOf [oa, ob, oc]).toArray 3 (0, 0))) := Lib.hid (by rw [← hw3s, ← hw4]; exact heap_alloc_new _ _)
      have HF4 : Hid (fv.ownBlock ≠ some (W.heap.size + 2) ∧ ev.ownBlock ≠ some (W.heap.size + 2)) := Lib.hid ⟨fun e => by have := (HM3.out.free.lt _ e).2; omega, fun e => by have := (HM3.out.ends.lt _ e).2; omega⟩
      have HQL : Hid (∀ k ∈ [oa, ob, oc], k < 0 ∨ (0 ≤ k ∧ k < (m.loc.length : Int) ∧ k < (m.ends.length : Int))) := Lib.hid (fun k hk => by
        have h1 := HQ1.out
        have h2 := HQ2.out
        have h3 := HQ3.out
        rw [hll] at h1 h2 h3
        rw [hll, hel]
        simp only [List.mem_cons, List.not_mem_nil, or_false] at hk
        rcases hk with rfl | rfl | rfl
        all_goals omega)
      have hw4s : w4.heap.size = W.heap.size + 3 := by rw [← hw4]; simp; omega
      have HW4S := Lib.hid hw4s
      clear hw3 hw4s
      go_wp2_with fail
      try rw [hw4]
      try clear hw4
      refine (leave_any HM4.out i (W.heap.size + 2) 3 [oa, ob, oc] rfl HAG.out HF4.out.1 HF4.out.2 (by omega) (by omega) HQL.out).mono ?_
      rintro e wt ⟨rfl, fv5, hmt, hkt⟩
      rw [HSS.out] at hmt
      obtain ⟨R, hR⟩ : ∃ m1 : Mk, ({ m with free := s.1, ends := s.2 } : Mk) = m1 := ⟨_, rfl⟩
      have HR1 : Hid (R.ins = m.ins ∧ R.loc = m.loc ∧ R.regs = m.regs ∧ R.free = s.1 ∧ R.ends = s.2 ∧ R.slots = m.slots) := Lib.hid (by subst hR; exact ⟨rfl, rfl, rfl, rfl, rfl, rfl⟩)
      rw [hR] at hmt
      have HFIN := Lib.hid (HFIN0.out R HR1.out)
      have HX3 : Hid (InsBox wt (W.heap.size + 1) 109 ⟨oop, 0, ra, rb, rc, on⟩) := Lib.hid (HX4.out.keep (hkt.block _ HX4.out.lt (by
        rintro (e | e | e)
        · exact hXb e
        · exact not_ins HM4.out.free HX4.out (by decide) e
        · exact not_ins HM4.out.ends HX4.out (by decide) e)))
      have hwts : W.heap.size + 2 ≤ wt.heap.size := by have := hkt.size; have := HW4S.out; omega
      have HRF : R.free.length ≤ 5000 := by rw [HR1.out.2.2.2.1]; have := HSL.out.1; omega
      have HREL : R.ends.length = n := by rw [HR1.out.2.2.2.2.1, HSL.out.2]; exact hel
      clear hR
      go_wp2_with fail
      go_meet
      exact ⟨_, R, ra, rb, rc, on, hmt, HX3.out, hwts, HRF, HREL, ⟨HR1.out.1, HR1.out.2.1, HR1.out.2.2.1, trivial⟩, HFIN.out⟩
  case rest =>
    obtain ⟨fv1, R, AA, BB, CC, NN, hm1, hx1, hwts, hf1, he1, hr1, hfin⟩ := hcut
    have HS := Lib.hid hm1
    have HX3 := Lib.hid hx1
    have HRF := Lib.hid hf1
    have HREL := Lib.hid he1
    have HR1 := Lib.hid hr1
    have HFIN := Lib.hid hfin
    have hbX := HM2.out.neIns HX2.out
    have hXb : W.heap.size + 1 ≠ b := fun e => hbX e.symm
    clear hm1 hx1 hf1 he1 hr1 hfin t0 t1 t2 t3 t4 t5 t6 t7 t8 f0 f1 f2 f3 f7 f8 x0 x1 x2 x3 x4 x5 xf1 xf2 xf3 xf4 xf5 ox0 ox1 ox2 ox3 ox4 HM2 HX2 HO2 HB2 HF HLY HMR d0 d1 d2 d3 d4 p0 p1 p2 p3 p4 p5 p6 p7 p8 hw2s ho
    go_wp2_with fail
    obtain ⟨t, ht⟩ : ∃ t, takeM R.regs R.free = t := ⟨_, rfl⟩
    have HT := Lib.hid ht
    refine (take_any HS.out (by rw [HR1.out.2.2.1]; omega) HRF.out).mono ?_
    rintro e w5 ⟨rfl, fv5, hm5, hk5⟩
    rw [ht] at hm5 ⊢
    have HX5 := Lib.hid (HX3.out.keep (hk5.block _ HX3.out.lt hXb))
    have HM6 := Lib.hid (hm5.setIns HX5.out (by omega) HIVX.out 1 (.int .i64 t.1))
    have HX6 := Lib.hid (HX5.out.set t.1).1
    obtain ⟨y0, y1, y2, y3, y4, y5⟩ := HX5.out.ats
    obtain ⟨yf1, yf2, yf3, yf4, yf5⟩ := HX5.out.fzs
    dsimp only at y0 y1 y2 y3 y4 y5
    have hs5 : W.heap.size + 2 ≤ w5.heap.size := by have := hk5.size; omega
    obtain ⟨w6, hw6⟩ : ∃ V, w5.setCell ⟨W.heap.size + 1, 1, none⟩ (.int .i64 t.1) = V := ⟨_, rfl⟩
    have hs6 : W.heap.size + 2 ≤ w6.heap.size := by rw [← hw6]; simpa using hs5
    rw [hw6] at HM6 HX6
    obtain ⟨R5, hR5⟩ : ∃ m1 : Mk, (⟨R.ins, t.2.1, R.slots, R.loc, t.2.2, R.ends⟩ : Mk) = m1 := ⟨_, rfl⟩
    have HR5 : Hid (R5.ins = m.ins ∧ R5.loc = m.loc ∧ R5.free = t.2.2 ∧ R5.ends = R.ends ∧ R5.regs = t.2.1 ∧ R5.slots = R.slots) := Lib.hid (by subst hR5; exact ⟨HR1.out.1, HR1.out.2.1, rfl, rfl, rfl, rfl⟩)
    change Hid (MkS w0 B b S pv _ w6 _ ov _ _ fv5 (⟨R.ins, t.2.1, R.slots, R.loc, t.2.2, R.ends⟩ : Mk) outs) at HM6
    rw [hR5] at HM6
    have HLY5 : Hid (layM i ⟨oop, oa, ob, oc, on⟩ m = { ins := R5.ins ++ [⟨oop, t.1, AA, BB, CC, NN⟩], regs := R5.regs, slots := R5.slots, loc := R5.loc ++ [t.1], free := if at0 R5.ends (i : Int) = -1 then R5.free ++ [t.1] else R5.free, ends := R5.ends }) := Lib.hid (by
      rw [HFIN.out t HT.out.symm, HR5.out.1, HR5.out.2.1, HR5.out.2.2.1, HR5.out.2.2.2.1, HR5.out.2.2.2.2.1, HR5.out.2.2.2.2.2, HR1.out.1, HR1.out.2.1])
    have hll5 : R5.loc.length = i := by rw [HR5.out.2.1]; exact hll
    have hil5 : R5.ins.length = i := by rw [HR5.out.1]; exact hil
    have hel5 : R5.ends.length = n := by rw [HR5.out.2.2.2.1]; exact HREL.out
    obtain ⟨kf, hkf⟩ : ∃ k, R5.free.length = k := ⟨_, rfl⟩
    have hkf3 : kf ≤ 5100 := by
      have h1 : R5.free.length ≤ R.free.length := by
        rw [HR5.out.2.2.1, ← HT.out]
        unfold takeM
        split
        · exact Nat.le_refl _
        · show (R.free.take _).length ≤ _
          rw [List.length_take]; omega
      have := HRF.out
      omega
    have hrowL := HM6.out.loc
    rw [hll5] at hrowL
    have HROWL := Lib.hid hrowL
    obtain ⟨LA, lc, rfl, lz1, lz2⟩ := own_slice hrowL
    have hbl6 := HM6.out.lt
    obtain ⟨FA, fc, rfl, fz1, fz2⟩ := own_slice HM6.out.free
    rw [hkf] at HM6 fz1
    have hrowE := HM6.out.ends
    rw [hel5] at hrowE
    have HROWE := Lib.hid hrowE
    obtain ⟨EA, ec, rfl, ez1, ez2⟩ := own_slice hrowE
    have hrowI := HM6.out.ins
    rw [hil5] at hrowI
    have HROWI := Lib.hid hrowI
    obtain ⟨IA, ic, rfl, iz1, iz2⟩ := own_slice hrowI
    unfold maxLen at lz2 fz2 ez2 iz2
    obtain ⟨ev0, hev0⟩ : ∃ e, R5.ends[i]? = some e := ⟨_, List.getElem?_eq_getElem (by rw [hel5]; exact hiS)⟩
    have HEV : Hid (at0 R5.ends (i : Int) = ev0) := Lib.hid (at0_of hev0)
    have HEV0 := Lib.hid hev0

    have HG8 : Hid (∀ w7 gg cap, ((w6.drew).alloc (.cells #[.int .i64 t.1] 3)).grownBy w7 (Value.slice LA i lc).ownBlock → w7.ownsRow B 3 1 (.slice (some ⟨gg, 0, none⟩) (i + 1) cap) (i + 1) (intsOf R5.loc ++ [.int .i64 (t.1)]) → ((Value.slice LA i lc).ownBlock = some gg ∨ gg = w6.heap.size + 1) →
        (w7.cell? ⟨b, 7, none⟩ = some (.slice LA i lc) ∧ w7.frozen? ⟨b, 7, none⟩ = false) ∧ MkS w0 B b S pv (.slice (some ⟨g, oo, none⟩) S.ops.length qc) (w7.setCell ⟨b, 7, none⟩ (.slice (some ⟨gg, 0, none⟩) (i + 1) cap)) (.slice IA i ic) ov (.slice EA n ec) (.slice (some ⟨gg, 0, none⟩) (i + 1) cap) (.slice FA kf fc) { R5 with loc := R5.loc ++ [t.1] } outs ∧ InsBox (w7.setCell ⟨b, 7, none⟩ (.slice (some ⟨gg, 0, none⟩) (i + 1) cap)) (W.heap.size + 1) 109 ⟨oop, t.1, AA, BB, CC, NN⟩ ∧ W.heap.size + 2 ≤ w7.heap.size) := Lib.hid (fun w7 gg cap hg hown hat => by
      have hbel : Below w6.heap.size w6 ((w6.drew).alloc (.cells #[.int .i64 t.1] 3)) := (below_new w6 (.cells #[.int .i64 t.1] 3)).drew |> fun x => by exact { os := x.os, tape := x.tape, output := x.output, size := x.size, block := x.block }
      have hat2 : (Value.slice LA i lc).ownBlock = some gg ∨ w6.heap.size ≤ gg := hat.imp id (fun e => by omega)
      have hm2 := HM6.out
      obtain ⟨g1, g2, g3⟩ := hm2.grow hbel hg (fun g hg => (hm2.loc.lt g hg).1) (not_box hm2.loc hm2.box (by decide)) 7 (.slice (some ⟨gg, 0, none⟩) (i + 1) cap)
      have hadd := hm2.addLoc hbel hg (gg := gg) (cap := cap) (x := t.1) (by rw [hll5]; exact hown) hat2
      rw [hll5] at hadd
      have hz := hg.size
      refine ⟨⟨by simp [World.cell?, g3], by simp [World.frozen?, g3]⟩, hadd, HX6.out.keep (g2 _ HX6.out.lt (by
        rintro (e | e)
        · exact hXb e
        · exact not_ins hm2.loc HX6.out (by decide) e)), ?_⟩
      have : ((w6.drew).alloc (.cells #[.int .i64 t.1] 3)).heap.size = w6.heap.size + 1 := by simp
      omega)

    obtain ⟨t0', t1', t2', t3', t4', t5', t6', t7', t8'⟩ := HM6.out.ats
    obtain ⟨z0, zz1, zz2, zz3, zz4, zz5⟩ := HX6.out.ats
    dsimp only at z0 zz1 zz2 zz3 zz4 zz5
    clear hm5 hk5 hrowL hrowE hrowI hev0 hR5 ht hkf
    go_wp2_with fail
    try rw [hw6]
    clear hw6 y0 y1 y2 y3 y4 y5
    go_region_law (refine step_append_lies _ (by rfl) _ _ _ (by rfl) B 3 i0 _ 1 8 Try.underlying23 hi0 hz0 hz1 hz2 rfl (by omega) (.slice LA i lc) i (intsOf R5.loc) (by rfl) (by exact HROWL.out.alloc _) ⟨w6.heap.size, 0, none⟩ 1 1 [.int .i64 t.1] (by rfl) (by rfl) (World.news_of_block (cs := #[.int .i64 t.1]) (t := 3) (fr := (0, 0)) (heap_alloc_new _ _)) (by simp [Value.oneCell', insCells]) (by omega) (by unfold maxLen; omega) (by omega) (by simp; omega) (w6.heap.size + 1) (by simp) ?_; intro gg cap w7 hown2 hgrow hat hlt; obtain ⟨⟨r0, r1⟩, HG⟩ := HG8.out w7 gg cap hgrow hown2 hat)
    all_goals
      obtain ⟨hm8, hx8, hs8⟩ := HG
      obtain ⟨lg8, hlg8⟩ : ∃ q, q = gg := ⟨_, rfl⟩
      obtain ⟨lc8, hlc8⟩ : ∃ q, q = cap := ⟨_, rfl⟩
      subst hlg8
      subst hlc8
      obtain ⟨w8, hw8⟩ : ∃ V, w7.setCell ⟨b, 7, none⟩ (.slice (some ⟨lg8, 0, none⟩) (i + 1) lc8) = V := ⟨_, rfl⟩
      rw [hw8] at hm8 hx8
      rw [hw8]
      have hs8' : W.heap.size + 2 ≤ w8.heap.size := by rw [← hw8]; simpa using hs8
      have HM8 := Lib.hid hm8
      have HX8 := Lib.hid hx8
      have hE8 := hm8.ends
      dsimp only at hE8
      rw [hel5] at hE8
      obtain ⟨eg, rfl, -, hge, ce, -⟩ := row_at hE8 HEV0.out hiS
      obtain ⟨s0, s1, s2, s3, s4, s5, s6, s7, s8⟩ := hm8.ats
      obtain ⟨z0, zz1, zz2, zz3, zz4, zz5⟩ := hx8.ats
      dsimp only at z0 zz1 zz2 zz3 zz4 zz5
      clear hm8 hx8 hE8 hw8 hown2 hgrow hat hlt r0 r1 hs8 t0' t1' t2' t3' t4' t5' t6' t7' t8'
      by_cases he1 : ev0 = -1
      · have HEQ : Hid (layM i ⟨oop, oa, ob, oc, on⟩ m = { ins := R5.ins ++ [⟨oop, t.1, AA, BB, CC, NN⟩], regs := R5.regs, slots := R5.slots, loc := R5.loc ++ [t.1], free := R5.free ++ [t.1], ends := R5.ends }) := Lib.hid (by rw [HLY5.out, HEV.out, if_pos he1])
        have de : (ev0 == -1) = true := by simpa using he1
        have hrowF := HM8.out.free
        dsimp only at hrowF
        have hkfe : R5.free.length = kf := by have := own_form hrowF; exact this.symm
        rw [hkfe] at hrowF
        have HROWF := Lib.hid hrowF
        have hbl8 := HM8.out.lt
        have HG10 : Hid (∀ w7 gg cap, ((w8.drew).alloc (.cells #[.int .i64 t.1] 3)).grownBy w7 (Value.slice FA kf fc).ownBlock → w7.ownsRow B 3 1 (.slice (some ⟨gg, 0, none⟩) (kf + 1) cap) (kf + 1) (intsOf R5.free ++ [.int .i64 (t.1)]) → ((Value.slice FA kf fc).ownBlock = some gg ∨ gg = w8.heap.size + 1) →
            (w7.cell? ⟨b, 8, none⟩ = some (.slice FA kf fc) ∧ w7.frozen? ⟨b, 8, none⟩ = false) ∧ MkS w0 B b S pv (.slice (some ⟨g, oo, none⟩) S.ops.length qc) (w7.setCell ⟨b, 8, none⟩ (.slice (some ⟨gg, 0, none⟩) (kf + 1) cap)) (.slice IA i ic) ov (.slice (some ⟨eg, 0, none⟩) n ec) (.slice (some ⟨lg8, 0, none⟩) (i + 1) lc8) (.slice (some ⟨gg, 0, none⟩) (kf + 1) cap) { R5 with loc := R5.loc ++ [t.1], free := R5.free ++ [t.1] } outs ∧ InsBox (w7.setCell ⟨b, 8, none⟩ (.slice (some ⟨gg, 0, none⟩) (kf + 1) cap)) (W.heap.size + 1) 109 ⟨oop, t.1, AA, BB, CC, NN⟩) := Lib.hid (fun w7 gg cap hg hown hat => by
          have hbel : Below w8.heap.size w8 ((w8.drew).alloc (.cells #[.int .i64 t.1] 3)) := (below_new w8 (.cells #[.int .i64 t.1] 3)).drew |> fun x => by exact { os := x.os, tape := x.tape, output := x.output, size := x.size, block := x.block }
          have hat2 : (Value.slice FA kf fc).ownBlock = some gg ∨ w8.heap.size ≤ gg := hat.imp id (fun e => by omega)
          have hm2 := HM8.out
          obtain ⟨g1, g2, g3⟩ := hm2.grow hbel hg (fun g hg => (hm2.free.lt g hg).1) (not_box hm2.free hm2.box (by decide)) 8 (.slice (some ⟨gg, 0, none⟩) (kf + 1) cap)
          have hadd := hm2.addFree hbel hg (gg := gg) (cap := cap) (x := t.1) (by dsimp only; rw [hkfe]; exact hown) hat2
          dsimp only at hadd
          rw [hkfe] at hadd
          refine ⟨⟨by simp [World.cell?, g3], by simp [World.frozen?, g3]⟩, hadd, HX8.out.keep (g2 _ HX8.out.lt (by
            rintro (e | e)
            · exact hXb e
            · exact not_ins hm2.free HX8.out (by decide) e))⟩)
        clear hrowF he1
        go_wp2_with fail
        go_region_law (refine step_append_lies _ (by rfl) _ _ _ (by rfl) B 3 i0 _ 1 8 Try.underlying23 hi0 hz0 hz1 hz2 rfl (by omega) (.slice FA kf fc) kf (intsOf R5.free) (by rfl) (by exact HROWF.out.alloc _) ⟨w8.heap.size, 0, none⟩ 1 1 [.int .i64 t.1] (by rfl) (by rfl) (World.news_of_block (cs := #[.int .i64 t.1]) (t := 3) (fr := (0, 0)) (heap_alloc_new _ _)) (by simp [Value.oneCell', insCells]) (by omega) (by unfold maxLen; omega) (by omega) (by simp; omega) (w8.heap.size + 1) (by simp) ?_; intro gg cap w7 hown2 hgrow hat hlt; obtain ⟨⟨r0, r1⟩, HG⟩ := HG10.out w7 gg cap hgrow hown2 hat)
        all_goals
          obtain ⟨hm9, hx9⟩ := HG
          obtain ⟨w9, hw9⟩ : ∃ V, w7.setCell ⟨b, 8, none⟩ (.slice (some ⟨gg, 0, none⟩) (kf + 1) cap) = V := ⟨_, rfl⟩
          rw [hw9] at hm9 hx9
          rw [hw9]
          have HM9 := Lib.hid hm9
          have HX9 := Lib.hid hx9
          obtain ⟨s0, s1, s2, s3, s4, s5, s6, s7, s8⟩ := hm9.ats
          obtain ⟨z0, zz1, zz2, zz3, zz4, zz5⟩ := hx9.ats
          dsimp only at z0 zz1 zz2 zz3 zz4 zz5
          clear hm9 hx9 hw9 hown2 hgrow hat hlt r0 r1
          have hrowI9 := HM9.out.ins
          dsimp only at hrowI9
          rw [hil5] at hrowI9
          have HROWI9 := Lib.hid hrowI9
          have hbl9 := HM9.out.lt
          have hB9 := HM9.out.size

          have HG11 : Hid (∀ w7 gg cap, ((w9.drew).alloc (.cells #[.int .i64 (oop), .int .i64 t.1, .int .i64 (AA), .int .i64 (BB), .int .i64 (CC), .int .i64 (NN)] 109)).grownBy w7 (Value.slice IA i ic).ownBlock → w7.ownsRow B 109 6 (.slice (some ⟨gg, 0, none⟩) (i + 1) cap) (i + 1) (insOfL R5.ins ++ insCells ⟨oop, t.1, AA, BB, CC, NN⟩) → ((Value.slice IA i ic).ownBlock = some gg ∨ gg = w9.heap.size + 1) →
              (w7.cell? ⟨b, 0, none⟩ = some (.slice IA i ic) ∧ w7.frozen? ⟨b, 0, none⟩ = false) ∧ ∃ lv9 fv9, MkS w0 B b S pv (.slice (some ⟨g, oo, none⟩) S.ops.length qc) (w7.setCell ⟨b, 0, none⟩ (.slice (some ⟨gg, 0, none⟩) (i + 1) cap)) (.slice (some ⟨gg, 0, none⟩) (i + 1) cap) ov (.slice (some ⟨eg, 0, none⟩) n ec) lv9 fv9 { R5 with loc := R5.loc ++ [t.1], free := R5.free ++ [t.1], ins := R5.ins ++ [⟨oop, t.1, AA, BB, CC, NN⟩] } outs) := Lib.hid (fun w7 gg cap hg hown hat => by
            have hbel : Below w9.heap.size w9 ((w9.drew).alloc (.cells #[.int .i64 (oop), .int .i64 t.1, .int .i64 (AA), .int .i64 (BB), .int .i64 (CC), .int .i64 (NN)] 109)) := (below_new w9 (.cells #[.int .i64 (oop), .int .i64 t.1, .int .i64 (AA), .int .i64 (BB), .int .i64 (CC), .int .i64 (NN)] 109)).drew |> fun x => by exact { os := x.os, tape := x.tape, output := x.output, size := x.size, block := x.block }
            have hat2 : (Value.slice IA i ic).ownBlock = some gg ∨ w9.heap.size ≤ gg := hat.imp id (fun e => by omega)
            have hm2 := HM9.out
            obtain ⟨g1, g2, g3⟩ := hm2.grow hbel hg (fun g hg => (hm2.ins.lt g hg).1) (not_box hm2.ins hm2.box (by decide)) 0 (.slice (some ⟨gg, 0, none⟩) (i + 1) cap)
            have hadd := hm2.addIns hbel hg (gg := gg) (cap := cap) (x := ⟨oop, t.1, AA, BB, CC, NN⟩) (by dsimp only; rw [hil5]; exact hown) hat2
            dsimp only at hadd
            rw [hil5] at hadd
            exact ⟨⟨by simp [World.cell?, g3], by simp [World.frozen?, g3]⟩, _, _, hadd⟩)

          clear hrowI9
          go_wp2_with fail
          go_region_law (refine step_append_lies _ (by rfl) _ _ _ (by rfl) B 109 j0 _ 6 48 Try.underlying57 hj0 hy0 hy1 hy2 rfl (by omega) (.slice IA i ic) i (insOfL R5.ins) (by rfl) (by exact HROWI9.out.alloc _) ⟨w9.heap.size, 0, none⟩ 1 1 (insCells ⟨oop, t.1, AA, BB, CC, NN⟩) (by rfl) (by rfl) (World.news_of_block (cs := #[.int .i64 (oop), .int .i64 t.1, .int .i64 (AA), .int .i64 (BB), .int .i64 (CC), .int .i64 (NN)]) (t := 109) (fr := (0, 0)) (heap_alloc_new _ _)) (by simp [Value.oneCell', insCells]) (by omega) (by unfold maxLen; omega) (by omega) (by simp; omega) (w9.heap.size + 1) (by simp) ?_; intro gg cap w7 hown2 hgrow hat hlt; obtain ⟨⟨r0, r1⟩, HG⟩ := HG11.out w7 gg cap hgrow hown2 hat)
          all_goals
            obtain ⟨lv9, fv9, hm9⟩ := HG
            have HFN : Hid (LayPost w0 B b S pv (.slice (some ⟨g, oo, none⟩) S.ops.length qc) ov (.slice (some ⟨eg, 0, none⟩) n ec) (layM i ⟨oop, oa, ob, oc, on⟩ m) outs (.returned (.tuple #[])) (w7.setCell ⟨b, 0, none⟩ (.slice (some ⟨gg, 0, none⟩) (i + 1) cap))) := Lib.hid ⟨rfl, _, lv9, fv9, by rw [HEQ.out]; exact hm9⟩
            clear hm9 hown2 hgrow hat hlt r0 r1
            go_wp2_with fail
            go_end0
            exact HFN.out
      · have HEQ : Hid (layM i ⟨oop, oa, ob, oc, on⟩ m = { ins := R5.ins ++ [⟨oop, t.1, AA, BB, CC, NN⟩], regs := R5.regs, slots := R5.slots, loc := R5.loc ++ [t.1], free := R5.free, ends := R5.ends }) := Lib.hid (by rw [HLY5.out, HEV.out, if_neg he1])
        have de : (ev0 == -1) = false := by simpa using he1
        clear he1
        have hrowI9 := HM8.out.ins
        dsimp only at hrowI9
        rw [hil5] at hrowI9
        have HROWI9 := Lib.hid hrowI9
        have hbl9 := HM8.out.lt
        have hB9 := HM8.out.size

        have HG11 : Hid (∀ w7 gg cap, ((w8.drew).alloc (.cells #[.int .i64 (oop), .int .i64 t.1, .int .i64 (AA), .int .i64 (BB), .int .i64 (CC), .int .i64 (NN)] 109)).grownBy w7 (Value.slice IA i ic).ownBlock → w7.ownsRow B 109 6 (.slice (some ⟨gg, 0, none⟩) (i + 1) cap) (i + 1) (insOfL R5.ins ++ insCells ⟨oop, t.1, AA, BB, CC, NN⟩) → ((Value.slice IA i ic).ownBlock = some gg ∨ gg = w8.heap.size + 1) →
            (w7.cell? ⟨b, 0, none⟩ = some (.slice IA i ic) ∧ w7.frozen? ⟨b, 0, none⟩ = false) ∧ ∃ lv9 fv9, MkS w0 B b S pv (.slice (some ⟨g, oo, none⟩) S.ops.length qc) (w7.setCell ⟨b, 0, none⟩ (.slice (some ⟨gg, 0, none⟩) (i + 1) cap)) (.slice (some ⟨gg, 0, none⟩) (i + 1) cap) ov (.slice (some ⟨eg, 0, none⟩) n ec) lv9 fv9 { R5 with loc := R5.loc ++ [t.1], ins := R5.ins ++ [⟨oop, t.1, AA, BB, CC, NN⟩] } outs) := Lib.hid (fun w7 gg cap hg hown hat => by
          have hbel : Below w8.heap.size w8 ((w8.drew).alloc (.cells #[.int .i64 (oop), .int .i64 t.1, .int .i64 (AA), .int .i64 (BB), .int .i64 (CC), .int .i64 (NN)] 109)) := (below_new w8 (.cells #[.int .i64 (oop), .int .i64 t.1, .int .i64 (AA), .int .i64 (BB), .int .i64 (CC), .int .i64 (NN)] 109)).drew |> fun x => by exact { os := x.os, tape := x.tape, output := x.output, size := x.size, block := x.block }
          have hat2 : (Value.slice IA i ic).ownBlock = some gg ∨ w8.heap.size ≤ gg := hat.imp id (fun e => by omega)
          have hm2 := HM8.out
          obtain ⟨g1, g2, g3⟩ := hm2.grow hbel hg (fun g hg => (hm2.ins.lt g hg).1) (not_box hm2.ins hm2.box (by decide)) 0 (.slice (some ⟨gg, 0, none⟩) (i + 1) cap)
          have hadd := hm2.addIns hbel hg (gg := gg) (cap := cap) (x := ⟨oop, t.1, AA, BB, CC, NN⟩) (by dsimp only; rw [hil5]; exact hown) hat2
          dsimp only at hadd
          rw [hil5] at hadd
          exact ⟨⟨by simp [World.cell?, g3], by simp [World.frozen?, g3]⟩, _, _, hadd⟩)

        clear hrowI9
        go_wp2_with fail
        go_region_law (refine step_append_lies _ (by rfl) _ _ _ (by rfl) B 109 j0 _ 6 48 Try.underlying57 hj0 hy0 hy1 hy2 rfl (by omega) (.slice IA i ic) i (insOfL R5.ins) (by rfl) (by exact HROWI9.out.alloc _) ⟨w8.heap.size, 0, none⟩ 1 1 (insCells ⟨oop, t.1, AA, BB, CC, NN⟩) (by rfl) (by rfl) (World.news_of_block (cs := #[.int .i64 (oop), .int .i64 t.1, .int .i64 (AA), .int .i64 (BB), .int .i64 (CC), .int .i64 (NN)]) (t := 109) (fr := (0, 0)) (heap_alloc_new _ _)) (by simp [Value.oneCell', insCells]) (by omega) (by unfold maxLen; omega) (by omega) (by simp; omega) (w8.heap.size + 1) (by simp) ?_; intro gg cap w7 hown2 hgrow hat hlt; obtain ⟨⟨r0, r1⟩, HG⟩ := HG11.out w7 gg cap hgrow hown2 hat)
        all_goals
          obtain ⟨lv9, fv9, hm9⟩ := HG
          have HFN : Hid (LayPost w0 B b S pv (.slice (some ⟨g, oo, none⟩) S.ops.length qc) ov (.slice (some ⟨eg, 0, none⟩) n ec) (layM i ⟨oop, oa, ob, oc, on⟩ m) outs (.returned (.tuple #[])) (w7.setCell ⟨b, 0, none⟩ (.slice (some ⟨gg, 0, none⟩) (i + 1) cap))) := Lib.hid ⟨rfl, _, lv9, fv9, by rw [HEQ.out]; exact hm9⟩
          clear hm9 hown2 hgrow hat hlt r0 r1
          go_wp2_with fail
          go_end0
          exact HFN.out
end Go.Proofs.Ytcphjehjdhgheaa.Nt
