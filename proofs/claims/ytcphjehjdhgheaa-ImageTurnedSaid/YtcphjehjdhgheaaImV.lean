/- A reader of bytes: code. Conditions: what is left has at most a hundred million bytes. -/
import Derived.Test.YtcphjehjdhgheaaImU
import Derived.Test.YtcphjehjdhgheaaKdA
import Derived.Deep.RegionLaw
import Derived.Deep.AppendLies
namespace Go.Proofs.Ytcphjehjdhgheaa.Nt
open Go.ChangeShapes Go.WideShapes Go.ChangeAt Go.RowKit Go.Proofs.Ytcphjehjdhgheaa.Tr
set_option linter.unusedVariables false
set_option linter.unusedSimpArgs false

/-- While code is read: the reader, the code so far, the place of the answer. -/
structure CS (w : World) (q X : Nat) (iv : Value) (r sl : Int) (ov pv : Value) (s : Rst) (wr : World) : Prop where
  rd : RTo q s w wr
  box : CodBox wr X 59 iv r sl ov pv
  res : CodBox wr w.heap.size 59 nilW 0 0 nilW nilW
theorem CS.num {w wr w' : World} {q X : Nat} {iv ov pv : Value} {r sl : Int} {s t : Rst} (h : CS w q X iv r sl ov pv s wr) (k : RTo q t wr w') (hq : q < w.heap.size) (hX : w.heap.size ≤ X) : CS w q X iv r sl ov pv t w' :=
  ⟨h.rd.then k, ⟨(k.2.1.block X h.box.lt (by omega)).trans h.box.cell⟩, ⟨(k.2.1.block _ h.res.lt (by omega)).trans h.res.cell⟩⟩
theorem CS.drew {w wr : World} {q X : Nat} {iv ov pv : Value} {r sl : Int} {s : Rst} (h : CS w q X iv r sl ov pv s wr) : CS w q X iv r sl ov pv s wr.drew :=
  ⟨⟨h.rd.1, ⟨h.rd.2.1.size, h.rd.2.1.block⟩, h.rd.2.2.drew⟩, ⟨h.box.cell⟩, ⟨h.res.cell⟩⟩
theorem CS.grown {w wr w' : World} {q X : Nat} {iv ov pv : Value} {r sl : Int} {s : Rst} {o : Obj} {ob : Option Nat} (h : CS w q X iv r sl ov pv s wr) (hg : (wr.alloc o).grownBy w' ob) (hq : q < w.heap.size) (ho : ∀ k, ob = some k → w.heap.size ≤ k) (h1 : some X ≠ ob) (h2 : some w.heap.size ≠ ob) : CS w q X iv r sl ov pv s w' :=
  ⟨h.rd.grown hg hq ho, ⟨(hg.block X (by have := h.box.lt; simp; omega) h1).trans ((Below.heap_alloc _ _ _ h.box.lt).trans h.box.cell)⟩, ⟨(hg.block _ (by have := h.res.lt; simp; omega) h2).trans ((Below.heap_alloc _ _ _ h.res.lt).trans h.res.cell)⟩⟩
theorem CodBox.put {w : World} {b T : Nat} {iv ov pv : Value} {r s : Int} (h : CodBox w b T iv r s ov pv) (v : Value) : CodBox (w.setCell ⟨b, 0, none⟩ v) b T v r s ov pv ∧ CodBox (w.setCell ⟨b, 3, none⟩ v) b T iv r s v pv ∧ CodBox (w.setCell ⟨b, 4, none⟩ v) b T iv r s ov v := by
  have := h.cell
  refine ⟨⟨?_⟩, ⟨?_⟩, ⟨?_⟩⟩ <;> simp [World.setCell, Array.getElem?_modify, this]
theorem CS.put0 {w wr : World} {q X : Nat} {iv ov pv : Value} {r sl : Int} {s : Rst} (h : CS w q X iv r sl ov pv s wr) (hq : q < w.heap.size) (hX : w.heap.size < X) (v : Value) : CS w q X v r sl ov pv s (wr.setCell ⟨X, 0, none⟩ v) :=
  ⟨h.rd.set (Nat.le_of_lt hX) hq 0 _, (h.box.put v).1, ⟨(Below.heap_setCell _ _ _ _ (by simp; omega)).trans h.res.cell⟩⟩
theorem CS.put3 {w wr : World} {q X : Nat} {iv ov pv : Value} {r sl : Int} {s : Rst} (h : CS w q X iv r sl ov pv s wr) (hq : q < w.heap.size) (hX : w.heap.size < X) (v : Value) : CS w q X iv r sl v pv s (wr.setCell ⟨X, 3, none⟩ v) :=
  ⟨h.rd.set (Nat.le_of_lt hX) hq 3 _, (h.box.put v).2.1, ⟨(Below.heap_setCell _ _ _ _ (by simp; omega)).trans h.res.cell⟩⟩
theorem CS.put4 {w wr : World} {q X : Nat} {iv ov pv : Value} {r sl : Int} {s : Rst} (h : CS w q X iv r sl ov pv s wr) (hq : q < w.heap.size) (hX : w.heap.size < X) (v : Value) : CS w q X iv r sl ov v s (wr.setCell ⟨X, 4, none⟩ v) :=
  ⟨h.rd.set (Nat.le_of_lt hX) hq 4 _, (h.box.put v).2.2, ⟨(Below.heap_setCell _ _ _ _ (by simp; omega)).trans h.res.cell⟩⟩
theorem own_set {b X k : Nat} {e : TypeId} {s : Nat} {v u : Value} {n : Nat} {xs : List Value} {w : World} (h : w.ownsRow b e s v n xs) (hX : X < b) : (w.setCell ⟨X, k, none⟩ u).ownsRow b e s v n xs :=
  own_block h (fun g hg => Below.heap_setCell _ _ _ _ (by have := (h.lt g hg).1; simp; omega))
theorem own_grown {b : Nat} {e : TypeId} {s : Nat} {v : Value} {n : Nat} {xs : List Value} {w w' : World} {o : Obj} {ob : Option Nat} (h : w.ownsRow b e s v n xs) (hg : (w.alloc o).grownBy w' ob) (hne : ∀ g, v.ownBlock = some g → some g ≠ ob) : w'.ownsRow b e s v n xs :=
  own_block h (fun g hg2 => (hg.block g (by have := (h.lt g hg2).2; simp; omega) (hne g hg2)).trans (Below.heap_alloc _ _ _ (h.lt g hg2).2))
/-- The answer is laid. -/
theorem CS.fin {w wr : World} {q X : Nat} {iv ov pv : Value} {r sl : Int} {s : Rst} (h : CS w q X iv r sl ov pv s wr) (hq : q < w.heap.size) : RTo q s w (set5 wr w.heap.size iv (.int .i64 r) (.int .i64 sl) ov pv) ∧ CodBox (set5 wr w.heap.size iv (.int .i64 r) (.int .i64 sl) ov pv) w.heap.size 59 iv r sl ov pv :=
  ⟨((((h.rd.set (Nat.le_refl _) hq 0 _).set (Nat.le_refl _) hq 1 _).set (Nat.le_refl _) hq 2 _).set (Nat.le_refl _) hq 3 _).set (Nat.le_refl _) hq 4 _, h.res.set5d iv ov pv r sl⟩
theorem own_set5 {b X : Nat} {e : TypeId} {s : Nat} {v v0 v1 v2 v3 v4 : Value} {n : Nat} {xs : List Value} {w : World} (h : w.ownsRow b e s v n xs) (hX : X < b) : (set5 w X v0 v1 v2 v3 v4).ownsRow b e s v n xs :=
  own_set (own_set (own_set (own_set (own_set h hX) hX) hX) hX) hX
theorem step_call {P : Program} {ops : Array Oper} {o : Oper} {a : Act} {w : World} {K : Act → World → Prop} {Q : Exit → Act → World → Prop} {E : Prop} (hgd : o.guard = none) (f : Nat) (args : Array Value) (hr : (execOp a.eval o).run P w = .ok (.enter f args) w)
    (h : Calls P f args w fun e w' => ∃ v, e = .returned v ∧ K (a.put o.dst v) w') : if Region.wanted o (yielded ops a.tmps) = true then Oper.wp P o a w K Q else E := by
  have hw : Region.wanted o (yielded ops a.tmps) = true := by simp [Region.wanted, hgd]
  rw [if_pos hw]
  unfold Oper.wp
  rw [hr]
  refine Calls.mono h fun e w' he => ?_
  obtain ⟨v, rfl, hk⟩ := he
  exact hk
set_option maxRecDepth 100000 in
set_option maxHeartbeats 8000000 in
theorem rcode_any (q : Nat) (s0 : Rst) (w : World) (h : RdBox w q s0) (hl9 : s0.1.length ≤ 1000000) : Calls Try.prog 88 #[.pointer (some ⟨q, 0, none⟩)] w fun r w' => ∃ iv ov pv, r = .returned (.agg #[iv, .int .i64 (codeR s0).1.regs, .int .i64 (codeR s0).1.slots, ov, pv]) ∧ (∀ V : World, (∀ g, q < g → g < w'.heap.size → V.heap[g]? = w'.heap[g]?) → CodR V iv ov pv (codeR s0).1) ∧ RTo q (codeR s0).2 w w' := by
  obtain ⟨i0, hi0, hz0, hz1, hz2⟩ := info_parts info_mown
  have H := Lib.hid h
  have hql := lt_of_block h
  obtain ⟨w0, hw0⟩ : ∃ W, w.alloc (.cells #[nilW, .int .i64 0, .int .i64 0, nilW, nilW] 59) = W := ⟨_, rfl⟩
  have HB0 : Hid (Below w.heap.size w w0) := Lib.hid (by rw [← hw0]; exact below_new _ _)
  have HT0 : Hid (RTo q s0 w w0) := Lib.hid ((RTo.here h).up HB0.out)
  have HZ0 : Hid (CodBox w0 w.heap.size 59 nilW 0 0 nilW nilW) := Lib.hid (by rw [← hw0]; exact codbox_new _ _ _ _ _ _ _)
  have HW0 := Lib.hid hw0
  obtain ⟨n1, hn1⟩ : ∃ n, (numberR s0).1 = n := ⟨_, rfl⟩
  obtain ⟨s1, hs1⟩ : ∃ s, (numberR s0).2 = s := ⟨_, rfl⟩
  obtain ⟨n2, hn2⟩ : ∃ n, (numberR s1).1 = n := ⟨_, rfl⟩
  obtain ⟨s2, hs2⟩ : ∃ s, (numberR s1).2 = s := ⟨_, rfl⟩
  obtain ⟨l3, hl3⟩ : ∃ l, (numbersR s2).1 = l := ⟨_, rfl⟩
  obtain ⟨s3, hs3⟩ : ∃ s, (numbersR s2).2 = s := ⟨_, rfl⟩
  obtain ⟨n4, hn4⟩ : ∃ n : Nat, (numberR s3).1 = (n : Int) := ⟨(numberR s3).1.toNat, by have := number_bnd s3; omega⟩
  obtain ⟨s4, hs4⟩ : ∃ s, (numberR s3).2 = s := ⟨_, rfl⟩
  obtain ⟨l5, hl5⟩ : ∃ l, (inssR n4 [] s4).1 = l := ⟨_, rfl⟩
  obtain ⟨s5, hs5⟩ : ∃ s, (inssR n4 [] s4).2 = s := ⟨_, rfl⟩
  obtain ⟨l6, hl6⟩ : ∃ l, (numbersR s5).1 = l := ⟨_, rfl⟩
  obtain ⟨s6, hs6⟩ : ∃ s, (numbersR s5).2 = s := ⟨_, rfl⟩
  have HCO : Hid (codeR s0 = (⟨l5, n1, n2, l6, l3⟩, s6)) := Lib.hid (by
    unfold codeR
    simp only [hn1, hs1, hn2, hs2, hl3, hs3, hn4, hs4, Int.toNat_natCast, hl5, hs5, hl6, hs6])
  have z1 : s1.1.length ≤ 1000000 := by have := (numR_len 6 0 1 s0).1; rw [← hs1]; exact Nat.le_trans this hl9
  have z2 : s2.1.length ≤ 1000000 := by have := (numR_len 6 0 1 s1).1; rw [← hs2]; exact Nat.le_trans this z1
  have z3 : s3.1.length ≤ 1000000 := by have := (numbers_len s2).2; rw [← hs3]; exact Nat.le_trans this z2
  have z4 : s4.1.length ≤ 1000000 := by have := (numR_len 6 0 1 s3).1; rw [← hs4]; exact Nat.le_trans this z3
  have z5 : s5.1.length ≤ 1000000 := by have := (inssR_s n4 [] s4 (fun x hx => by simp at hx)).2; rw [← hs5]; exact Nat.le_trans this z4
  have hn4b : n4 ≤ 4294967295 := by have := number_bnd s3; rw [hn4] at this; omega
  have HI5 : Hid (inssR n4 [] s4 = (l5, s5)) := Lib.hid (by rw [← hl5, ← hs5])
  have HN1 := Lib.hid (rnum_any q s0 w0 HT0.out.1 (by omega))
  have HN2 : Hid (∀ W, RdBox W q s1 → Calls Try.prog 119 #[.pointer (some ⟨q, 0, none⟩)] W fun r w' => r = .returned (.int .i64 n2) ∧ RTo q s2 W w') := Lib.hid (fun W hW => by have := rnum_any q s1 W hW (by omega); rw [hn2, hs2] at this; exact this)
  have HN3 : Hid (∀ W, RdBox W q s2 → Calls Try.prog 120 #[.pointer (some ⟨q, 0, none⟩)] W fun r w' => ∃ A c, r = .returned (.slice A l3.length c) ∧ w'.ownsRow W.heap.size 3 1 (.slice A l3.length c) l3.length (intsOf l3) ∧ RTo q s3 W w') := Lib.hid (fun W hW => by have := rnums_any q s2 W hW (by omega); rw [hl3, hs3] at this; exact this)
  have HN4 : Hid (∀ W, RdBox W q s3 → Calls Try.prog 119 #[.pointer (some ⟨q, 0, none⟩)] W fun r w' => r = .returned (.int .i64 (n4 : Int)) ∧ RTo q s4 W w') := Lib.hid (fun W hW => by have := rnum_any q s3 W hW (by omega); rw [hn4, hs4] at this; exact this)
  have HN6 : Hid (∀ W, RdBox W q s5 → Calls Try.prog 120 #[.pointer (some ⟨q, 0, none⟩)] W fun r w' => ∃ A c, r = .returned (.slice A l6.length c) ∧ w'.ownsRow W.heap.size 3 1 (.slice A l6.length c) l6.length (intsOf l6) ∧ RTo q s6 W w') := Lib.hid (fun W hW => by have := rnums_any q s5 W hW (by omega); rw [hl6, hs6] at this; exact this)
  rw [hn1, hs1] at HN1
  rw [HCO.out]
  clear h hw0 hn1 hs1 hn2 hs2 hl3 hs3 hn4 hs4 hl5 hs5 hl6 hs6
  go_enter Try.func88, Try.ntmps88
  go_wp2_with fail
  try rw [HW0.out]
  refine HN1.out.mono ?_
  rintro e w1 ⟨rfl, h1⟩
  have HT1 := Lib.hid (HT0.out.then h1)
  have HZ1 : Hid (CodBox w1 w.heap.size 59 nilW 0 0 nilW nilW) := Lib.hid ⟨(h1.2.1.block _ HZ0.out.lt (by omega)).trans HZ0.out.cell⟩
  clear h1 HN1
  go_wp2_with fail
  refine (HN2.out w1 HT1.out.1).mono ?_
  rintro e w2 ⟨rfl, h2⟩
  have HT2 := Lib.hid (HT1.out.then h2)
  have HZ2 : Hid (CodBox w2 w.heap.size 59 nilW 0 0 nilW nilW) := Lib.hid ⟨(h2.2.1.block _ HZ1.out.lt (by omega)).trans HZ1.out.cell⟩
  clear h2 HN2
  go_wp2_with fail
  obtain ⟨X, hX⟩ : ∃ X, w2.heap.size = X := ⟨_, rfl⟩
  obtain ⟨v0, hv0⟩ : ∃ W, w2.alloc (.cells #[nilW, .int .i64 n1, .int .i64 n2, nilW, nilW] 59) = W := ⟨_, rfl⟩
  have hXw : w.heap.size < X := by have := HZ2.out.lt; omega
  have HC0 : Hid (CS w q X nilW n1 n2 nilW nilW s2 v0) := Lib.hid (by
    have hb : Below w2.heap.size w2 v0 := by rw [← hv0]; exact below_new _ _
    refine ⟨HT2.out.up hb, ?_, HZ2.out.below hb HZ2.out.lt⟩
    rw [← hv0, ← hX]; exact codbox_new _ _ _ _ _ _ _)
  rw [hv0, hX]
  clear hv0 hX
  refine (HN3.out v0 HC0.out.rd.1).mono ?_
  rintro e w3 ⟨pA, pc, rfl, ho3, h3⟩
  have hXv : X < v0.heap.size := HC0.out.box.lt
  have HC3 := Lib.hid (HC0.out.num h3 hql (Nat.le_of_lt hXw))
  have HP3 : Hid (w3.ownsRow v0.heap.size 3 1 (.slice pA l3.length pc) l3.length (intsOf l3)) := Lib.hid ho3
  obtain ⟨a0, a1, a2, a3, a4⟩ := HC3.out.box.ats
  obtain ⟨f0, f1, f2, f3, f4⟩ := HC3.out.box.fzd
  have HC3' := Lib.hid (HC3.out.put4 hql hXw (.slice pA l3.length pc))
  have HP3' : Hid ((w3.setCell ⟨X, 4, none⟩ (.slice pA l3.length pc)).ownsRow v0.heap.size 3 1 (.slice pA l3.length pc) l3.length (intsOf l3)) := Lib.hid (own_set HP3.out hXv)
  obtain ⟨m3, hm3⟩ : ∃ m, l3.length = m := ⟨_, rfl⟩
  have HM3 := Lib.hid hm3
  rw [hm3] at HC3' HP3' ⊢
  clear h3 ho3 HN3 hm3
  go_wp2_with fail
  obtain ⟨v1, hv1⟩ : ∃ W, w3.setCell ⟨X, 4, none⟩ (.slice pA m3 pc) = W := ⟨_, rfl⟩
  rw [hv1] at HC3' HP3' ⊢
  clear hv1 a0 a1 a2 a3 a4 f0 f1 f2 f3 f4
  refine (HN4.out v1 HC3'.out.rd.1).mono ?_
  rintro e w4 ⟨rfl, h4⟩
  have HC4 := Lib.hid (HC3'.out.num h4 hql (Nat.le_of_lt hXw))
  have HP4 := Lib.hid (own_kp HP3'.out h4.2.1 (show q < v0.heap.size by omega))
  clear h4 HN4
  go_wp2_with fail
  go_loopw [4] (fun vk wr => ∃ (k : Nat) (acc : List Ins6) (s : Rst) (A : Option Addr) (c : Nat), vk = .int .i64 (k : Int) ∧ k ≤ n4 ∧ acc.length + k ≤ 4294967295 ∧ s.1.length ≤ 1000000 ∧ inssR k acc s = (l5, s5) ∧ CS w q X (.slice A acc.length c) n1 n2 nilW (.slice pA m3 pc) s wr ∧ wr.ownsRow (X + 1) 109 6 (.slice A acc.length c) acc.length (insOfL acc) ∧ wr.ownsRow v0.heap.size 3 1 (.slice pA m3 pc) m3 (intsOf l3)) (fun vk _ => (intOf vk).toNat)
  case atStart => exact ⟨n4, [], s4, none, 0, rfl, Nat.le_refl _, by simp; omega, z4, HI5.out, HC4.out, World.ownsRow_nil _ _ _ _, HP4.out⟩
  case round =>
    obtain ⟨k, acc, s, A, c, rfl, hkn, hak, hsl, hii, hcs, hown, hrow⟩ := hrel
    have HII := Lib.hid hii
    have HCS := Lib.hid hcs
    have HOW := Lib.hid hown
    have HRW := Lib.hid hrow
    obtain ⟨m, hm⟩ : ∃ m, acc.length = m := ⟨_, rfl⟩
    have HM := Lib.hid hm
    have hcm : m ≤ c ∧ c ≤ maxLen := by
      rcases hown.2 with ⟨e1, e2⟩ | ⟨g, cap, cur, e1, _, _, e2, e3, _⟩
      · simp only [Value.slice.injEq] at e1
        exact ⟨by omega, by unfold maxLen; omega⟩
      · simp only [Value.slice.injEq] at e1
        exact ⟨by omega, by omega⟩
    unfold maxLen at hcm
    rw [hm] at HCS HOW hak
    obtain ⟨b0, b1⟩ := HCS.out.rd.1.ats
    clear hii hcs hown hrow hm
    by_cases hgo : 0 < k ∧ s.2 = 0
    · obtain ⟨hk0, hf0⟩ := hgo
      obtain ⟨j, rfl⟩ : ∃ j, k = j + 1 := ⟨k - 1, by omega⟩
      have HNX : Hid (inssR j (acc ++ [(instR s).1]) (instR s).2 = (l5, s5)) := Lib.hid (by rw [← HII.out]; conv => rhs; unfold inssR; rw [if_pos hf0])
      rw [hf0] at b1
      obtain ⟨y, hy⟩ : ∃ y, (instR s).1 = y := ⟨_, rfl⟩
      obtain ⟨t, ht⟩ : ∃ t, (instR s).2 = t := ⟨_, rfl⟩
      have htl : t.1.length ≤ 1000000 := by have := insr_len s; rw [← ht]; exact Nat.le_trans this hsl
      have HIN : Hid (∀ W, RdBox W q s → Calls Try.prog 121 #[.pointer (some ⟨q, 0, none⟩)] W fun r w' => r = .returned (insV y) ∧ RTo q t W w') := Lib.hid (fun W hW => by have := rinst_any q s W hW (by omega); rw [hy, ht] at this; exact this)
      rw [hy, ht] at HNX
      have hk2 : (0 : Int) < ((j + 1 : Nat) : Int) := by omega
      have HCD := Lib.hid HCS.out.drew
      obtain ⟨c0, c1, c2, c3, c4⟩ := HCD.out.box.ats
      obtain ⟨yo, yd, ya, yb, yc, yn⟩ := y
      have HIN2 : Hid (∀ W, RdBox W q s → Calls Try.prog 121 #[.pointer (some ⟨q, 0, none⟩)] W fun r w' => r = .returned (.agg #[.int .i64 yo, .int .i64 yd, .int .i64 ya, .int .i64 yb, .int .i64 yc, .int .i64 yn]) ∧ RTo q t W w') := Lib.hid HIN.out
      have HAP : Hid (∀ (z1 w7 : World) (gg cap : Nat), CS w q X (.slice A m c) n1 n2 nilW (.slice pA m3 pc) t z1 → z1.ownsRow (X + 1) 109 6 (.slice A m c) m (insOfL acc) → z1.ownsRow v0.heap.size 3 1 (.slice pA m3 pc) m3 (intsOf l3) →
          w7.ownsRow (X + 1) 109 6 (.slice (some ⟨gg, 0, none⟩) (m + 1) cap) (m + 1) (insOfL acc ++ insCells ⟨yo, yd, ya, yb, yc, yn⟩) → (z1.alloc (.cells #[.int .i64 yo, .int .i64 yd, .int .i64 ya, .int .i64 yb, .int .i64 yc, .int .i64 yn] 109)).grownBy w7 (Value.slice A m c).ownBlock →
          CodBox w7 X 59 (.slice A m c) n1 n2 nilW (.slice pA m3 pc) ∧ CS w q X (.slice (some ⟨gg, 0, none⟩) (m + 1) cap) n1 n2 nilW (.slice pA m3 pc) t (w7.setCell ⟨X, 0, none⟩ (.slice (some ⟨gg, 0, none⟩) (m + 1) cap)) ∧ (w7.setCell ⟨X, 0, none⟩ (.slice (some ⟨gg, 0, none⟩) (m + 1) cap)).ownsRow (X + 1) 109 6 (.slice (some ⟨gg, 0, none⟩) (m + 1) cap) (m + 1) (insOfL (acc ++ [⟨yo, yd, ya, yb, yc, yn⟩])) ∧ (w7.setCell ⟨X, 0, none⟩ (.slice (some ⟨gg, 0, none⟩) (m + 1) cap)).ownsRow v0.heap.size 3 1 (.slice pA m3 pc) m3 (intsOf l3)) := Lib.hid (fun z1 w7 gg cap hc ho hr hn hg => by
        have ho1 : ∀ k, (Value.slice A m c).ownBlock = some k → X + 1 ≤ k := fun k hk => (ho.lt k hk).1
        have hx1 : some X ≠ (Value.slice A m c).ownBlock := fun e => by have := ho1 _ e.symm; omega
        have hx2 : some w.heap.size ≠ (Value.slice A m c).ownBlock := fun e => by have := ho1 _ e.symm; omega
        have hc7 := hc.grown hg hql (fun k hk => by have := ho1 k hk; omega) hx1 hx2
        refine ⟨hc7.box, hc7.put0 hql hXw _, ?_, ?_⟩
        · rw [ins_snoc]; exact own_set hn (Nat.lt_succ_self X)
        · refine own_set (own_grown hr hg (fun g hgr e => ?_)) hXv
          obtain ⟨cs1, hc1⟩ := own_cells hr hgr
          obtain ⟨cs2, hc2⟩ := own_cells ho e.symm
          rw [hc1] at hc2
          simp at hc2)
      clear hy ht hf0
      go_wp2_with fail
      go_region_law (first
        | (refine step_call rfl 121 #[.pointer (some ⟨q, 0, none⟩)] (by simp [execOp, go_sem, Act.put, Act.eval]) ?_; refine (HIN2.out _ HCD.out.rd.1).mono ?_; rintro e z1 ⟨rfl, hz⟩; have HCZ := Lib.hid (HCD.out.num hz hql (Nat.le_of_lt hXw)); have HOZ := Lib.hid (own_kp (show wr.drew.ownsRow (X + 1) 109 6 (.slice A m c) m (insOfL acc) from HOW.out) hz.2.1 (show q < X + 1 by omega)); have HRZ := Lib.hid (own_kp (show wr.drew.ownsRow v0.heap.size 3 1 (.slice pA m3 pc) m3 (intsOf l3) from HRW.out) hz.2.1 (show q < v0.heap.size by omega)); obtain ⟨d0, d1, d2, d3, d4⟩ := HCZ.out.box.ats; obtain ⟨f0, f1, f2, f3, f4⟩ := HCZ.out.box.fzd; have hsz1 := HCZ.out.rd.2.1.size; have hsz2 := HCZ.out.box.lt; clear hz; refine ⟨_, rfl, ?_⟩)
        | (refine step_append_lies _ (by rfl) _ _ _ (by rfl) (X + 1) 109 i0 _ 6 48 Try.underlying57 hi0 hz0 hz1 hz2 rfl (by omega) (.slice A m c) m (insOfL acc) (by rfl) (by exact HOZ.out.alloc _) ⟨z1.heap.size, 0, none⟩ 1 1 (insCells ⟨yo, yd, ya, yb, yc, yn⟩) (by rfl) (by rfl) (World.news_of_block (cs := #[.int .i64 yo, .int .i64 yd, .int .i64 ya, .int .i64 yb, .int .i64 yc, .int .i64 yn]) (heap_alloc_new _ _)) (by simp [Value.oneCell', insCells]) (by omega) (by unfold maxLen; omega) (by omega) (by simp; omega) (z1.heap.size + 1) (by simp) ?_; intro gg cap w7 hown2 hgrow hat hlt; obtain ⟨hcb, hcs7, how7, hrw7⟩ := HAP.out z1 w7 gg cap HCZ.out HOZ.out HRZ.out hown2 hgrow; have HC7 := Lib.hid hcs7; have HO7 := Lib.hid how7; have HR7 := Lib.hid hrw7; obtain ⟨e0, e1, e2, e3, e4⟩ := hcb.ats; obtain ⟨g0, g1, g2, g3, g4⟩ := hcb.fzd; clear hown2 hgrow hat hlt hcb hcs7 how7 hrw7))
      all_goals
        go_wp2_with fail
        go_roundw
        case rel => exact ⟨j, acc ++ [⟨yo, yd, ya, yb, yc, yn⟩], t, _, _, by go_num, by omega, by rw [List.length_append, HM.out]; simp; omega, htl, HNX.out, by rw [List.length_append, HM.out]; exact HC7.out, by rw [List.length_append, HM.out]; exact HO7.out, HR7.out⟩
        case measure => simp [intOf]
    · have HEND : Hid (acc = l5 ∧ s = s5) := Lib.hid (by
        have h1 := HII.out
        cases k with
        | zero => simp [inssR] at h1; exact h1
        | succ k =>
          unfold inssR at h1
          rw [if_neg (fun e => hgo ⟨by omega, e⟩)] at h1
          simpa using h1)
      have hcase : k = 0 ∨ ((0 : Int) < (k : Int) ∧ (s.2 == 0) = false) := by
        by_cases h0 : k = 0
        · exact .inl h0
        · exact .inr ⟨by omega, by simp; exact fun e => hgo ⟨by omega, e⟩⟩
      rcases hcase with hk0 | ⟨hk2, hfb⟩
      case' inl =>
        have hk2 : ¬ ((0 : Int) < (k : Int)) := by omega
        clear hgo hk0
        go_wp2_with fail
      case' inr =>
        clear hgo
        go_wp2_with fail
      all_goals
        refine (HN6.out _ (by rw [← HEND.out.2]; exact HCS.out.rd.1)).mono ?_
        rintro e w5 ⟨oA, oc, rfl, ho5, h5⟩
        have HC5 := Lib.hid (HCS.out.num h5 hql (Nat.le_of_lt hXw))
        have HI5' := Lib.hid (own_kp HOW.out h5.2.1 (show q < X + 1 by omega))
        have HP5 := Lib.hid (own_kp HRW.out h5.2.1 (show q < v0.heap.size by omega))
        have hXr : X < wr.heap.size := HCS.out.box.lt
        have HQ5 : Hid (w5.ownsRow wr.heap.size 3 1 (.slice oA l6.length oc) l6.length (intsOf l6)) := Lib.hid ho5
        obtain ⟨a0, a1, a2, a3, a4⟩ := HC5.out.box.ats
        obtain ⟨f0, f1, f2, f3, f4⟩ := HC5.out.box.fzd
        have HC6 := Lib.hid (HC5.out.put3 hql hXw (.slice oA l6.length oc))
        obtain ⟨m6, hm6⟩ : ∃ m, l6.length = m := ⟨_, rfl⟩
        have HM6 := Lib.hid hm6
        rw [hm6] at HC6 HQ5 ⊢
        obtain ⟨c0, c1, c2, c3, c4⟩ := HC6.out.box.ats
        obtain ⟨r0, r1, r2, r3, r4⟩ := HC6.out.res.ats
        obtain ⟨g0, g1, g2, g3, g4⟩ := HC6.out.res.fzd
        clear h5 ho5 hm6
        go_wp2_with fail
        have HF := Lib.hid (HC6.out.fin hql)
        have HI6 := Lib.hid (own_set5 (X := w.heap.size) (v0 := .slice A m c) (v1 := .int .i64 n1) (v2 := .int .i64 n2) (v3 := .slice oA m6 oc) (v4 := .slice pA m3 pc) (own_set (k := 3) (u := .slice oA m6 oc) HI5'.out (Nat.lt_succ_self X)) (by omega))
        have HP6 := Lib.hid (own_set5 (X := w.heap.size) (v0 := .slice A m c) (v1 := .int .i64 n1) (v2 := .int .i64 n2) (v3 := .slice oA m6 oc) (v4 := .slice pA m3 pc) (own_set (k := 3) (u := .slice oA m6 oc) HP5.out hXv) (by omega))
        have HQ6 := Lib.hid (own_set5 (X := w.heap.size) (v0 := .slice A m c) (v1 := .int .i64 n1) (v2 := .int .i64 n2) (v3 := .slice oA m6 oc) (v4 := .slice pA m3 pc) (own_set (k := 3) (u := .slice oA m6 oc) HQ5.out hXr) (by omega))
        obtain ⟨y0, y1, y2, y3, y4⟩ := HF.out.2.ats
        refine bodyPost_ret (v := .agg #[.slice A m c, .int .i64 n1, .int .i64 n2, .slice oA m6 oc, .slice pA m3 pc]) (by simp [results, Try.results88, go_sem, y0, y1, y2, y3, y4]) rfl ⟨_, _, _, rfl, fun V hV => ⟨InsR.of_own (b := X + 1) (T := 109) (by dsimp only; rw [← HEND.out.1, HM.out]; exact own_block HI6.out (fun g hg => hV g (by have := (HI6.out.lt g hg).1; omega) (HI6.out.lt g hg).2)), Ints.of_own (b := wr.heap.size) (by dsimp only; rw [HM6.out]; exact own_block HQ6.out (fun g hg => hV g (by have := (HQ6.out.lt g hg).1; omega) (HQ6.out.lt g hg).2)), Ints.of_own (b := v0.heap.size) (by dsimp only; rw [HM3.out]; exact own_block HP6.out (fun g hg => hV g (by have := (HP6.out.lt g hg).1; omega) (HP6.out.lt g hg).2))⟩, HF.out.1⟩
end Go.Proofs.Ytcphjehjdhgheaa.Nt
