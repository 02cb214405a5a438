/- Two nets that are the same are the same by the document's question. Conditions: none. -/
import Derived.Test.YtcphjehjdhgheaaNtB
import Derived.Test.YtcphjehjdhgheaaNtG
namespace Go.Proofs.Ytcphjehjdhgheaa.Nt
open Go.ChangeShapes Go.WideShapes Go.ChangeAt Go.RowKit Go.Proofs.Ytcphjehjdhgheaa.Tr
set_option linter.unusedVariables false
set_option linter.unusedSimpArgs false

theorem undOpD : Try.prog.underlying 69 = some (.struct (Try.prog.fieldsOf 69)) := by kernel_rfl
theorem stoodOpD : Try.prog.stoodInHeld 69 = false := by kernel_rfl
theorem guardOpD : Try.prog.eqGuardType Try.prog.depth 69 = false := by kernel_rfl
theorem equal_op (d : Nat) (o a b c n : Int) (w : World) :
    (Op.equalIn (d + 2) 69 (.agg #[.int .i64 o, .int .i64 a, .int .i64 b, .int .i64 c, .int .i64 n]) (.agg #[.int .i64 o, .int .i64 a, .int .i64 b, .int .i64 c, .int .i64 n])).run Try.prog w = .ok true w := by
  rw [run_equalIn_agg w (d + 1) 69 _ _ undOpD stoodOpD]
  simp only [Program.fieldsOf, Try.underlying69]
  simp [go_sem, Try.underlying3]
theorem neq_op (o a b c n : Int) (w : World) :
    (binOp .neq 69 (.agg #[.int .i64 o, .int .i64 a, .int .i64 b, .int .i64 c, .int .i64 n]) (.agg #[.int .i64 o, .int .i64 a, .int .i64 b, .int .i64 c, .int .i64 n])).run Try.prog w = .ok (.bool false) w := by
  rw [run_neq_struct, show (10000 : Nat) = 9998 + 2 from rfl, equal_op]; rfl
theorem guard_op (op : BinOp) (x y : Operand) (xs ys : Array Value) (w : World) : (eqGuard op 69 x y (.agg xs) (.agg ys)).run Try.prog w = .ok () w := run_eqGuard_agg w op 69 x y xs ys guardOpD
theorem ints_eq0 (w : World) (u v : Value) (l : List Int) (hu : Ints w u l) (hv : Ints w v l) : Calls Try.prog 21 #[u, v] w (fun e w' => e = .returned (.bool true) ∧ Below w.heap.size w w') :=
  (ints_any u v l l w hu hv).mono (by
    rintro e w' ⟨rfl, n, rfl⟩
    exact ⟨by simp, below_drewN (Below.refl _ _) n⟩)
attribute [local go_sem ↓] neq_op guard_op
set_option maxRecDepth 100000 in
set_option maxHeartbeats 4000000 in
theorem same_any (w : World) (u1 u2 u3 v1 v2 v3 : Value) (N : Net) (hu : NetR w u1 u2 u3 N) (hv : NetR w v1 v2 v3 N) : Calls Try.prog 22 #[.agg #[u1, u2, u3], .agg #[v1, v2, v3]] w (fun e w' => e = .returned (.bool true) ∧ Below w.heap.size w w') := by
  have HU := Lib.hid hu
  have HV := Lib.hid hv
  obtain ⟨A1, c1, rfl, x1, y1⟩ := hu.1.form
  obtain ⟨A2, c2, rfl, x2, y2⟩ := ints_form hu.2.1
  obtain ⟨A3, c3, rfl, x3, y3⟩ := ints_form hu.2.2
  obtain ⟨B1, d1, rfl, x4, y4⟩ := hv.1.form
  obtain ⟨B2, d2, rfl, x5, y5⟩ := ints_form hv.2.1
  obtain ⟨B3, d3, rfl, x6, y6⟩ := ints_form hv.2.2
  obtain ⟨n, hn⟩ : ∃ n, N.ops.length = n := ⟨_, rfl⟩
  obtain ⟨nr, hnr⟩ : ∃ n, N.roots.length = n := ⟨_, rfl⟩
  obtain ⟨ni, hni⟩ : ∃ n, N.ins.length = n := ⟨_, rfl⟩
  have HN := Lib.hid hn
  rw [hn, hnr, hni] at HU HV ⊢
  rw [hn] at x1 x4
  rw [hnr] at x2 x5
  rw [hni] at x3 x6
  unfold maxLen at y1 y2 y3 y4 y5 y6
  obtain ⟨w1, hw1⟩ : ∃ W, (w.alloc (.cells #[.slice A1 n c1, .slice A2 nr c2, .slice A3 ni c3] 25)).alloc (.cells #[.slice B1 n d1, .slice B2 nr d2, .slice B3 ni d3] 25) = W := ⟨_, rfl⟩
  have HB1 : Hid (Below w.heap.size w w1) := Lib.hid (by rw [← hw1]; exact (below_new _ _).trans ((below_new _ _).mono (by simp)))
  have HX1 : Hid (NetBox w1 w.heap.size 25 (.slice A1 n c1) (.slice A2 nr c2) (.slice A3 ni c3)) := Lib.hid (by rw [← hw1]; exact (box_new w 25 _ _ _).below (below_new _ _) (by simp))
  have HY1 : Hid (NetBox w1 (w.heap.size + 1) 25 (.slice B1 n d1) (.slice B2 nr d2) (.slice B3 ni d3)) := Lib.hid (by
    rw [← hw1]
    have := box_new (w.alloc (.cells #[.slice A1 n c1, .slice A2 nr c2, .slice A3 ni c3] 25)) 25 (.slice B1 n d1) (.slice B2 nr d2) (.slice B3 ni d3)
    rw [show (w.alloc (.cells #[.slice A1 n c1, .slice A2 nr c2, .slice A3 ni c3] 25)).heap.size = w.heap.size + 1 by simp] at this
    exact this)
  have HU1 := Lib.hid (HU.out.below HB1.out (Nat.le_refl _))
  have HV1 := Lib.hid (HV.out.below HB1.out (Nat.le_refl _))
  obtain ⟨p0, p1, p2⟩ := HX1.out.ats
  obtain ⟨q0, q1, q2⟩ := HY1.out.ats
  clear hu hv hn hnr hni
  go_enter Try.func22, Try.ntmps22
  go_wp2_with fail
  try rw [hw1]
  try go_wp2_with fail
  clear hw1
  refine (ints_eq0 w1 _ _ _ HU1.out.2.1 HV1.out.2.1).mono ?_
  rintro e w2 ⟨rfl, hb2⟩
  have HB2 := Lib.hid hb2
  obtain ⟨p0, p1, p2⟩ := (HX1.out.below hb2 HX1.out.lt).ats
  obtain ⟨q0, q1, q2⟩ := (HY1.out.below hb2 HY1.out.lt).ats
  clear hb2
  go_wp2_with fail
  refine (ints_eq0 w2 _ _ _ (HU1.out.2.2.below HB2.out (Nat.le_refl _)) (HV1.out.2.2.below HB2.out (Nat.le_refl _))).mono ?_
  rintro e w3 ⟨rfl, hb3⟩
  have HB3 : Hid (Below w1.heap.size w1 w3) := Lib.hid (HB2.out.trans (hb3.mono HB2.out.size))
  clear hb3
  go_wp2_with fail
  go_loopw [5] (fun vi wr => ∃ k : Nat, k ≤ n ∧ vi = .int .i64 (k : Int) ∧ Below w1.heap.size w1 wr) (fun vi _ => n - (intOf vi).toNat)
  case atStart => exact ⟨0, Nat.zero_le _, rfl, HB3.out⟩
  case round =>
    obtain ⟨k, hk, rfl, hb⟩ := hrel
    have HBk := Lib.hid hb
    obtain ⟨p0, p1, p2⟩ := (HX1.out.below hb HX1.out.lt).ats
    obtain ⟨q0, q1, q2⟩ := (HY1.out.below hb HY1.out.lt).ats
    clear hb
    by_cases hkn : k < n
    · obtain ⟨x, hx⟩ : ∃ x, N.ops[k]? = some x := ⟨_, List.getElem?_eq_getElem (by rw [HN.out]; exact hkn)⟩
      obtain ⟨g, o, rfl, hg, a0, a1, a2, a3, a4⟩ := (HU1.out.1.below HBk.out (Nat.le_refl _)).at hx
      obtain ⟨g', o', rfl, hg', b0, b1, b2, b3, b4⟩ := (HV1.out.1.below HBk.out (Nat.le_refl _)).at hx
      obtain ⟨xo, xa, xb, xc, xn⟩ := x
      dsimp only at a0 a1 a2 a3 a4 b0 b1 b2 b3 b4
      have HBD : Hid (∀ q, Below w1.heap.size w1 (wr.drewN q)) := Lib.hid (fun q => below_drewN HBk.out q)
      clear hx
      go_wp2_with fail
      go_quiet (fail)
      go_wp2_with fail
      exact ⟨⟨k + 1, by omega, by go_num, HBD.out _⟩, by simp [intOf]; omega⟩
    · have hke : k = n := by omega
      subst hke
      go_wp2_with fail
      go_ret
      exact ⟨rfl, HB1.out.trans (HBk.out.mono HB1.out.size)⟩
end Go.Proofs.Ytcphjehjdhgheaa.Nt
