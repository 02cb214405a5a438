/- A variable set: Restrict. Conditions: none. -/
import Derived.Test.YtfohjlepknnleaaBdRc
import Derived.Test.YtfohjlepknnleaaBdMb
namespace Go.Proofs.Ytfohjlepknnleaa.Bd
open Go.ChangeShapes Go.WideShapes Go.ChangeAt Go.RowKit
set_option linter.unusedVariables false
set_option linter.unusedSimpArgs false

set_option maxRecDepth 100000 in
set_option maxHeartbeats 1600000 in
/-- The closures are made. -/
theorem restricter_any (P : Dp) (w : World) (fv : Value) (F : List Nd) (h : Dr P w fv F) (i : Nat) (b : Bool) :
    Calls Try.prog 41 #[.pointer (some ⟨P.dd, 0, none⟩), .int .i64 (i : Int), .bool b] w (fun e w' => Below w.heap.size w w' ∧ e = .returned (.func (.func 54) #[] #[.pointer (some ⟨w.heap.size + 6, 0, none⟩), .pointer (some ⟨w.heap.size + 4, 0, none⟩)]) ∧ Rs P w.heap.size i b F w') := by
  have hsz : P.W0.heap.size ≤ w.heap.size ∧ P.kb < w.heap.size := ⟨h.below.size, by obtain ⟨f, h1, h2⟩ := h.known; exact h1.lt⟩
  obtain ⟨w1, hw1⟩ : ∃ W, w.alloc (.cells #[.pointer (some ⟨P.dd, 0, none⟩)] 73) = W := ⟨_, rfl⟩
  obtain ⟨w2, hw2⟩ : ∃ W, w1.alloc (.cells #[.int .i64 (i : Int)] 3) = W := ⟨_, rfl⟩
  obtain ⟨w3, hw3⟩ : ∃ W, w2.alloc (.cells #[.bool b] 4) = W := ⟨_, rfl⟩
  obtain ⟨w4, hw4⟩ : ∃ W, w3.alloc (.cells #[.nilFunc] 81) = W := ⟨_, rfl⟩
  obtain ⟨a1, -, -, b1, s1⟩ := one_new _ _ _ _ hw1
  obtain ⟨a2, -, -, b2, s2⟩ := one_new _ _ _ _ hw2
  obtain ⟨a3, -, -, b3, s3⟩ := one_new _ _ _ _ hw3
  obtain ⟨a4, -, -, b4, s4⟩ := one_new _ _ _ _ hw4
  rw [s1] at a2
  rw [s2, s1] at a3
  rw [s3, s2, s1] at a4 s4
  have b14 : Below w.heap.size w w4 := b1.trans ((b2.trans ((b3.trans (b4.mono (by omega))).mono (by omega))).mono (by omega))
  have i0 : w4.heap[w.heap.size]? = some (.cells #[.pointer (some ⟨P.dd, 0, none⟩)] 73 (0, 0)) := by rw [b4.block _ (by omega), b3.block _ (by omega), b2.block _ (by omega)]; exact a1
  have i1 : w4.heap[w.heap.size + 1]? = some (.cells #[.int .i64 (i : Int)] 3 (0, 0)) := by rw [b4.block _ (by omega), b3.block _ (by omega)]; exact a2
  have i2 : w4.heap[w.heap.size + 1 + 1]? = some (.cells #[.bool b] 4 (0, 0)) := by rw [b4.block _ (by omega)]; exact a3
  have hr := remI_any w4 53 #[.pointer (some ⟨w.heap.size, 0, none⟩), .pointer (some ⟨w.heap.size + 1, 0, none⟩), .pointer (some ⟨w.heap.size + 1 + 1 + 1, 0, none⟩), .pointer (some ⟨w.heap.size + 1 + 1, 0, none⟩)] _ rfl
  have HR := Lib.hid hr
  have HI := Lib.hid (And.intro i0 (And.intro i1 (And.intro i2 a4)))
  have S4 := Lib.hid s4
  have HB4 := Lib.hid b14
  have HSZ := Lib.hid hsz
  have S3 : Hid (w3.heap.size = w.heap.size + 1 + 1 + 1) := Lib.hid (by rw [s3, s2, s1])
  have HW4 : Hid ((((w.alloc (.cells #[.pointer (some ⟨P.dd, 0, none⟩)] 73)).alloc (.cells #[.int .i64 (i : Int)] 3)).alloc (.cells #[.bool b] 4)).alloc (.cells #[.nilFunc] 81) = w4) := Lib.hid (by rw [hw1, hw2, hw3, hw4])
  clear a1 a2 a3 a4 b1 b2 b3 b4 s1 s2 s3 s4 i0 i1 i2 b14 hr hsz h hw1 hw2 hw3 hw4
  go_enter Try.func41, Try.ntmps41
  go_wp2_with fail
  rw [HW4.out]
  refine HR.out.mono ?_
  rintro e w5 ⟨hb5, hs5, rfl, k4, k6, m5⟩
  rw [S4.out] at hs5 k4 k6 m5 ⊢
  obtain ⟨i0, i1, i2, i3⟩ := HI.out
  have hs4 := S4.out
  have j0 := (hb5.block w.heap.size (by omega)).trans i0
  have j1 := (hb5.block (w.heap.size + 1) (by omega)).trans i1
  have j2 := (hb5.block (w.heap.size + 1 + 1) (by omega)).trans i2
  have j3 := (hb5.block (w.heap.size + 1 + 1 + 1) (by omega)).trans i3
  have q3 : w5.cell? ⟨w.heap.size + 1 + 1 + 1, 0, none⟩ = some .nilFunc := by unfold World.cell?; rw [j3]; rfl
  have q3f : w5.frozen? ⟨w.heap.size + 1 + 1 + 1, 0, none⟩ = false := by unfold World.frozen?; rw [j3]; rfl
  obtain ⟨w6, hw6⟩ : ∃ W, w5.setCell ⟨w.heap.size + 1 + 1 + 1, 0, none⟩ (.func (.func 54) #[] #[.pointer (some ⟨w.heap.size + 1 + 1 + 1 + 1 + 2, 0, none⟩), .pointer (some ⟨w.heap.size + 1 + 1 + 1 + 1, 0, none⟩)]) = W := ⟨_, rfl⟩
  have hb6 : Below w.heap.size w w6 := by rw [← hw6]; exact (HB4.out.trans (hb5.mono (by omega))).setCell (by show _ ≤ w.heap.size + 1 + 1 + 1; omega) _
  have K : ∀ g, g ≠ w.heap.size + 1 + 1 + 1 → w6.heap[g]? = w5.heap[g]? := fun g hg => by rw [← hw6]; exact Below.heap_setCell _ _ _ _ (by show g ≠ w.heap.size + 1 + 1 + 1; exact hg)
  have j3' : w6.heap[w.heap.size + 1 + 1 + 1]? = some (.cells #[.func (.func 54) #[] #[.pointer (some ⟨w.heap.size + 1 + 1 + 1 + 1 + 2, 0, none⟩), .pointer (some ⟨w.heap.size + 1 + 1 + 1 + 1, 0, none⟩)]] 81 (0, 0)) := by rw [← hw6]; exact one_set j3
  have HE : Hid (Below w.heap.size w w6 ∧ Rs P w.heap.size i b F w6) := Lib.hid ⟨hb6, ⟨(K _ (by omega)).trans j0, (K _ (by omega)).trans j1, (K _ (by omega)).trans j2, j3', (K _ (by omega)).trans k4, (K _ (by omega)).trans k6, ⟨0, _, m5.keep (K _ (by omega)), by omega, fun x v hv => by cases hv⟩, HSZ.out.1, HSZ.out.2⟩⟩
  have c6 : w6.cell? ⟨w.heap.size + 1 + 1 + 1, 0, none⟩ = some (.func (.func 54) #[] #[.pointer (some ⟨w.heap.size + 1 + 1 + 1 + 1 + 2, 0, none⟩), .pointer (some ⟨w.heap.size + 1 + 1 + 1 + 1, 0, none⟩)]) := by unfold World.cell?; rw [j3']; rfl
  have HW6 := Lib.hid hw6
  clear hb5 hs5 k4 k6 m5 i0 i1 i2 i3 hs4 j0 j1 j2 j3 hw6 hb6 K j3'
  go_wp2_with fail
  rw [HW6.out]
  go_wp2_with fail
  refine bodyPost_ret (v := .func (.func 54) #[] #[.pointer (some ⟨w.heap.size + 6, 0, none⟩), .pointer (some ⟨w.heap.size + 4, 0, none⟩)]) (by simp [results, Try.results41, go_sem]) rfl ⟨HE.out.1, rfl, HE.out.2⟩

set_option maxRecDepth 100000 in
set_option maxHeartbeats 1600000 in
theorem restrict_bad (w : World) (pt : Value) (n : Nat) (h : PtAt w pt n) (f i : Int) (b : Bool) (hb : hasB n [f] = false) :
    Calls Try.prog 20 #[pt, .int .i64 f, .int .i64 i, .bool b] w (fun e w' => e = .returned (.tuple #[.int .i64 0, .int .i64 1]) ∧ Below w.heap.size w w') := by
  obtain ⟨w1, hw1⟩ : ∃ W, w.alloc (.cells #[.int .i64 f] 3) = W := ⟨_, rfl⟩
  have hB : Below w.heap.size w w1 := by rw [← hw1]; exact below_new _ _
  have hc := phas_any w1 pt n _ [f] (h.below hB) (ints_one w f w1 hw1) (by simp)
  rw [hb] at hc
  have HC := Lib.hid hc
  have HB := Lib.hid hB
  clear hc h hb hB
  go_enter Try.func20, Try.ntmps20
  go_wp2_with (go_at_call 32; with_reducible refine HC.out.mono ?_; rintro e w2 ⟨rfl, rfl⟩)
  refine bodyPost_ret (v := .tuple #[.int .i64 0, .int .i64 1]) (by simp [results, Try.results20, go_sem]) rfl ⟨rfl, HB.out⟩

set_option maxRecDepth 100000 in
set_option maxHeartbeats 1600000 in
/-- A variable set. -/
theorem restrict_any (B : Nat) (w : World) (b vars budget : Nat) (S : List Nd) (h : StAt B w b vars budget S) (f i : Nat) (c : Bool) (hf : f < S.length) (hi : i < vars) :
    Calls Try.prog 20 #[.pointer (some ⟨b, 0, none⟩), .int .i64 (f : Int), .int .i64 (i : Int), .bool c] w (OpPost B w b vars budget S (2 ^ vars - 1) (fun r => den S f (upd r i c))) := by
  obtain ⟨nv, pb, h⟩ := h
  obtain ⟨w1, hw1⟩ : ∃ W, w.alloc (.cells #[.int .i64 (f : Int)] 3) = W := ⟨_, rfl⟩
  have hB : Below w.heap.size w w1 := by rw [← hw1]; exact below_new _ _
  have hBle : B ≤ w.heap.size := by have := h.hb; have := h.box.lt; omega
  have h1 := h.below hB
  have hp : PtAt w1 (.pointer (some ⟨b, 0, none⟩)) S.length := .inr ⟨B, b, vars, budget, nv, pb, S, rfl, h1, rfl⟩
  have hc := phas_any w1 _ _ _ [(f : Int)] hp (ints_one w f w1 hw1) (by simp)
  have ht : hasB S.length [(f : Int)] = true := by rw [has_one]; simp; omega
  rw [ht] at hc
  have hv := hasVar_any B w1 b vars budget nv pb S h1 (i : Int)
  have hd : (decide ((0 : Int) ≤ (i : Int)) && decide ((i : Int) < (vars : Int))) = true := by simp; omega
  rw [hd] at hv
  have HC := Lib.hid hc
  have HV := Lib.hid hv
  have HB := Lib.hid hB
  have HDR := Lib.hid (draft_any B w1 b vars budget nv pb S h1)
  have HL := Lib.hid (And.intro hf hi)
  clear hc hv hd h h1 hp hB hf hi ht
  go_enter Try.func20, Try.ntmps20
  go_wp2_with fail
  refine HC.out.mono ?_
  rintro e w' ⟨rfl, hw'⟩
  subst hw'
  go_wp2_with fail
  refine HV.out.mono ?_
  rintro e w' ⟨rfl, hw'⟩
  subst hw'
  go_wp2_with fail
  refine HDR.out.mono ?_
  rintro e w2 ⟨hb2, P, e0, e1, e2, e3, e4, e5, e6, e7, e8, rfl, hD⟩
  have HE := Lib.hid (And.intro e0 (And.intro e1 (And.intro e2 (And.intro e3 (And.intro e4 (And.intro e7 e8))))))
  have HD := Lib.hid hD
  have HCH := Lib.hid (restricter_any P w2 _ _ hD i c)
  clear hD e0 e1 e2 e3 e4 e5 e6 e7 e8 hb2
  go_wp2_with fail
  refine HCH.out.mono ?_
  rintro e w3 ⟨hb3, rfl, hR⟩
  obtain ⟨e0, e1, e2, e3, e4, e7, e8⟩ := HE.out
  have hD3 := HD.out.kept hb3
  have hset := rs_all P w2.heap.size i c (by rw [e3]; exact HL.out.2) P.vars w3 _ [] f hD3 hR (by rw [List.append_nil, e7]; exact HL.out.1) (by omega)
  have HSET := Lib.hid hset
  clear hb3 hR hD3 hset e0 e1 e2 e3 e4 e7 e8
  go_wp2_with fail
  refine HSET.out.mono ?_
  rintro e w4 ⟨fv2, F2, hD4, -, hl4, -, -, hR4⟩
  obtain ⟨e0, e1, e2, e3, e4, e7, e8⟩ := HE.out
  obtain ⟨x, rfl, hxb, hxn, hF2, hval⟩ : ∃ x : Int, e = .returned (.int .i64 x) ∧ (-1 ≤ x ∧ x < ((P.S ++ F2).length : Int)) ∧ (x = -1 → P.budget ≤ P.S.length + (2 ^ vars - 1)) ∧ F2.length ≤ 2 ^ vars - 1 ∧ ∀ y : Nat, x = (y : Int) → ∀ r, den (P.S ++ F2) y r = den S f (upd r i c) := by
    have hl5 : F2.length ≤ 2 ^ vars - 1 := by rw [e3] at hl4; simpa using hl4
    rcases hR4 with ⟨rfl, hc⟩ | ⟨x, rfl, hp⟩
    · exact ⟨-1, rfl, ⟨by omega, by omega⟩, fun _ => by unfold Full at hc; rw [e8] at hc; rw [e4]; omega, hl5, fun y hy => by omega⟩
    · refine ⟨x, rfl, ⟨by omega, by have := hp.lt; omega⟩, fun h => by omega, hl5, fun y hy r => ?_⟩
      obtain rfl : y = x := by omega
      rw [hp.val r, List.append_nil, e7]
  have HK := Lib.hid ((keep_any P w4 fv2 F2 hD4 x hxb).mono (fun e w' hk => (op_keep (K := 2 ^ vars - 1) (val := fun r => den S f (upd r i c)) hD4 e0 e1 e2 e3 e4 e7 hk hF2 hxn hval).back hBle HB.out))
  clear hD4 hR4 e0 e1 e2 e3 e4 e7 e8 hxb hxn hF2 hval hl4
  go_wp2_with fail
  refine HK.out.mono ?_
  rintro e w5 hp
  obtain ⟨a, c, rfl⟩ := hp.ret
  have HR := Lib.hid hp
  clear hp
  go_wp2
  refine bodyPost_ret (v := .tuple #[.int .i64 a, .int .i64 c]) (by simp [results, Try.results20, go_sem]) rfl HR.out
end Go.Proofs.Ytfohjlepknnleaa.Bd
