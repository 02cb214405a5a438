/- A store's operations: a choice of three; Not. Conditions: none. -/
import Derived.Test.YtfohjlepknnleaaBdMa
namespace Go.Proofs.Ytfohjlepknnleaa.Bd
open Go.ChangeShapes Go.WideShapes Go.ChangeAt Go.RowKit
set_option linter.unusedVariables false
set_option linter.unusedSimpArgs false

theorem ints_three (w : World) (x y z : Int) (w1 : World) (h : w.alloc (.cells #[.int .i64 x, .int .i64 y, .int .i64 z] 3) = w1) : IntsAt w1 (.slice (some ⟨w.heap.size, 0, none⟩) 3 3) [x, y, z] := by
  obtain ⟨-, ⟨a, b, c⟩, -, -⟩ := three_new _ _ _ _ _ _ h
  refine ⟨some ⟨w.heap.size, 0, none⟩, 3, rfl, fun i u hu => ⟨w.heap.size, 0, rfl, ?_⟩⟩
  have hi := (List.getElem?_eq_some_iff.mp hu).1
  have : i = 0 ∨ i = 1 ∨ i = 2 := by simp at hi; omega
  rcases this with rfl | rfl | rfl
  · obtain rfl : x = u := by simpa using hu
    exact a
  · obtain rfl : y = u := by simpa using hu
    exact b
  · obtain rfl : z = u := by simpa using hu
    exact c
theorem has_three {n : Nat} {x y z : Int} : hasB n [x, y, z] = true ↔ (0 ≤ x ∧ x < (n : Int)) ∧ (0 ≤ y ∧ y < (n : Int)) ∧ (0 ≤ z ∧ z < (n : Int)) := by
  unfold hasB
  simp
  omega
theorem OpPost.back {B : Nat} {w w1 w' : World} {b vars budget K : Nat} {S : List Nd} {val : (Nat → Bool) → Bool} {e : Ending} (hB : B ≤ w.heap.size) (hb : Below w.heap.size w w1) (h : OpPost B w1 b vars budget S K val e w') : OpPost B w b vars budget S K val e w' :=
  ⟨(hb.mono hB).trans h.1, (Keeps.of hb).trans h.2.1, h.2.2⟩
theorem OpPost.ret {B : Nat} {w w' : World} {b vars budget K : Nat} {S : List Nd} {val : (Nat → Bool) → Bool} {e : Ending} (h : OpPost B w b vars budget S K val e w') : ∃ a c : Int, e = .returned (.tuple #[.int .i64 a, .int .i64 c]) := by
  rcases h.2.2 with ⟨h, _⟩ | ⟨N, y, h, _⟩
  · exact ⟨_, _, h⟩
  · exact ⟨_, _, h⟩

set_option maxRecDepth 100000 in
set_option maxHeartbeats 1600000 in
theorem ite_bad (w : World) (pt : Value) (n : Nat) (h : PtAt w pt n) (f g k : Int) (hb : hasB n [f, g, k] = false) :
    Calls Try.prog 16 #[pt, .int .i64 f, .int .i64 g, .int .i64 k] w (fun e w' => e = .returned (.tuple #[.int .i64 0, .int .i64 1]) ∧ Below w.heap.size w w') := by
  obtain ⟨w1, hw1⟩ : ∃ W, w.alloc (.cells #[.int .i64 f, .int .i64 g, .int .i64 k] 3) = W := ⟨_, rfl⟩
  have hB : Below w.heap.size w w1 := by rw [← hw1]; exact below_new _ _
  have hc := phas_any w1 pt n _ [f, g, k] (h.below hB) (ints_three w f g k w1 hw1) (by simp)
  rw [hb] at hc
  have HC := Lib.hid hc
  have HB := Lib.hid hB
  clear hc h hb hB
  go_enter Try.func16, Try.ntmps16
  go_wp2_with (go_at_call 32; with_reducible refine HC.out.mono ?_; rintro e w2 ⟨rfl, rfl⟩)
  refine bodyPost_ret (v := .tuple #[.int .i64 0, .int .i64 1]) (by simp [results, Try.results16, go_sem]) rfl ⟨rfl, HB.out⟩

set_option maxRecDepth 100000 in
set_option maxHeartbeats 1600000 in
/-- A choice of three. -/
theorem ite_any (B : Nat) (w : World) (b vars budget : Nat) (S : List Nd) (h : StAt B w b vars budget S) (f g k : Nat) (hf : f < S.length) (hg : g < S.length) (hk : k < S.length) :
    Calls Try.prog 16 #[.pointer (some ⟨b, 0, none⟩), .int .i64 (f : Int), .int .i64 (g : Int), .int .i64 (k : Int)] w (OpPost B w b vars budget S (2 ^ vars - 1) (fun r => if den S f r then den S g r else den S k r)) := by
  obtain ⟨nv, pb, h⟩ := h
  obtain ⟨w1, hw1⟩ : ∃ W, w.alloc (.cells #[.int .i64 (f : Int), .int .i64 (g : Int), .int .i64 (k : Int)] 3) = W := ⟨_, rfl⟩
  have hB : Below w.heap.size w w1 := by rw [← hw1]; exact below_new _ _
  have hBle : B ≤ w.heap.size := by have := h.hb; have := h.box.lt; omega
  have h1 := h.below hB
  have hp : PtAt w1 (.pointer (some ⟨b, 0, none⟩)) S.length := .inr ⟨B, b, vars, budget, nv, pb, S, rfl, h1, rfl⟩
  have hc := phas_any w1 _ _ _ [(f : Int), (g : Int), (k : Int)] hp (ints_three w f g k w1 hw1) (by simp)
  rw [has_three.2 ⟨⟨by omega, by omega⟩, ⟨by omega, by omega⟩, ⟨by omega, by omega⟩⟩] at hc
  have HC := Lib.hid hc
  have HB := Lib.hid hB
  have HDR := Lib.hid (draft_any B w1 b vars budget nv pb S h1)
  have HL := Lib.hid (And.intro hf (And.intro hg hk))
  clear hc h h1 hp hB hf hg hk
  go_enter Try.func16, Try.ntmps16
  go_wp2_with fail
  refine HC.out.mono ?_
  rintro e w' ⟨rfl, hw'⟩
  subst hw'
  go_wp2_with fail
  refine HDR.out.mono ?_
  rintro e w2 ⟨hb2, P, e0, e1, e2, e3, e4, e5, e6, e7, e8, rfl, hD⟩
  have HE := Lib.hid (And.intro e0 (And.intro e1 (And.intro e2 (And.intro e3 (And.intro e4 (And.intro e7 e8))))))
  have HD := Lib.hid hD
  have HCH := Lib.hid (chooser_any P w2 _ _ hD)
  clear hD e0 e1 e2 e3 e4 e5 e6 e7 e8 hb2
  go_wp2_with fail
  refine HCH.out.mono ?_
  rintro e w3 ⟨hb3, rfl, hC⟩
  obtain ⟨e0, e1, e2, e3, e4, e7, e8⟩ := HE.out
  have hD3 := HD.out.kept hb3
  have hchoose := choose_any P w2.heap.size P.vars w3 _ [] f g k hD3 hC (by rw [List.append_nil, e7]; exact HL.out.1) (by rw [List.append_nil, e7]; exact HL.out.2.1) (by rw [List.append_nil, e7]; exact HL.out.2.2) (by omega)
  have HCHO := Lib.hid hchoose
  clear hb3 hC hD3 hchoose e0 e1 e2 e3 e4 e7 e8
  go_wp2_with fail
  refine HCHO.out.mono ?_
  rintro e w4 ⟨fv2, F2, hD4, -, hl4, -, hR⟩
  obtain ⟨e0, e1, e2, e3, e4, e7, e8⟩ := HE.out
  obtain ⟨x, rfl, hxb, hxn, hF2, hval⟩ : ∃ x : Int, e = .returned (.int .i64 x) ∧ (-1 ≤ x ∧ x < ((P.S ++ F2).length : Int)) ∧ (x = -1 → P.budget ≤ P.S.length + (2 ^ vars - 1)) ∧ F2.length ≤ 2 ^ vars - 1 ∧ ∀ y : Nat, x = (y : Int) → ∀ r, den (P.S ++ F2) y r = if den S f r then den S g r else den S k r := by
    have hl5 : F2.length ≤ 2 ^ vars - 1 := by rw [e3] at hl4; simpa using hl4
    rcases hR with ⟨rfl, hc, -⟩ | ⟨x, rfl, hp, -⟩
    · exact ⟨-1, rfl, ⟨by omega, by omega⟩, fun _ => by rw [e8] at hc; rw [e4]; omega, hl5, fun y hy => by omega⟩
    · refine ⟨x, rfl, ⟨by omega, by have := hp.lt; omega⟩, fun h => by omega, hl5, fun y hy r => ?_⟩
      obtain rfl : y = x := by omega
      rw [hp.val r, List.append_nil, e7]
  have HK := Lib.hid ((keep_any P w4 fv2 F2 hD4 x hxb).mono (fun e w' hk => (op_keep (K := 2 ^ vars - 1) (val := fun r => if den S f r then den S g r else den S k r) hD4 e0 e1 e2 e3 e4 e7 hk hF2 hxn hval).back hBle HB.out))
  clear hD4 hR e0 e1 e2 e3 e4 e7 e8 hxb hxn hF2 hval hl4
  go_wp2_with fail
  refine HK.out.mono ?_
  rintro e w5 hp
  obtain ⟨a, c, rfl⟩ := hp.ret
  have HR := Lib.hid hp
  clear hp
  go_wp2
  refine bodyPost_ret (v := .tuple #[.int .i64 a, .int .i64 c]) (by simp [results, Try.results16, go_sem]) rfl HR.out

set_option maxRecDepth 100000 in
set_option maxHeartbeats 1600000 in
/-- Not. -/
theorem not_any (B : Nat) (w : World) (b vars budget : Nat) (S : List Nd) (h : StAt B w b vars budget S) (f : Nat) (hf : f < S.length) :
    Calls Try.prog 17 #[.pointer (some ⟨b, 0, none⟩), .int .i64 (f : Int)] w (OpPost B w b vars budget S (2 ^ vars - 1) (fun r => !den S f r)) := by
  have h2 : 2 ≤ S.length := by obtain ⟨nv, pb, h⟩ := h; exact h.good.two
  have hi := ite_any B w b vars budget S h f 0 1 hf (by omega) (by omega)
  have hv : (fun r => if den S f r then den S 0 r else den S 1 r) = fun r => !den S f r := by
    funext r; rw [den_zero, den_one]; cases den S f r <;> rfl
  rw [hv] at hi
  have HI : Hid (Calls Try.prog 16 #[.pointer (some ⟨b, 0, none⟩), .int .i64 (f : Int), .int .i64 0, .int .i64 1] w (OpPost B w b vars budget S (2 ^ vars - 1) (fun r => !den S f r))) := Lib.hid hi
  clear hi hv h hf h2
  go_enter Try.func17, Try.ntmps17
  go_wp2_with fail
  refine HI.out.mono ?_
  rintro e w5 hp
  obtain ⟨a, c, rfl⟩ := hp.ret
  have HR := Lib.hid hp
  clear hp
  go_wp2
  refine bodyPost_ret (v := .tuple #[.int .i64 a, .int .i64 c]) (by simp [results, Try.results17, go_sem]) rfl HR.out

set_option maxRecDepth 100000 in
set_option maxHeartbeats 1600000 in
theorem not_bad (w : World) (pt : Value) (n : Nat) (h : PtAt w pt n) (f : Int) (hb : hasB n [f, 0, 1] = false) :
    Calls Try.prog 17 #[pt, .int .i64 f] w (fun e w' => e = .returned (.tuple #[.int .i64 0, .int .i64 1]) ∧ Below w.heap.size w w') := by
  have HI := Lib.hid (ite_bad w pt n h f 0 1 hb)
  clear h hb
  go_enter Try.func17, Try.ntmps17
  go_wp2_with fail
  refine HI.out.mono ?_
  rintro e w5 ⟨rfl, hb⟩
  have HB := Lib.hid hb
  clear hb
  go_wp2
  refine bodyPost_ret (v := .tuple #[.int .i64 0, .int .i64 1]) (by simp [results, Try.results17, go_sem]) rfl ⟨rfl, HB.out⟩
end Go.Proofs.Ytfohjlepknnleaa.Bd
