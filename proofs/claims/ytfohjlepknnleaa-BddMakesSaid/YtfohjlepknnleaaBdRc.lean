/- The closure that sets a variable. Conditions: none. -/
import Derived.Test.YtfohjlepknnleaaBdRb
namespace Go.Proofs.Ytfohjlepknnleaa.Bd
open Go.ChangeShapes Go.WideShapes Go.ChangeAt Go.RowKit
set_option linter.unusedVariables false
set_option linter.unusedSimpArgs false

theorem RsPost.less {P : Dp} {E i : Nat} {b : Bool} {w w' : World} {fv : Value} {F : List Nd} {f N M : Nat} {e : Ending} (hp : RsPost P E i b w fv F f N e w') (h : N ≤ M) : RsPost P E i b w fv F f M e w' := by
  obtain ⟨fv', F', a, c, d, r⟩ := hp
  exact ⟨fv', F', a, c, by omega, r⟩
set_option maxRecDepth 100000 in
set_option maxHeartbeats 1600000 in
theorem rs_reckon (P : Dp) (E i : Nat) (b : Bool) (w : World) (fv : Value) (F : List Nd) (hD : Dr P w fv F) (hR : Rs P E i b F w) (f M N : Nat) (hN : tst (P.S ++ F) f < i → 2 * M + 1 ≤ N) (lf : f < (P.S ++ F).length) (hi : i < P.vars)
    (ih : tst (P.S ++ F) f < i → ∀ W' fv' F' g, Dr P W' fv' F' → Rs P E i b F' W' → g < (P.S ++ F').length → tst (P.S ++ F) f + 1 ≤ tst (P.S ++ F') g → Calls Try.prog 54 #[.int .i64 (g : Int), .pointer (some ⟨E + 6, 0, none⟩), .pointer (some ⟨E + 4, 0, none⟩)] W' (RsPost P E i b W' fv' F' g M)) :
    Calls Try.prog 53 #[.int .i64 (f : Int), .pointer (some ⟨E, 0, none⟩), .pointer (some ⟨E + 1, 0, none⟩), .pointer (some ⟨E + 3, 0, none⟩), .pointer (some ⟨E + 2, 0, none⟩)] w (RsPost P E i b w fv F f N) := by
  obtain ⟨t, lo, hx, hnd⟩ := at_of lf
  have htst := tst_at hnd
  have hat := at_any P w fv F hD _ f t lo hx rfl hnd
  obtain ⟨c0, -, -, -, -, -⟩ := hR.ats
  have HA := Lib.hid hat
  have HD := Lib.hid hD
  have HR := Lib.hid hR
  have HN := Lib.hid hnd
  have HLF := Lib.hid lf
  have HT := Lib.hid htst
  have HIH := Lib.hid ih
  have HNN := Lib.hid hN
  clear hat hD hR hnd lf htst ih hN
  go_enter Try.func53, Try.ntmps53
  go_wp2_with fail
  refine HA.out.mono ?_
  rintro e w1 ⟨rfl, hb1⟩
  obtain ⟨w2, hw2⟩ : ∃ W, w1.alloc (.cells #[.int .i64 (t : Int), .int .i64 (lo : Int), .int .i64 (hx : Int)] 59) = W := ⟨_, rfl⟩
  obtain ⟨n2, ⟨n20, n21, n22⟩, hb2, hs2⟩ := three_new _ _ _ _ _ _ hw2
  have hB : Below w.heap.size w w2 := hb1.trans (hb2.mono hb1.size)
  obtain ⟨z0, z1, z2, z3, -, -⟩ := (HR.out.kept hB).ats
  have HN2 := Lib.hid n2
  have HB := Lib.hid hB
  have HW2 := Lib.hid hw2
  have HB1 := Lib.hid hb1
  clear n2 hb2 hs2 hB hb1 n20 n21 n22
  by_cases h1 : i < t
  · have hd : decide ((i : Int) < (t : Int)) = true := decide_eq_true (by omega)
    have HE : Hid (RsPost P E i b w fv F f N (.returned (.int .i64 (f : Int))) w2) := Lib.hid (rs_same HD.out HR.out HB.out (set_far HD.out.good HLF.out (by rw [HT.out]; exact h1) (Nat.le_refl _)))
    subst hw2
    go_wp2_with fail
    refine bodyPost_ret (v := .int .i64 (f : Int)) (by simp [results, Try.results53, go_sem]) rfl HE.out
  · have hf2 : 2 ≤ f := by
      have G := HD.out.good
      have hT := HT.out
      by_cases e0 : f = 0
      · subst e0; rw [tst_at G.n0] at hT; omega
      by_cases e1 : f = 1
      · subst e1; rw [tst_at G.n1] at hT; omega
      omega
    have hd : decide ((i : Int) < (t : Int)) = false := decide_eq_false (by omega)
    by_cases h2 : t < i
    · have hd2 : decide ((t : Int) < (i : Int)) = true := decide_eq_true (by omega)
      have hch : ∀ W, Below w2.heap.size w2 W → _ := fun W hbW => rs_chain (M := M) (nb := w1.heap.size) (W := W) HD.out HR.out hf2 HN.out h2 (HB.out.trans (hbW.mono HB.out.size)) (by have := HB1.out.size; omega) ((hbW.block _ (block_lt HN2.out)).trans HN2.out) (fun W' fv' F' g a1 a2 a3 a4 => HIH.out (by rw [HT.out]; exact h2) W' fv' F' g a1 a2 a3 (by rw [HT.out]; exact a4))
      have HCH := Lib.hid hch
      have HR0 : Hid (∀ W, Below w2.heap.size w2 W → RdN P E w1.heap.size t lo hx W) := Lib.hid (fun W hbW => rdN (HR.out.kept (HB.out.trans (hbW.mono HB.out.size))) ((hbW.block _ (block_lt HN2.out)).trans HN2.out))
      have HBR : Hid (Below w2.heap.size w2 w2) := Lib.hid (Below.refl _ _)
      obtain ⟨⟨x0, x1⟩, x2, x3, x4⟩ := HR0.out w2 HBR.out
      clear hch
      rw [← hw2] at z0 z1 z2 z3
      clear hw2
      go_wp2_with fail
      rw [HW2.out]
      clear z0 z1 z2 z3
      go_region_held3 (fun W => (W.cell? ⟨E, 0, none⟩ = some (.pointer (some ⟨P.dd, 0, none⟩)) ∧ W.cell? ⟨E + 3, 0, none⟩ = some (.func (.func 54) #[] #[.pointer (some ⟨E + 6, 0, none⟩), .pointer (some ⟨E + 4, 0, none⟩)])) ∧ W.cell? ⟨w1.heap.size, 0, none⟩ = some (.int .i64 (t : Int)) ∧ W.cell? ⟨w1.heap.size, 1, none⟩ = some (.int .i64 (lo : Int)) ∧ W.cell? ⟨w1.heap.size, 2, none⟩ = some (.int .i64 (hx : Int)))
        (first | go_keep | exact ⟨⟨x0, x1⟩, x2, x3, x4⟩ | exact p1 | exact p2 | exact p3)
        (first
          | (go_at_call 36; with_reducible refine HC3.out.mono ?_; rintro r w5 ⟨v2, rfl, p3, hp5⟩; have HP5 := Lib.hid hp5; clear hp5)
          | (go_at_call 54; with_reducible refine HC2.out.mono ?_; rintro r w4 ⟨v1, rfl, p2, hc3⟩; have HC3 := Lib.hid hc3; clear hc3)
          | (go_at_call 54; with_reducible refine (HCH.out _ (by first | exact HBR.out | exact HBR.out.drew)).mono ?_; rintro r w3 ⟨v0, rfl, p1, hc2⟩; have HC2 := Lib.hid hc2; clear hc2))
      all_goals
        go_wp2
        refine bodyPost_ret (v := .int .i64 v2) (by simp [results, Try.results53, go_sem]) rfl (HP5.out.less (HNN.out (by rw [HT.out]; exact h2)))
    · obtain rfl : t = i := by omega
      have hd2 : decide ((t : Int) < (t : Int)) = false := decide_eq_false (by omega)
      have hset := set_here (b := b) HD.out.good hf2 HN.out (Nat.le_refl _)
      cases b
      · have HE : Hid (RsPost P E t false w fv F f N (.returned (.int .i64 (lo : Int))) w2) := Lib.hid (rs_same HD.out HR.out HB.out (by rw [HT.out]; exact hset))
        clear hset
        subst hw2
        go_wp2_with fail
        refine bodyPost_ret (v := .int .i64 (lo : Int)) (by simp [results, Try.results53, go_sem]) rfl HE.out
      · have HE : Hid (RsPost P E t true w fv F f N (.returned (.int .i64 (hx : Int))) w2) := Lib.hid (rs_same HD.out HR.out HB.out (by rw [HT.out]; exact hset))
        clear hset
        subst hw2
        go_wp2_with fail
        refine bodyPost_ret (v := .int .i64 (hx : Int)) (by simp [results, Try.results53, go_sem]) rfl HE.out

theorem rs_all (P : Dp) (E i : Nat) (b : Bool) (hi : i < P.vars) : ∀ (d : Nat) (w : World) (fv : Value) (F : List Nd) (f : Nat), Dr P w fv F → Rs P E i b F w → f < (P.S ++ F).length → P.vars - tst (P.S ++ F) f ≤ d →
    Calls Try.prog 54 #[.int .i64 (f : Int), .pointer (some ⟨E + 6, 0, none⟩), .pointer (some ⟨E + 4, 0, none⟩)] w (RsPost P E i b w fv F f (2 ^ d - 1)) := by
  intro d
  induction d with
  | zero =>
    intro w fv F f hD hR lf hm
    exact rs_down P E i b w fv F hD hR f _ lf (rs_reckon P E i b w fv F hD hR f 0 _ (fun h => by omega) lf hi (fun h => by omega))
  | succ d ih =>
    intro w fv F f hD hR lf hm
    have hp : 2 * (2 ^ d - 1) + 1 ≤ 2 ^ (d + 1) - 1 := by
      have : 0 < 2 ^ d := Nat.two_pow_pos _
      rw [Nat.pow_succ]; omega
    exact rs_down P E i b w fv F hD hR f _ lf (rs_reckon P E i b w fv F hD hR f (2 ^ d - 1) _ (fun _ => hp) lf hi (fun h W' fv' F' g a1 a2 a3 a4 => ih W' fv' F' g a1 a2 a3 (by omega)))
end Go.Proofs.Ytfohjlepknnleaa.Bd
