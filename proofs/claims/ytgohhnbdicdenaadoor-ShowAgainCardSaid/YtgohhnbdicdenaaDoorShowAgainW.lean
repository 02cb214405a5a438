/- What is read, and written, is read as the same: the walk. Conditions: none. -/
import Derived.Test.YtgohhnbdicdenaaDoorPq24
namespace Go.Proofs.YtgohhnbdicdenaaDoor.showAgain
open Go.ChangeShapes Go.WideShapes Go.ChangeAt Go.RowKit
open Go.Proofs.YtgohhnbdicdenaaDoor.Sh
open Go.Proofs.YtgohhnbdicdenaaDoor.Ex (readM)
open Go.Proofs.YtgohhnbdicdenaaDoor.Tr (str ret_bool ret_int Bytes Nd T Nodes May tree mayB Short root normM normB NodesPost)
set_option linter.unusedVariables false
set_option linter.unusedSimpArgs false

theorem read_nodes {S : ByteArray} {E : List Nd} {C A : Int} {w : World} (t : readM S.toList = (E, C, A)) (hn : S.size ≤ 20000) :
    Calls Tryd.prog 22 #[.string S] w (fun e w' => ∃ ev, e = .returned (.tuple #[ev, .agg #[.int .i64 C, .int .i64 A]]) ∧ Nodes w' ev E ∧ Below w.heap.size w w') := by
  refine (rread_at t (.inl hn)).mono ?_
  rintro r w' ⟨ev, rfl, hp, hb⟩
  exact ⟨ev, rfl, hp.1, hb⟩
set_option maxRecDepth 100000 in
set_option maxHeartbeats 4000000 in
theorem walk (w : World) (hw : ShAt w) (s : ByteArray) (hs : s.size ≤ maxLen) : Calls Tryd.prog 8 #[.string s] w fun r w' => r = .returned (.bool true) ∧ Below w.heap.size w w' := by
  have HW := Lib.hid hw
  clear hw
  by_cases hl : (s.size : Int) ≤ 1000
  rotate_left
  · have hd : decide ((1000 : Int) < (s.size : Int)) = true := by simpa using hl
    have hd2 : 1000 < s.size := by omega
    clear hl
    go_enter Tryd.func8, Tryd.ntmps8
    go_wp2_with fail
    refine (live_any _ HW.out).mono ?_
    rintro r w1 ⟨rfl, hb1⟩
    have HB1 := Lib.hid hb1
    clear hb1
    go_wp2
    go_ret
    exact ⟨rfl, HB1.out⟩
  have hd : decide ((1000 : Int) < (s.size : Int)) = false := by simpa using hl
  have hd2 : ¬ 1000 < s.size := by omega
  obtain ⟨⟨E, C, D⟩, hR⟩ : ∃ x, readM s.toList = x := ⟨_, rfl⟩
  have HR : Hid (∀ w1, Calls Tryd.prog 22 #[.string s] w1 (fun e w' => ∃ ev, e = .returned (.tuple #[ev, .agg #[.int .i64 C, .int .i64 D]]) ∧ Nodes w' ev E ∧ Below w1.heap.size w1 w')) := Lib.hid (fun w1 => read_nodes hR (by omega))
  by_cases hC : C = 0
  rotate_left
  · have hb : (C == 0) = false := by simpa using hC
    clear hR hC hl
    go_enter Tryd.func8, Tryd.ntmps8
    go_wp2_with fail
    refine (HR.out _).mono ?_
    rintro r w1 ⟨ev, rfl, hn1, hb1⟩
    obtain ⟨A3, c3, rfl, y1, y2, _⟩ := id hn1
    have HB1 := Lib.hid (hb1.alloc hb1.size (.cells #[.int .i64 C, .int .i64 D] 27))
    clear hb1 hn1
    go_wp2_with fail
    refine (live_any _ (HW.out.below HB1.out)).mono ?_
    rintro r w2 ⟨rfl, hb2⟩
    have HB2 := Lib.hid (HB1.out.trans (hb2.mono HB1.out.size))
    clear hb2
    go_wp2
    go_ret
    exact ⟨rfl, HB2.out⟩
  subst hC
  obtain ⟨t, ht, hn, t1, t2, t3⟩ := read_show (s := s.toList) (by rw [Lx.toList_len]; omega) (by rw [hR])
  rw [hR] at t3
  obtain ⟨t4, t5, t6⟩ := flat_show ht hn (by omega) t2
  have hE : E = t.flat 0 := (Prod.mk.inj t3).1
  have hlen : E.length ≤ 1000 := by rw [hE, Tr.T.flat_len]; exact t1
  rw [← hE] at t4 t5 t6
  have HSH := Lib.hid (show Short E by rw [hE]; exact short_named hn 0)
  obtain ⟨X, hX⟩ : ∃ X, showM E = X := ⟨_, rfl⟩
  have HX := Lib.hid hX
  have HBK : Hid (∀ w1, Calls Tryd.prog 22 #[.string (str X)] w1 (fun r w' => ∃ ev, r = .returned (.tuple #[ev, .agg #[.int .i64 0, .int .i64 0]]) ∧ Nodes w' ev E ∧ Below w1.heap.size w1 w')) := Lib.hid (fun w1 => by
    refine (rread_at (C := 0) (A := 0) (E := E) ?_ (.inr ⟨?_, fun l hl => ?_⟩)).mono ?_
    · rw [Tr.str_toList, ← hX]
      have := show_read t5 (by omega)
      rw [t6] at this; exact this
    · rw [← hX]; have := show_size hlen; unfold maxLen; omega
    · rw [Tr.str_toList, ← hX] at hl
      exact show_toks t5 hlen hl
    · rintro r w' ⟨ev, rfl, hp, hb⟩
      exact ⟨ev, rfl, hp.1, hb⟩)
  have HN := Lib.hid ((norm_eqN t4).trans t6)
  clear hR ht hn t1 t2 t3 t4 t5 t6 hE hlen hX hl
  go_enter Tryd.func8, Tryd.ntmps8
  go_wp2_with fail
  refine (HR.out _).mono ?_
  rintro r w1 ⟨ev, rfl, hn1, hb1⟩
  obtain ⟨A1, c1, rfl, y1, y2, _⟩ := id hn1
  have HB1 := Lib.hid (hb1.alloc hb1.size (.cells #[.int .i64 0, .int .i64 D] 27))
  have HN1 := Lib.hid (hn1.below (Tr.below_new w1 (.cells #[.int .i64 0, .int .i64 D] 27)) (Nat.le_refl _))
  clear hb1 hn1
  go_wp2_with fail
  refine (show_lit HN1.out HSH.out (HW.out.below HB1.out) HX.out).mono ?_
  rintro r w2 ⟨rfl, hb2⟩
  have HB2 := Lib.hid (HB1.out.trans (hb2.mono HB1.out.size))
  have HN2 := Lib.hid (HN1.out.below hb2 (Nat.le_refl _))
  clear hb2
  go_wp2_with fail
  refine (HBK.out _).mono ?_
  rintro r w3 ⟨ev3, rfl, hn3, hb3⟩
  obtain ⟨A3, c3, rfl, y3, y4, _⟩ := id hn3
  have HB3 := Lib.hid ((HB2.out.trans (hb3.mono HB2.out.size)).alloc (Nat.le_trans HB2.out.size hb3.size) (.cells #[.int .i64 0, .int .i64 0] 27))
  have hup := hb3.trans ((Tr.below_new w3 (.cells #[.int .i64 0, .int .i64 0] 27)).mono hb3.size)
  have HN3 := Lib.hid (HN2.out.below hup (Nat.le_refl _))
  have HG3 := Lib.hid (hn3.below (Tr.below_new w3 (.cells #[.int .i64 0, .int .i64 0] 27)) (Nat.le_refl _))
  clear hb3 hn3 hup
  go_wp2_with fail
  refine (show_lit HG3.out HSH.out (HW.out.below HB3.out) HX.out).mono ?_
  rintro r w4 ⟨rfl, hb4⟩
  have HB4 := Lib.hid (HB3.out.trans (hb4.mono HB3.out.size))
  have HN4 := Lib.hid (HN3.out.below hb4 (Nat.le_refl _))
  have HG4 := Lib.hid (HG3.out.below hb4 (Nat.le_refl _))
  clear hb4
  go_wp2_with fail
  refine (norm_lit HN4.out HN.out).mono ?_
  rintro r w5 ⟨x5, rfl, hn5, hb5⟩
  have HB5 := Lib.hid (HB4.out.trans (hb5.mono HB4.out.size))
  have HN5 := Lib.hid hn5
  have HG5 := Lib.hid (HG4.out.below hb5 (Nat.le_refl _))
  clear hb5 hn5
  go_wp2_with fail
  refine (same_lit (b := true) HG5.out HN5.out (by simp)).mono ?_
  rintro r w6 ⟨rfl, hb6⟩
  have HB6 := Lib.hid (HB5.out.trans (hb6.mono HB5.out.size))
  clear hb6
  go_wp2_with fail
  refine (live_any _ (HW.out.below HB6.out)).mono ?_
  rintro r w7 ⟨rfl, hb7⟩
  have HB7 := Lib.hid (HB6.out.trans (hb7.mono HB6.out.size))
  clear hb7
  go_wp2
  go_ret
  exact ⟨rfl, HB7.out⟩
end Go.Proofs.YtgohhnbdicdenaaDoor.showAgain
