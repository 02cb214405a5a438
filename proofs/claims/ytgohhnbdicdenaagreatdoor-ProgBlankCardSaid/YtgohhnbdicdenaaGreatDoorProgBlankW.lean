/- What stands between tokens is of no moment: the walk. Conditions: the variable of the error of a number's form holds an error or none. -/
import Derived.Test.YtgohhnbdicdenaaGreatDoorPz21
import Derived.Test.YtgohhnbdicdenaaGreatDoorPz22
namespace Go.Proofs.YtgohhnbdicdenaaGreatDoor.progBlank
open Go.ChangeShapes Go.WideShapes Go.ChangeAt Go.RowKit
open Go.Proofs.YtgohhnbdicdenaaGreatDoor.Pg Go.Proofs.YtgohhnbdicdenaaGreatDoor.Ex
open Go.Proofs.YtgohhnbdicdenaaGreatDoor.Tr (str ret_bool ret_int Bytes Nd)
set_option linter.unusedVariables false
set_option linter.unusedSimpArgs false

attribute [local go_sem ↓] Lx.eql_fault Lx.guard_fault
theorem rowU_below {w w' : World} {l : List Unt} {v : Value} (h : RowR 50 8 UntV w l v) (hb : Below w.heap.size w w') : RowR 50 8 UntV w' l v :=
  h.stay (Stay.below (P := fun _ => False) hb) (fun h => h) (fun a x hx => UntV.below hb a x hx)
set_option maxRecDepth 100000 in
set_option maxHeartbeats 4000000 in
theorem walk_off (s : ByteArray) (hm : s.size ≤ maxLen) (W : World) (hv : Ex.VarAt W W.heap.size) (l : List Tok) (C A : Int) (HL : Hid (∀ w, Calls Tryz.prog 18 #[.string s] w (Lx.LexGives w l C A))) (B : Bool) (hd : decide ((1500 : Int) < (s.size : Int)) = B) (hc : B = true ∨ C ≠ 0) : Calls Tryz.prog 4 #[.string s] W (fun e W' => e = .returned (.bool true) ∧ Below W.heap.size W W') := by
  have HV := Lib.hid hv
  clear hv
  cases B with
  | true =>
    clear hc
    go_enter Tryz.func4, Tryz.ntmps4
    go_wp2_with fail
    refine (HL.out _).mono ?_
    rintro e w1 ⟨lv, rfl, ht, hb1⟩
    obtain ⟨A2, c2, rfl, t1, t2, -⟩ := ht
    unfold maxLen at t2
    have HN := Lib.hid (hb1.alloc hb1.size (.cells #[.int .i64 C, .int .i64 A] 33))
    clear hb1
    go_wp2_with fail
    refine (live_any _ (var_up HV.out HN.out)).mono ?_
    rintro e w3 ⟨rfl, hb3⟩
    have HB3 := Lib.hid (HN.out.trans (hb3.mono HN.out.size))
    clear hb3
    go_wp2
    go_ret
    exact ⟨rfl, HB3.out⟩
  | false =>
    have hC : C ≠ 0 := by
      rcases hc with h | h
      · cases h
      · exact h
    have hc0 : (C == 0) = false := by rw [beq_eq_false_iff_ne]; exact hC
    have hc1 : (C != 0) = true := by simpa using hC
    have hc2 : ¬ C = 0 := hC
    clear hc hC
    go_enter Tryz.func4, Tryz.ntmps4
    go_wp2_with fail
    refine (HL.out _).mono ?_
    rintro e w1 ⟨lv, rfl, ht, hb1⟩
    obtain ⟨A2, c2, rfl, t1, t2, -⟩ := ht
    unfold maxLen at t2
    have HN := Lib.hid (hb1.alloc hb1.size (.cells #[.int .i64 C, .int .i64 A] 33))
    clear hb1
    go_wp2_with fail
    refine (live_any _ (var_up HV.out HN.out)).mono ?_
    rintro e w3 ⟨rfl, hb3⟩
    have HB3 := Lib.hid (HN.out.trans (hb3.mono HN.out.size))
    clear hb3
    go_wp2
    go_ret
    exact ⟨rfl, HB3.out⟩
set_option maxRecDepth 100000 in
set_option maxHeartbeats 8000000 in
theorem walk_on (s : ByteArray) (hs : ¬ 1500 < s.size) (W : World) (hv : Ex.VarAt W W.heap.size) (l : List Tok) (hl : Lx.lexM s.toList = .ok l) : Calls Tryz.prog 4 #[.string s] W (fun e W' => e = .returned (.bool true) ∧ Below W.heap.size W W') := by
  have hd : decide ((1500 : Int) < (s.size : Int)) = false := by simp; omega
  have hm : s.size ≤ maxLen := by unfold maxLen; omega
  have hlen : s.toList.length ≤ 1500 := by rw [Lx.toList_len]; omega
  obtain ⟨⟨⟨us, m, k⟩, C, A⟩, hp⟩ : ∃ x, progM s.toList = x := ⟨_, rfl⟩
  obtain ⟨⟨Q, D, B⟩, hq⟩ : ∃ x, progM (Lx.joinM l) = x := ⟨_, rfl⟩
  obtain ⟨rfl, rfl, hab⟩ := blank_prog hlen hl hp hq
  have HV := Lib.hid hv
  have HL : Hid (∀ w, Calls Tryz.prog 18 #[.string s] w (Lx.LexGives w l 0 0)) := Lib.hid (fun w => rlex_at (w := w) hl hm)
  have HP := Lib.hid (fun w h => parse_s (w := w) hp hm h)
  have hj := fun k => join_short (by omega) hl k
  have HJ : Hid (∀ w v, Lx.Toks w v l → Calls Tryz.prog 21 #[v] w (fun e w' => e = .returned (.string (str (Lx.joinM l))) ∧ w = w')) := Lib.hid (fun w v h => Lx.refJoin_any v l w h (by have := (hj 0).2; omega) (fun k => by have := (hj k).1; omega))
  have HQ : Hid (∀ w, VarAt w w.heap.size → Calls Tryz.prog 20 #[.string (str (Lx.joinM l))] w (ParG w (⟨us, m, k⟩, C, B))) := Lib.hid (fun w h => prog_at rfl hq (by have := (hj l.length).1; rw [List.take_length] at this; omega) h)
  have hcc : (C == C) = true := by simp
  have hcc2 : (C != C) = false := by simp
  clear hv hp hq hl hj
  go_enter Tryz.func4, Tryz.ntmps4
  go_wp2_with fail
  refine (HL.out _).mono ?_
  rintro e w1 ⟨lv, rfl, ht, hb1⟩
  have HT := Lib.hid ht
  obtain ⟨A1, c1, rfl, t1, t2, -⟩ := ht
  unfold maxLen at t2
  have N0 := Lib.hid (new_one w1 (.cells #[.int .i64 0, .int .i64 0] 33))
  have HW1 := Lib.hid (hb1.trans (N0.out.1.mono hb1.size))
  clear hb1
  go_wp2_with fail
  refine (HP.out _ (var_up HV.out HW1.out)).mono ?_
  rintro e w2 ⟨uv, rfl, hu, hb2⟩
  have HU := Lib.hid hu
  obtain ⟨A2, n2, c2, rfl, y1, y2⟩ := row_form hu
  have N2 := Lib.hid (two_new w2 (.cells #[.slice A2 n2 c2, .string (str m), .string (str k)] 38) (.cells #[.int .i64 C, .int .i64 A] 33))
  have HT2 := Lib.hid (toks_keep (toks_keep (toks_keep HT.out N0.out.1) hb2) N2.out.1)
  have HW2 := Lib.hid (HW1.out.trans ((hb2.mono HW1.out.size).trans (N2.out.1.mono (Nat.le_trans HW1.out.size hb2.size))))
  clear hu hb2
  go_wp2_with fail
  refine (HJ.out _ _ HT2.out).mono ?_
  rintro e w2b ⟨rfl, rfl⟩
  go_wp2_with fail
  refine (HQ.out _ (var_up HV.out HW2.out)).mono ?_
  rintro e w3 ⟨vv, rfl, hu3, hb3⟩
  have HU3 := Lib.hid hu3
  have HU1 := Lib.hid (rowU_below (rowU_below HU.out N2.out.1) hb3)
  have HW3 := Lib.hid (HW2.out.trans (hb3.mono HW2.out.size))
  have X3 := Lib.hid ((hb3.block _ (lt_of_block N2.out.2.1)).trans N2.out.2.1)
  have Y3 := Lib.hid ((hb3.block _ (lt_of_block N2.out.2.2)).trans N2.out.2.2)
  have lX := lt_of_block X3.out
  have lY := lt_of_block Y3.out
  obtain ⟨A3, n3, c3, rfl, y3, y4⟩ := row_form hu3
  have e0 : w3.cell? ⟨w2.heap.size, 0, none⟩ = some (.slice A2 n2 c2) := (cell_at X3.out 0).trans rfl
  have e1 : w3.cell? ⟨w2.heap.size, 1, none⟩ = some (.string (str m)) := (cell_at X3.out 1).trans rfl
  have e2 : w3.cell? ⟨w2.heap.size, 2, none⟩ = some (.string (str k)) := (cell_at X3.out 2).trans rfl
  have lX1 : w2.heap.size < w3.heap.size + 1 := by omega
  have lY1 : w2.heap.size + 1 < w3.heap.size + 1 := by omega
  have lX2 : w2.heap.size ≠ w3.heap.size := by omega
  have lX3 : w2.heap.size ≠ w3.heap.size + 1 := by omega
  have N3 := Lib.hid (two_new w3 (.cells #[.slice A3 n3 c3, .string (str m), .string (str k)] 38) (.cells #[.int .i64 C, .int .i64 B] 33))
  have HW4 := Lib.hid (HW3.out.trans (N3.out.1.mono HW3.out.size))
  clear hu3 hb3
  go_wp2_with fail
  refine (prog_eq us m k _ _ _ (rowU_below HU1.out N3.out.1) (rowU_below HU3.out N3.out.1)).mono ?_
  rintro e w4 ⟨rfl, hb4⟩
  have X4 := Lib.hid ((hb4.block _ (Nat.lt_of_lt_of_le lY N3.out.1.size)).trans ((N3.out.1.block _ lY).trans Y3.out))
  have Y4 := Lib.hid ((hb4.block _ (lt_of_block N3.out.2.2)).trans N3.out.2.2)
  have HB4 := Lib.hid (HW4.out.trans (hb4.mono HW4.out.size))
  have lX4 := lt_of_block X4.out
  have lY4 := lt_of_block Y4.out
  have f0 : w4.cell? ⟨w2.heap.size + 1, 0, none⟩ = some (.int .i64 C) := (cell_at X4.out 0).trans rfl
  have f1 : w4.cell? ⟨w2.heap.size + 1, 1, none⟩ = some (.int .i64 A) := (cell_at X4.out 1).trans rfl
  have f2 : w4.cell? ⟨w3.heap.size + 1, 0, none⟩ = some (.int .i64 C) := (cell_at Y4.out 0).trans rfl
  have f3 : w4.cell? ⟨w3.heap.size + 1, 1, none⟩ = some (.int .i64 B) := (cell_at Y4.out 1).trans rfl
  clear hb4 e0 e1 e2
  go_wp2_with fail
  refine (live_any _ (var_up HV.out HB4.out)).mono ?_
  rintro e w5 ⟨rfl, hb5⟩
  have HB5 := Lib.hid (HB4.out.trans (hb5.mono HB4.out.size))
  clear hb5
  go_wp2
  go_ret
  exact ⟨rfl, HB5.out⟩
theorem walk (s : ByteArray) (hs : s.size ≤ maxLen) (W : World) (hv : Ex.VarAt W W.heap.size) : Calls Tryz.prog 4 #[.string s] W (fun e W' => e = .returned (.bool true) ∧ Below W.heap.size W W') := by
  by_cases hb : 1500 < s.size
  · exact walk_off s hs W hv _ _ _ (Lib.hid (fun w => rlex_at (w := w) rfl hs)) true (by simp; omega) (.inl rfl)
  · cases hl : Lx.lexM s.toList with
    | bad c a => exact walk_off s hs W hv [] c a (Lib.hid (fun w => rlex_at (w := w) hl hs)) false (by simp; omega) (.inr (by
        by_cases hs : 100000 < s.toList.length
        · unfold Lx.lexM at hl; rw [if_pos hs] at hl; cases hl; decide
        · exact (Lx.lexM_code _ (by omega) c a hl).1))
    | ok l => exact walk_on s hb W hv l hl
end Go.Proofs.YtgohhnbdicdenaaGreatDoor.progBlank
