/- A program of which the last token is missing is none; nor is one with a token more behind it: the walk. Conditions: the variable of the error of a number's form holds an error or none. -/
import Derived.Test.YtgohhnbdicdenaaGreatDoorPz21
import Derived.Test.YtgohhnbdicdenaaGreatDoorPz22
namespace Go.Proofs.YtgohhnbdicdenaaGreatDoor.progShort
open Go.ChangeShapes Go.WideShapes Go.ChangeAt Go.RowKit
open Go.Proofs.YtgohhnbdicdenaaGreatDoor.Pg Go.Proofs.YtgohhnbdicdenaaGreatDoor.Ex
open Go.Proofs.YtgohhnbdicdenaaGreatDoor.Tr (str ret_bool ret_int Bytes Nd)
set_option linter.unusedVariables false
set_option linter.unusedSimpArgs false

attribute [local go_sem ↓] Lx.eql_fault Lx.guard_fault
set_option maxRecDepth 100000 in
set_option maxHeartbeats 8000000 in
theorem walk_off (s : ByteArray) (hm : s.size ≤ maxLen) (W : World) (hv : Ex.VarAt W W.heap.size) (l : List Tok) (C A : Int) (HL : Hid (∀ w, Calls Tryz.prog 18 #[.string s] w (Lx.LexGives w l C A))) (P : Prg) (D E : Int) (hp : progM s.toList = (P, D, E)) (B : Bool) (hd : decide ((1500 : Int) < (s.size : Int)) = B) (hc : B = true ∨ C ≠ 0 ∨ D ≠ 0) : Calls Tryz.prog 5 #[.string s] W (fun e W' => e = .returned (.bool true) ∧ Below W.heap.size W W') := by
  have HV := Lib.hid hv
  have HP := Lib.hid (fun w h => parse_s (w := w) hp hm h)
  clear hv hp
  obtain ⟨c0, hc0⟩ : ∃ b, (C == 0) = b := ⟨_, rfl⟩
  obtain ⟨d0, hd0⟩ : ∃ b, (D == 0) = b := ⟨_, rfl⟩
  have hcase : B = true ∨ c0 = false ∨ d0 = false := by
    rcases hc with h | h | h
    · exact .inl h
    · exact .inr (.inl (by rw [← hc0, beq_eq_false_iff_ne]; exact h))
    · exact .inr (.inr (by rw [← hd0, beq_eq_false_iff_ne]; exact h))
  have hc1 : (C != 0) = !c0 := by rw [← hc0]; rfl
  have hd1 : (D != 0) = !d0 := by rw [← hd0]; rfl
  clear hc
  go_enter Tryz.func5, Tryz.ntmps5
  go_wp2_with fail
  refine (HL.out _).mono ?_
  rintro e w1 ⟨lv, rfl, ht, hb1⟩
  obtain ⟨A2, c2, rfl, t1, t2, -⟩ := ht
  unfold maxLen at t2
  have N0 := Lib.hid (new_one w1 (.cells #[.int .i64 C, .int .i64 A] 33))
  have HN := Lib.hid (hb1.trans (N0.out.1.mono hb1.size))
  clear hb1
  go_wp2_with fail
  refine (HP.out _ (var_up HV.out HN.out)).mono ?_
  rintro e w2 ⟨uv, rfl, hu, hb2⟩
  obtain ⟨A3, n3, c3, rfl, y1, y2⟩ := row_form hu
  have X2 := Lib.hid ((hb2.block _ (lt_of_block N0.out.2)).trans N0.out.2)
  have lX := lt_of_block X2.out
  have N2 := Lib.hid (two_new w2 (.cells #[.slice A3 n3 c3, .string (str P.main), .string (str P.back)] 38) (.cells #[.int .i64 D, .int .i64 E] 33))
  have HW2 := Lib.hid (HN.out.trans ((hb2.mono HN.out.size).trans (N2.out.1.mono (Nat.le_trans HN.out.size hb2.size))))
  have f0 : w2.cell? ⟨w1.heap.size, 0, none⟩ = some (.int .i64 C) := (cell_at X2.out 0).trans rfl
  have lX1 : w1.heap.size < w2.heap.size + 1 := by omega
  have lX2 : w1.heap.size ≠ w2.heap.size := by omega
  have lX3 : w1.heap.size ≠ w2.heap.size + 1 := by omega
  clear hu hb2
  cases B with
  | true =>
    clear hcase
    go_wp2_with fail
    refine (live_any _ (var_up HV.out HW2.out)).mono ?_
    rintro e w3 ⟨rfl, hb3⟩
    have HB3 := Lib.hid (HW2.out.trans (hb3.mono HW2.out.size))
    clear hb3
    go_wp2
    go_ret
    exact ⟨rfl, HB3.out⟩
  | false =>
    cases c0 with
    | false =>
      have hc2 : ¬ C = 0 := by simpa using hc0
      clear hcase hd0 hd1
      go_wp2_with fail
      refine (live_any _ (var_up HV.out HW2.out)).mono ?_
      rintro e w3 ⟨rfl, hb3⟩
      have HB3 := Lib.hid (HW2.out.trans (hb3.mono HW2.out.size))
      clear hb3
      go_wp2
      go_ret
      exact ⟨rfl, HB3.out⟩
    | true =>
      have hC : C = 0 := by simpa using hc0
      subst hC
      cases d0 with
      | true => rcases hcase with h | h | h <;> cases h
      | false =>
        have hd2 : ¬ D = 0 := by simpa using hd0
        clear hcase hc0 hc1
        go_wp2_with fail
        refine (live_any _ (var_up HV.out HW2.out)).mono ?_
        rintro e w3 ⟨rfl, hb3⟩
        have HB3 := Lib.hid (HW2.out.trans (hb3.mono HW2.out.size))
        clear hb3
        go_wp2
        go_ret
        exact ⟨rfl, HB3.out⟩
theorem toks_cut {w : World} {A : Option Addr} {l : List Tok} {n c k : Nat} (h : Lx.Toks w (.slice A n c) l) (hk : k ≤ l.length) : Lx.Toks w (.slice A k c) (l.take k) := by
  obtain ⟨A', c', h0, h1, h2, h3⟩ := h
  simp only [Value.slice.injEq] at h0
  obtain ⟨rfl, rfl, rfl⟩ := h0
  refine ⟨A, c, by rw [List.length_take, Nat.min_eq_left hk], by rw [List.length_take]; omega, h2, fun i t hi => ?_⟩
  rw [List.getElem?_take] at hi
  split at hi
  · exact h3 i t hi
  · cases hi
set_option maxRecDepth 100000 in
set_option maxHeartbeats 8000000 in
theorem walk_on (s : ByteArray) (hs : ¬ 1500 < s.size) (W : World) (hv : Ex.VarAt W W.heap.size) (l : List Tok) (hl : Lx.lexM s.toList = .ok l) (P : Prg) (A : Int) (hp : progM s.toList = (P, 0, A)) : Calls Tryz.prog 5 #[.string s] W (fun e W' => e = .returned (.bool true) ∧ Below W.heap.size W W') := by
  have hd : decide ((1500 : Int) < (s.size : Int)) = false := by simp; omega
  have hm : s.size ≤ maxLen := by unfold maxLen; omega
  have hz : s.size + 2 ≤ 9223372036854775807 := by omega
  have hlen : s.toList.length ≤ 1500 := by rw [Lx.toList_len]; omega
  obtain ⟨hl0, hcut⟩ := cut_prog hlen hl hp
  have hsemi := semi_prog hlen hl hp
  have hmain := main_ne hlen hp
  have hj := fun k => join_short (by omega) hl k
  have hln := (hj 0).2
  have HV := Lib.hid hv
  have HL : Hid (∀ w, Calls Tryz.prog 18 #[.string s] w (Lx.LexGives w l 0 0)) := Lib.hid (fun w => rlex_at (w := w) hl hm)
  have HP := Lib.hid (fun w h => parse_s (w := w) hp hm h)
  have HJ : Hid (∀ w v, Lx.Toks w v (l.take (l.length - 1)) → Calls Tryz.prog 21 #[v] w (fun e w' => e = .returned (.string (str (Lx.joinM (l.take (l.length - 1))))) ∧ w = w')) := Lib.hid (fun w v h => Lx.refJoin_any v _ w h (by rw [List.length_take]; omega) (fun k => by rw [List.take_take]; have := (hj (min k (l.length - 1))).1; omega))
  have HQ : Hid (∀ w, VarAt w w.heap.size → Calls Tryz.prog 20 #[.string (str (Lx.joinM (l.take (l.length - 1))))] w (ParG w (.none, 5, -1))) := Lib.hid (fun w h => prog_at rfl hcut (by have := (hj (l.length - 1)).1; omega) h)
  have HS : Hid (∀ w, VarAt w w.heap.size → Calls Tryz.prog 20 #[.string (s ++ ⟨#[10, 59]⟩)] w (ParG w (.none, 5, (s.size : Int) + 1))) := Lib.hid (fun w h => parse_s (by
    rw [Lx.app_toList, show (⟨#[10, 59]⟩ : ByteArray).toList = 10 :: [59] from Tr.str_toList (10 :: [59]), hsemi, Lx.toList_len]) (by rw [ByteArray.size_append, show (⟨#[10, 59]⟩ : ByteArray).size = 2 from rfl]; unfold maxLen; omega) h)
  have hmn : (!(str P.main).toList == []) = true := by
    rw [Tr.str_toList]
    have : (P.main == []) = false := by simpa using hmain
    rw [this]; rfl
  have hmn2 : ((str P.main).toList == []) = false := by
    rw [Tr.str_toList]; simpa using hmain
  have hmn3 : (str P.main).toList.isEmpty = false := by
    rw [Tr.str_toList]; cases hb : P.main <;> simp_all
  have g1 : Lx.faultB 5 5 (-1) (-1) = true := rfl
  have g2 : Lx.faultB 5 5 ((s.size : Int) + 1) ((s.size : Int) + 1) = true := fault_self _ _
  have hl1 : ((l.length : Int) == 0) = false := by rw [beq_eq_false_iff_ne]; omega
  have hl2 : ((l.length : Int) - 1) = ((l.length - 1 : Nat) : Int) := by omega
  clear hv hp hl hj hcut hsemi hmain
  go_enter Tryz.func5, Tryz.ntmps5
  go_wp2_with fail
  refine (HL.out _).mono ?_
  rintro e w1 ⟨lv, rfl, ht, hb1⟩
  have HT := Lib.hid ht
  obtain ⟨A1, c1, rfl, t1, t2, -⟩ := ht
  unfold maxLen at t2
  have N0 := Lib.hid (new_one w1 (.cells #[.int .i64 0, .int .i64 0] 33))
  have HW1 := Lib.hid (hb1.trans (N0.out.1.mono hb1.size))
  clear hb1
  go_wp2_with fail
  refine (HP.out _ (var_up HV.out HW1.out)).mono ?_
  rintro e w2 ⟨uv, rfl, hu, hb2⟩
  obtain ⟨A2, n2, c2, rfl, y1, y2⟩ := row_form hu
  have X2 := Lib.hid ((hb2.block _ (lt_of_block N0.out.2)).trans N0.out.2)
  have lX := lt_of_block X2.out
  have N2 := Lib.hid (two_new w2 (.cells #[.slice A2 n2 c2, .string (str P.main), .string (str P.back)] 38) (.cells #[.int .i64 0, .int .i64 A] 33))
  have HT2 := Lib.hid (toks_cut (toks_keep (toks_keep (toks_keep HT.out N0.out.1) hb2) N2.out.1) (show l.length - 1 ≤ l.length by omega))
  have HW2 := Lib.hid (HW1.out.trans ((hb2.mono HW1.out.size).trans (N2.out.1.mono (Nat.le_trans HW1.out.size hb2.size))))
  have f0 : w2.cell? ⟨w1.heap.size, 0, none⟩ = some (.int .i64 0) := (cell_at X2.out 0).trans rfl
  have lX1 : w1.heap.size < w2.heap.size + 1 := by omega
  have lX2 : w1.heap.size ≠ w2.heap.size := by omega
  have lX3 : w1.heap.size ≠ w2.heap.size + 1 := by omega
  clear hu hb2
  go_wp2_with fail
  refine (HJ.out _ _ HT2.out).mono ?_
  rintro e w2b ⟨rfl, rfl⟩
  go_wp2_with fail
  refine (HQ.out _ (var_up HV.out HW2.out)).mono ?_
  rintro e w3 ⟨vv, rfl, hu3, hb3⟩
  have HW3 := Lib.hid (HW2.out.trans (hb3.mono HW2.out.size))
  have X3 := Lib.hid ((hb3.block _ (lt_of_block N2.out.2.1)).trans N2.out.2.1)
  have lX4 := lt_of_block X3.out
  obtain ⟨A3, n3, c3, rfl, y3, y4⟩ := row_form hu3
  have N3 := Lib.hid (two_new w3 (.cells #[.slice A3 n3 c3, .string ⟨#[]⟩, .string ⟨#[]⟩] 38) (.cells #[.int .i64 5, .int .i64 (-1)] 33))
  have HW4 := Lib.hid (HW3.out.trans (N3.out.1.mono HW3.out.size))
  clear hu3 hb3
  go_wp2_with fail
  refine (HS.out _ (var_up HV.out HW4.out)).mono ?_
  rintro e w4 ⟨zv, rfl, hu4, hb4⟩
  have HB4 := Lib.hid (HW4.out.trans (hb4.mono HW4.out.size))
  have X4 := Lib.hid ((hb4.block _ (Nat.lt_of_lt_of_le lX4 N3.out.1.size)).trans ((N3.out.1.block _ lX4).trans X3.out))
  have Y4 := Lib.hid ((hb4.block _ (lt_of_block N3.out.2.2)).trans N3.out.2.2)
  have lX5 := lt_of_block X4.out
  have lY5 := lt_of_block Y4.out
  obtain ⟨A4, n4, c4, rfl, y5, y6⟩ := row_form hu4
  have q1 : w4.cell? ⟨w2.heap.size, 1, none⟩ = some (.string (str P.main)) := (cell_at X4.out 1).trans rfl
  have q2 : w4.cell? ⟨w3.heap.size + 1, 0, none⟩ = some (.int .i64 5) := (cell_at Y4.out 0).trans rfl
  have q3 : w4.cell? ⟨w3.heap.size + 1, 1, none⟩ = some (.int .i64 (-1)) := (cell_at Y4.out 1).trans rfl
  have lX6 : w2.heap.size < w4.heap.size + 1 := by omega
  have lY6 : w3.heap.size + 1 < w4.heap.size + 1 := by omega
  have HN4 := Lib.hid (HB4.out.trans ((two_new w4 (.cells #[.slice A4 n4 c4, .string ⟨#[]⟩, .string ⟨#[]⟩] 38) (.cells #[.int .i64 5, .int .i64 ((s.size : Int) + 1)] 33)).1.mono HB4.out.size))
  clear hu4 hb4
  go_wp2_with fail
  refine (live_any _ (var_up HV.out HN4.out)).mono ?_
  rintro e w5 ⟨rfl, hb5⟩
  have HB5 := Lib.hid (HN4.out.trans (hb5.mono HN4.out.size))
  clear hb5
  go_wp2
  go_ret
  exact ⟨rfl, HB5.out⟩
theorem walk (s : ByteArray) (hs : s.size ≤ maxLen) (W : World) (hv : Ex.VarAt W W.heap.size) : Calls Tryz.prog 5 #[.string s] W (fun e W' => e = .returned (.bool true) ∧ Below W.heap.size W W') := by
  obtain ⟨⟨P, D, E⟩, hp⟩ : ∃ x, progM s.toList = x := ⟨_, rfl⟩
  by_cases hb : 1500 < s.size
  · exact walk_off s hs W hv _ _ _ (Lib.hid (fun w => rlex_at (w := w) rfl hs)) P D E hp true (by simp; omega) (.inl rfl)
  · cases hl : Lx.lexM s.toList with
    | bad c a => exact walk_off s hs W hv [] c a (Lib.hid (fun w => rlex_at (w := w) hl hs)) P D E hp false (by simp; omega) (.inr (.inl (by
        by_cases hs : 100000 < s.toList.length
        · unfold Lx.lexM at hl; rw [if_pos hs] at hl; cases hl; decide
        · exact (Lx.lexM_code _ (by omega) c a hl).1)))
    | ok l =>
      by_cases hD : D = 0
      · subst hD; exact walk_on s hb W hv l hl P E hp
      · exact walk_off s hs W hv l 0 0 (Lib.hid (fun w => rlex_at (w := w) hl hs)) P D E hp false (by simp; omega) (.inr (.inr hD))
end Go.Proofs.YtgohhnbdicdenaaGreatDoor.progShort
