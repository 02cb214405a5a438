/- A fallback that is named behind a program is its Back: the walk. Conditions: the variable of the error of a number's form holds an error or none. -/
import Derived.Test.YtgohhnbdicdenaaGreatDoorPz21
import Derived.Test.YtgohhnbdicdenaaGreatDoorPz22
namespace Go.Proofs.YtgohhnbdicdenaaGreatDoor.progBack
open Go.ChangeShapes Go.WideShapes Go.ChangeAt Go.RowKit
open Go.Proofs.YtgohhnbdicdenaaGreatDoor.Pg Go.Proofs.YtgohhnbdicdenaaGreatDoor.Ex
open Go.Proofs.YtgohhnbdicdenaaGreatDoor.Tr (str ret_bool ret_int Bytes Nd)
set_option linter.unusedVariables false
set_option linter.unusedSimpArgs false

attribute [local go_sem ↓] Lx.eql_fault Lx.guard_fault
set_option maxRecDepth 100000 in
set_option maxHeartbeats 4000000 in
theorem walk_big (s : ByteArray) (hb : 1000 < s.size) (W : World) (hv : Ex.VarAt W W.heap.size) : Calls Tryz.prog 8 #[.string s] W (fun e W' => e = .returned (.bool true) ∧ Below W.heap.size W W') := by
  have hd : decide ((1000 : Int) < (s.size : Int)) = true := by simp; omega
  have HV := Lib.hid hv
  clear hv
  go_enter Tryz.func8, Tryz.ntmps8
  go_wp2_with fail
  refine (live_any _ HV.out).mono ?_
  rintro e w1 ⟨rfl, hb1⟩
  have HB1 := Lib.hid hb1
  clear hb1
  go_wp2
  go_ret
  exact ⟨rfl, HB1.out⟩
set_option maxRecDepth 100000 in
set_option maxHeartbeats 4000000 in
theorem walk_off (s : ByteArray) (hs : ¬ 1000 < s.size) (W : World) (hv : Ex.VarAt W W.heap.size) (P : Prg) (C A : Int) (hp : progM s.toList = (P, C, A)) (hc : C ≠ 0 ∨ P.back ≠ []) : Calls Tryz.prog 8 #[.string s] W (fun e W' => e = .returned (.bool true) ∧ Below W.heap.size W W') := by
  have hd : decide ((1000 : Int) < (s.size : Int)) = false := by simp; omega
  have hm : s.size ≤ maxLen := by unfold maxLen; omega
  have HV := Lib.hid hv
  have HP := Lib.hid (fun w h => parse_s (w := w) hp hm h)
  clear hv hp
  rcases Bool.eq_false_or_eq_true (C == 0) with hc0 | hc0
  · have hC : C = 0 := by simpa using hc0
    have hk : ((str P.back).toList == []) = false := by
      rw [Tr.str_toList]
      rcases hc with h | h
      · exact absurd hC h
      · simpa using h
    have hk2 : (!(str P.back).toList == []) = true := by rw [hk]; rfl
    have hk3 : (str P.back).toList.isEmpty = false := by rw [Tr.str_toList] at hk ⊢; cases hb : P.back <;> simp_all
    subst hC
    clear hc hc0
    go_enter Tryz.func8, Tryz.ntmps8
    go_wp2_with fail
    refine (HP.out _ HV.out).mono ?_
    rintro e w1 ⟨uv, rfl, hu, hb1⟩
    obtain ⟨A1, n1, c1, rfl, y1, y2⟩ := row_form hu
    have N1 := Lib.hid (two_new w1 (.cells #[.slice A1 n1 c1, .string (str P.main), .string (str P.back)] 38) (.cells #[.int .i64 0, .int .i64 A] 33))
    have HW1 := Lib.hid (hb1.trans (N1.out.1.mono hb1.size))
    clear hu hb1
    go_wp2_with fail
    refine (live_any _ (var_up HV.out HW1.out)).mono ?_
    rintro e w3 ⟨rfl, hb3⟩
    have HB3 := Lib.hid (HW1.out.trans (hb3.mono HW1.out.size))
    clear hb3
    go_wp2
    go_ret
    exact ⟨rfl, HB3.out⟩
  · have hc1 : (C != 0) = true := by simpa using hc0
    have hc2 : ¬ C = 0 := by simpa using hc0
    clear hc
    go_enter Tryz.func8, Tryz.ntmps8
    go_wp2_with fail
    refine (HP.out _ HV.out).mono ?_
    rintro e w1 ⟨uv, rfl, hu, hb1⟩
    obtain ⟨A1, n1, c1, rfl, y1, y2⟩ := row_form hu
    have N1 := Lib.hid (two_new w1 (.cells #[.slice A1 n1 c1, .string (str P.main), .string (str P.back)] 38) (.cells #[.int .i64 C, .int .i64 A] 33))
    have HW1 := Lib.hid (hb1.trans (N1.out.1.mono hb1.size))
    clear hu hb1
    go_wp2_with fail
    refine (live_any _ (var_up HV.out HW1.out)).mono ?_
    rintro e w3 ⟨rfl, hb3⟩
    have HB3 := Lib.hid (HW1.out.trans (hb3.mono HW1.out.size))
    clear hb3
    go_wp2
    go_ret
    exact ⟨rfl, HB3.out⟩
theorem rowU_below {w w' : World} {l : List Unt} {v : Value} (h : RowR 50 8 UntV w l v) (hb : Below w.heap.size w w') : RowR 50 8 UntV w' l v :=
  h.stay (Stay.below (P := fun _ => False) hb) (fun h => h) (fun a x hx => UntV.below hb a x hx)
set_option maxRecDepth 100000 in
set_option maxHeartbeats 8000000 in
theorem walk_on (s : ByteArray) (hs : ¬ 1000 < s.size) (W : World) (hv : Ex.VarAt W W.heap.size) (P : Prg) (A : Int) (hp : progM s.toList = (P, 0, A)) (hb : P.back = []) : Calls Tryz.prog 8 #[.string s] W (fun e W' => e = .returned (.bool true) ∧ Below W.heap.size W W') := by
  have hd : decide ((1000 : Int) < (s.size : Int)) = false := by simp; omega
  have hm : s.size ≤ maxLen := by unfold maxLen; omega
  have hz : s.size + 13 ≤ 9223372036854775807 := by omega
  obtain ⟨us, m, k⟩ := P
  simp only at hb
  subst hb
  have HV := Lib.hid hv
  have HP := Lib.hid (fun w h => parse_s (w := w) hp hm h)
  have HQ : Hid (∀ w, VarAt w w.heap.size → Calls Tryz.prog 20 #[.string (s ++ ⟨#[10, 102, 97, 108, 108, 98, 97, 99, 107, 32, 122, 122, 59]⟩)] w (ParG w (⟨us, m, [122, 122]⟩, 0, 0))) := Lib.hid (fun w h => parse_s (by
    rw [Lx.app_toList, show (⟨#[10, 102, 97, 108, 108, 98, 97, 99, 107, 32, 122, 122, 59]⟩ : ByteArray).toList = 10 :: backT from Tr.str_toList (10 :: backT)]
    exact back_prog (by rw [Lx.toList_len]; omega) hp rfl) (by rw [ByteArray.size_append, show (⟨#[10, 102, 97, 108, 108, 98, 97, 99, 107, 32, 122, 122, 59]⟩ : ByteArray).size = 13 from rfl]; unfold maxLen; omega) h)
  have h0 : (str ([] : Bytes)).toList = [] := Tr.str_toList []
  have h1 : (!(str []).toList == []) = false := by rw [Tr.str_toList]; rfl
  have h2 : (!(str [122, 122]).toList == [122, 122]) = false := by rw [Tr.str_toList]; rfl
  clear hv hp
  go_enter Tryz.func8, Tryz.ntmps8
  go_wp2_with fail
  refine (HP.out _ HV.out).mono ?_
  rintro e w1 ⟨uv, rfl, hu, hb1⟩
  have HU := Lib.hid hu
  obtain ⟨A1, n1, c1, rfl, y1, y2⟩ := row_form hu
  have N1 := Lib.hid (two_new w1 (.cells #[.slice A1 n1 c1, .string (str m), .string (str [])] 38) (.cells #[.int .i64 0, .int .i64 A] 33))
  have HW1 := Lib.hid (hb1.trans (N1.out.1.mono hb1.size))
  clear hu hb1
  go_wp2_with fail
  refine (HQ.out _ (var_up HV.out HW1.out)).mono ?_
  rintro e w2 ⟨vv, rfl, hu2, hb2⟩
  have HU2 := Lib.hid hu2
  have HU1 := Lib.hid (rowU_below (rowU_below HU.out N1.out.1) hb2)
  have HW2 := Lib.hid (HW1.out.trans (hb2.mono HW1.out.size))
  have X2 := Lib.hid ((hb2.block _ (lt_of_block N1.out.2.1)).trans N1.out.2.1)
  have lX := lt_of_block X2.out
  obtain ⟨A2, n2, c2, rfl, y3, y4⟩ := row_form hu2
  have e0 : w2.cell? ⟨w1.heap.size, 0, none⟩ = some (.slice A1 n1 c1) := (cell_at X2.out 0).trans rfl
  have e1 : w2.cell? ⟨w1.heap.size, 1, none⟩ = some (.string (str m)) := (cell_at X2.out 1).trans rfl
  have e2 : w2.cell? ⟨w1.heap.size, 2, none⟩ = some (.string (str [])) := (cell_at X2.out 2).trans rfl
  have lX1 : w1.heap.size < w2.heap.size + 1 := by omega
  have lX2 : w1.heap.size ≠ w2.heap.size := by omega
  have lX3 : w1.heap.size ≠ w2.heap.size + 1 := by omega
  clear hu2 hb2
  go_wp2_with fail
  refine (prog_eq us m [] _ _ _ (rowU_below HU1.out (by repeat (first | with_reducible refine Below.setCell ?_ (by simp) _ | with_reducible refine Below.alloc ?_ (by simp) _ | exact Below.refl _ _))) (rowU_below HU2.out (by repeat (first | with_reducible refine Below.setCell ?_ (by simp) _ | with_reducible refine Below.alloc ?_ (by simp) _ | exact Below.refl _ _)))).mono ?_
  rintro e w3 ⟨rfl, hb3⟩
  have HB3 := Lib.hid ((show Below W.heap.size W _ from HW2.out.trans (Below.mono (by repeat (first | with_reducible refine Below.setCell ?_ (by simp) _ | with_reducible refine Below.alloc ?_ (by simp) _ | exact Below.refl _ _)) HW2.out.size)).trans (hb3.mono (by have := HW2.out.size; simp [World.setCell]; omega)))
  clear hb3
  go_wp2_with fail
  refine (live_any _ (var_up HV.out HB3.out)).mono ?_
  rintro e w4 ⟨rfl, hb4⟩
  have HB4 := Lib.hid (HB3.out.trans (hb4.mono HB3.out.size))
  clear hb4
  go_wp2
  go_ret
  exact ⟨rfl, HB4.out⟩
theorem walk (s : ByteArray) (hs : s.size ≤ maxLen) (W : World) (hv : Ex.VarAt W W.heap.size) : Calls Tryz.prog 8 #[.string s] W (fun e W' => e = .returned (.bool true) ∧ Below W.heap.size W W') := by
  by_cases hb : 1000 < s.size
  · exact walk_big s hb W hv
  · obtain ⟨⟨P, C, A⟩, hp⟩ : ∃ x, progM s.toList = x := ⟨_, rfl⟩
    by_cases h : C = 0 ∧ P.back = []
    · obtain ⟨rfl, h2⟩ := h
      exact walk_on s hb W hv P A hp h2
    · exact walk_off s hb W hv P C A hp (by
        by_cases hC : C = 0
        · exact .inr (fun h2 => h ⟨hC, h2⟩)
        · exact .inl hC)
end Go.Proofs.YtgohhnbdicdenaaGreatDoor.progBack
