/- A fault is at a token that there is, or at the end: the walk. Conditions: the variable of the error of a number's form holds an error or none. -/
import Derived.Test.YtgohhnbdicdenaaGreatDoorPz21
namespace Go.Proofs.YtgohhnbdicdenaaGreatDoor.progFault
open Go.ChangeShapes Go.WideShapes Go.ChangeAt Go.RowKit
open Go.Proofs.YtgohhnbdicdenaaGreatDoor.Pg Go.Proofs.YtgohhnbdicdenaaGreatDoor.Ex
open Go.Proofs.YtgohhnbdicdenaaGreatDoor.Tr (str ret_bool ret_int Bytes Nd)
set_option linter.unusedVariables false
set_option linter.unusedSimpArgs false

attribute [local go_sem ↓] Lx.eql_fault Lx.guard_fault
set_option maxRecDepth 100000 in
set_option maxHeartbeats 4000000 in
theorem walk_big (s : ByteArray) (hb : 1500 < s.size) (W : World) (hv : Ex.VarAt W W.heap.size) : Calls Tryz.prog 7 #[.string s] W (fun e W' => e = .returned (.bool true) ∧ Below W.heap.size W W') := by
  have hd : decide ((1500 : Int) < (s.size : Int)) = true := by simp; omega
  have HV := Lib.hid hv
  clear hv
  go_enter Tryz.func7, Tryz.ntmps7
  go_wp2_with fail
  refine (live_any _ HV.out).mono ?_
  rintro e w1 ⟨rfl, hb1⟩
  have HB1 := Lib.hid hb1
  clear hb1
  go_wp2
  go_ret
  exact ⟨rfl, HB1.out⟩
set_option maxRecDepth 100000 in
set_option maxHeartbeats 4000000 in
theorem walk_bad (s : ByteArray) (hs : ¬ 1500 < s.size) (W : World) (hv : Ex.VarAt W W.heap.size) (c a : Int) (hl : Lx.lexM s.toList = .bad c a) (hc : c ≠ 0) : Calls Tryz.prog 7 #[.string s] W (fun e W' => e = .returned (.bool true) ∧ Below W.heap.size W W') := by
  have hd : decide ((1500 : Int) < (s.size : Int)) = false := by simp; omega
  have hm : s.size ≤ maxLen := by unfold maxLen; omega
  have hp : progM s.toList = (.none, c, a) := by unfold progM; rw [hl]
  have HV := Lib.hid hv
  have HP := Lib.hid (fun w h => parse_s (w := w) hp hm h)
  have HL : Hid (∀ w, Calls Tryz.prog 18 #[.string s] w (Lx.LexGives w [] c a)) := Lib.hid (fun w => rlex_at (w := w) hl hm)
  have hc0 : (c == 0) = false := by rw [beq_eq_false_iff_ne]; exact hc
  have hf := fault_self c a
  clear hv hl hc hp
  go_enter Tryz.func7, Tryz.ntmps7
  go_wp2_with fail
  refine (HP.out _ HV.out).mono ?_
  rintro e w1 ⟨uv, rfl, hu, hb1⟩
  have HB1 := Lib.hid hb1
  obtain ⟨A1, n1, c1, rfl, y1, y2⟩ := row_form hu
  have N1 := Lib.hid (two_new w1 (.cells #[.slice A1 n1 c1, .string ⟨#[]⟩, .string ⟨#[]⟩] 38) (.cells #[.int .i64 c, .int .i64 a] 33))
  have HW1 := Lib.hid (hb1.trans (N1.out.1.mono hb1.size))
  clear hu hb1
  go_wp2_with fail
  refine (HL.out _).mono ?_
  rintro e w2 ⟨lv, rfl, ht, hb2⟩
  have HW2 := Lib.hid (HW1.out.trans (hb2.mono HW1.out.size))
  have Y2 := Lib.hid ((hb2.block _ (lt_of_block N1.out.2.2)).trans N1.out.2.2)
  have lY := lt_of_block Y2.out
  obtain ⟨A2, c2, rfl, t1, t2, -⟩ := ht
  unfold maxLen at t2
  have f0 : w2.cell? ⟨w1.heap.size + 1, 0, none⟩ = some (.int .i64 c) := (cell_at Y2.out 0).trans rfl
  have f1 : w2.cell? ⟨w1.heap.size + 1, 1, none⟩ = some (.int .i64 a) := (cell_at Y2.out 1).trans rfl
  have HN := Lib.hid (HW2.out.alloc HW2.out.size (.cells #[.int .i64 c, .int .i64 a] 33))
  clear hb2
  go_wp2_with fail
  refine (live_any _ (var_up HV.out HN.out)).mono ?_
  rintro e w3 ⟨rfl, hb3⟩
  have HB3 := Lib.hid (HN.out.trans (hb3.mono HN.out.size))
  clear hb3
  go_wp2
  go_ret
  exact ⟨rfl, HB3.out⟩
set_option maxRecDepth 100000 in
set_option maxHeartbeats 4000000 in
theorem walk_ok (s : ByteArray) (hs : ¬ 1500 < s.size) (W : World) (hv : Ex.VarAt W W.heap.size) (l : List Tok) (hl : Lx.lexM s.toList = .ok l) (P : Prg) (A : Int) (hp : progM s.toList = (P, 0, A)) : Calls Tryz.prog 7 #[.string s] W (fun e W' => e = .returned (.bool true) ∧ Below W.heap.size W W') := by
  have hd : decide ((1500 : Int) < (s.size : Int)) = false := by simp; omega
  have hm : s.size ≤ maxLen := by unfold maxLen; omega
  have HV := Lib.hid hv
  have HP := Lib.hid (fun w h => parse_s (w := w) hp hm h)
  have HL : Hid (∀ w, Calls Tryz.prog 18 #[.string s] w (Lx.LexGives w l 0 0)) := Lib.hid (fun w => rlex_at (w := w) hl hm)
  clear hv hl hp
  go_enter Tryz.func7, Tryz.ntmps7
  go_wp2_with fail
  refine (HP.out _ HV.out).mono ?_
  rintro e w1 ⟨uv, rfl, hu, hb1⟩
  have HB1 := Lib.hid hb1
  obtain ⟨A1, n1, c1, rfl, y1, y2⟩ := row_form hu
  have N1 := Lib.hid (two_new w1 (.cells #[.slice A1 n1 c1, .string (str P.main), .string (str P.back)] 38) (.cells #[.int .i64 0, .int .i64 A] 33))
  have HW1 := Lib.hid (hb1.trans (N1.out.1.mono hb1.size))
  clear hu hb1
  go_wp2_with fail
  refine (HL.out _).mono ?_
  rintro e w2 ⟨lv, rfl, ht, hb2⟩
  have HW2 := Lib.hid (HW1.out.trans (hb2.mono HW1.out.size))
  have Y2 := Lib.hid ((hb2.block _ (lt_of_block N1.out.2.2)).trans N1.out.2.2)
  have lY := lt_of_block Y2.out
  obtain ⟨A2, c2, rfl, t1, t2, -⟩ := ht
  unfold maxLen at t2
  have f0 : w2.cell? ⟨w1.heap.size + 1, 0, none⟩ = some (.int .i64 0) := (cell_at Y2.out 0).trans rfl
  have f1 : w2.cell? ⟨w1.heap.size + 1, 1, none⟩ = some (.int .i64 A) := (cell_at Y2.out 1).trans rfl
  have HN := Lib.hid (HW2.out.alloc HW2.out.size (.cells #[.int .i64 0, .int .i64 0] 33))
  clear hb2
  go_wp2_with fail
  refine (live_any _ (var_up HV.out HN.out)).mono ?_
  rintro e w3 ⟨rfl, hb3⟩
  have HB3 := Lib.hid (HN.out.trans (hb3.mono HN.out.size))
  clear hb3
  go_wp2
  go_ret
  exact ⟨rfl, HB3.out⟩
/-- Whether a token was found among the first ones. -/
def fnd (l : List Tok) (A : Int) (k : Nat) : Bool := (A == -1) || (l.take k).any (fun t => (t.at_ : Int) == A)
theorem fnd_zero (l : List Tok) (A : Int) : fnd l A 0 = (A == -1) := by simp [fnd]
theorem fnd_next {l : List Tok} {A : Int} {k : Nat} {t : Tok} (h : l[k]? = some t) : fnd l A (k + 1) = (fnd l A k || ((t.at_ : Int) == A)) := by
  unfold fnd
  rw [List.take_add_one, h, List.any_append]
  simp [Bool.or_assoc]
theorem fnd_all {l : List Tok} {A : Int} {i : Nat} (h : A = atM l i) : fnd l A l.length = true := by
  unfold fnd
  rw [List.take_length]
  unfold atM at h
  cases hi : l[i]? with
  | none => rw [hi] at h; subst h; rfl
  | some t =>
    rw [hi] at h
    simp only at h
    rw [Bool.or_eq_true]
    exact .inr (List.any_eq_true.2 ⟨t, List.mem_of_getElem? hi, by rw [h]; simp⟩)
set_option maxRecDepth 100000 in
set_option maxHeartbeats 8000000 in
theorem walk_fault (s : ByteArray) (hs : ¬ 1500 < s.size) (W : World) (hv : Ex.VarAt W W.heap.size) (l : List Tok) (hl : Lx.lexM s.toList = .ok l) (C A : Int) (hp : progM s.toList = (.none, C, A)) (hC : C ≠ 0) (i : Nat) (hi : A = atM l i) : Calls Tryz.prog 7 #[.string s] W (fun e W' => e = .returned (.bool true) ∧ Below W.heap.size W W') := by
  have hd : decide ((1500 : Int) < (s.size : Int)) = false := by simp; omega
  have hm : s.size ≤ maxLen := by unfold maxLen; omega
  have HV := Lib.hid hv
  have HP := Lib.hid (fun w h => parse_s (w := w) hp hm h)
  have HL : Hid (∀ w, Calls Tryz.prog 18 #[.string s] w (Lx.LexGives w l 0 0)) := Lib.hid (fun w => rlex_at (w := w) hl hm)
  have HF := Lib.hid (fnd_all hi)
  have hc0 : (C == 0) = false := by rw [beq_eq_false_iff_ne]; exact hC
  clear hv hl hp hC hi
  go_enter Tryz.func7, Tryz.ntmps7
  go_wp2_with fail
  refine (HP.out _ HV.out).mono ?_
  rintro e w1 ⟨uv, rfl, hu, hb1⟩
  have HB1 := Lib.hid hb1
  obtain ⟨A1, c1, rfl, y1, y2, -⟩ := hu
  have N1 := Lib.hid (two_new w1 (.cells #[.slice A1 0 c1, .string ⟨#[]⟩, .string ⟨#[]⟩] 38) (.cells #[.int .i64 C, .int .i64 A] 33))
  have HW1 := Lib.hid (hb1.trans (N1.out.1.mono hb1.size))
  unfold maxLen at y2
  clear hb1
  go_wp2_with fail
  refine (HL.out _).mono ?_
  rintro e w2 ⟨lv, rfl, ht, hb2⟩
  have HW2 := Lib.hid (HW1.out.trans (hb2.mono HW1.out.size))
  have X2 := Lib.hid ((hb2.block _ (lt_of_block N1.out.2.1)).trans N1.out.2.1)
  have Y2 := Lib.hid ((hb2.block _ (lt_of_block N1.out.2.2)).trans N1.out.2.2)
  have lX := lt_of_block X2.out
  have lY := lt_of_block Y2.out
  have ht' : Lx.Toks (w2.alloc (.cells #[.int .i64 0, .int .i64 0] 33)) lv l := toks_keep ht (below_new _ _)
  obtain ⟨A2, c2, rfl, t1, t2, -⟩ := ht
  obtain ⟨A3, c3, hv3, -, -, t3⟩ := ht'
  have hv3' : A2 = A3 := by
    have := congrArg (fun v => match v with | Value.slice a _ _ => a | _ => none) hv3
    exact this
  subst hv3'
  have HT := Lib.hid t3
  clear t3 hv3
  unfold maxLen at t2
  have e0 : w2.cell? ⟨w1.heap.size, 0, none⟩ = some (.slice A1 0 c1) := (cell_at X2.out 0).trans rfl
  have e1 : w2.cell? ⟨w1.heap.size, 1, none⟩ = some (.string ⟨#[]⟩) := (cell_at X2.out 1).trans rfl
  have f0 : w2.cell? ⟨w1.heap.size + 1, 0, none⟩ = some (.int .i64 C) := (cell_at Y2.out 0).trans rfl
  have f1 : w2.cell? ⟨w1.heap.size + 1, 1, none⟩ = some (.int .i64 A) := (cell_at Y2.out 1).trans rfl
  have HN := Lib.hid (HW2.out.alloc HW2.out.size (.cells #[.int .i64 0, .int .i64 0] 33))
  have lX2 : w1.heap.size ≠ w2.heap.size := by omega
  have lY2 : w1.heap.size + 1 ≠ w2.heap.size := by omega
  clear hb2
  go_wp2
  go_loopw [7, 8] (fun s7 s8 wr => ∃ k n : Nat, k ≤ l.length ∧ s7 = .bool (fnd l A k) ∧ s8 = .int .i64 k ∧ wr = (w2.alloc (.cells #[.int .i64 0, .int .i64 0] 33)).drewN n) (fun _ i _ => l.length - (intOf i).toNat)
  case atStart => exact ⟨0, 0, Nat.zero_le _, by rw [fnd_zero], rfl, rfl⟩
  case round =>
    obtain ⟨k, n, hk, rfl, rfl, rfl⟩ := hrel
    by_cases hlt : k < l.length
    · obtain ⟨t, ht⟩ : ∃ t, l[k]? = some t := ⟨_, List.getElem?_eq_getElem hlt⟩
      obtain ⟨g, rfl, hg, -, -, g2⟩ := HT.out k t ht
      have HNX := Lib.hid (fnd_next (A := A) ht)
      obtain ⟨F, hF⟩ : ∃ F, fnd l A k = F := ⟨_, rfl⟩
      rw [hF] at HNX ⊢
      clear hF ht
      cases F with
      | true =>
        go_wp2
        go_quiet (fail)
        go_wp2
        go_roundw
        case rel => exact ⟨k + 1, _, by omega, by rw [HNX.out]; rfl, by go_num, rfl⟩
        case measure => simp [intOf]; omega
      | false =>
        rcases Bool.eq_false_or_eq_true ((t.at_ : Int) == A) with hq | hq
        all_goals
          go_wp2
          go_quiet (fail)
          go_wp2
          go_roundw
          case rel => exact ⟨k + 1, _, by omega, by rw [HNX.out, hq]; rfl, by go_num, rfl⟩
          case measure => simp [intOf]; omega
    · have hkl : k = l.length := by omega
      subst hkl
      rw [HF.out]
      go_wp2_with fail
      refine (live_any _ (var_up HV.out (Tr.below_drewN HN.out n))).mono ?_
      rintro e w3 ⟨rfl, hb3⟩
      have HB3 := Lib.hid ((Tr.below_drewN HN.out n).trans (hb3.mono (Tr.below_drewN HN.out n).size))
      clear hb3
      go_wp2
      go_ret
      exact ⟨rfl, HB3.out⟩
theorem walk (s : ByteArray) (hs : s.size ≤ maxLen) (W : World) (hv : Ex.VarAt W W.heap.size) : Calls Tryz.prog 7 #[.string s] W (fun e W' => e = .returned (.bool true) ∧ Below W.heap.size W W') := by
  by_cases hb : 1500 < s.size
  · exact walk_big s hb W hv
  · cases hl : Lx.lexM s.toList with
    | bad c a =>
      refine walk_bad s hb W hv c a hl ?_
      by_cases hs : 100000 < s.toList.length
      · unfold Lx.lexM at hl; rw [if_pos hs] at hl; cases hl; decide
      · exact (Lx.lexM_code _ (by omega) c a hl).1
    | ok l =>
      obtain ⟨⟨P, C, A⟩, hp⟩ : ∃ x, progM s.toList = x := ⟨_, rfl⟩
      by_cases hC : C = 0
      · subst hC; exact walk_ok s hb W hv l hl P A hp
      · obtain ⟨h1, h2⟩ := prog_fault (s := s.toList) (by rw [hp]; exact hC)
        rw [hp] at h1 h2
        simp only at h1 h2
        subst h1
        rcases h2 with ⟨c, a, h3, -⟩ | ⟨l', i, h3, h4⟩
        · rw [hl] at h3; cases h3
        · rw [hl] at h3
          injection h3 with h3
          subst h3
          exact walk_fault s hb W hv l hl C A hp hC i h4
end Go.Proofs.YtgohhnbdicdenaaGreatDoor.progFault
