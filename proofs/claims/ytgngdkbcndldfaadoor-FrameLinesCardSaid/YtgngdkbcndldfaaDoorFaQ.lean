/- What the program writes. Conditions: at most 100000 rows; the library's table is laid. -/
import Derived.Test.YtgngdkbcndldfaaDoorFaO
namespace Go.Proofs.YtgngdkbcndldfaaDoor.Fr
open Go.ChangeShapes Go.WideShapes Go.ChangeAt Go.RowKit Go.Proofs.YtgngdkbcndldfaaDoor.Tr
set_option linter.unusedVariables false
set_option linter.unusedSimpArgs false

/-- A builder that holds these bytes. -/
abbrev BldAt (B b : Nat) (P : Bs) (w : World) : Prop := Lib.IsBuilder 50 5 B b (Lib.byteCells P) w
theorem bld_below {B b : Nat} {P : Bs} {w w' : World} (h : BldAt B b P w) (hb : Below w.heap.size w w') : BldAt B b P w' := by
  have key : ∀ p, Lib.BuilderAt 50 5 B b p (Lib.byteCells P) w → Lib.BuilderAt 50 5 B b p (Lib.byteCells P) w' := fun p h => by
    obtain ⟨h1, v, h2, h3, h4⟩ := h
    exact ⟨h1, v, (hb.block b (lt_of_block h2)).trans h2, own_below h3 hb, h4⟩
  rcases h with h | h
  · exact .inl (key _ h)
  · exact .inr (key _ h)
theorem put_any (B b : Nat) (P T : Bs) (w : World) (h : BldAt B b P w) (hl : P.length + T.length ≤ 1000000000) (hB : B ≤ w.heap.size) :
    Calls Tryd.prog 24 #[.pointer (some ⟨b, 0, none⟩), .string (bs T)] w (fun e w' => e = .returned (.tuple #[.int .i64 (T.length : Int), .nilIface]) ∧ BldAt B b (P ++ T) w' ∧ Below B w w') := by
  refine (Tryd.Builder_WriteString B b (Lib.byteCells P) (bs T) w h (by rw [Lib.byteCells_length, bs_size]; omega) hB).mono ?_
  rintro e w' ⟨rfl, h1, h2⟩
  refine ⟨by rw [bs_size], .inr ?_, h2⟩
  rw [Lib.byteCells_append]
  exact h1
theorem none_any (x : Int) (W : World) : Calls Tryd.prog 21 #[.int .i64 x] W (fun e w' => e = .returned (.bool (!kindM x)) ∧ w' = W) := by
  by_cases h1 : x = 1
  · subst h1
    go_enter Tryd.func21, Tryd.ntmps21
    go_wp2
    go_ret
    exact ⟨rfl, rfl⟩
  · have hb1 : (x != 1) = true := bne_iff_ne.2 h1
    obtain ⟨b, hb⟩ : ∃ b, (x != 2) = b := ⟨_, rfl⟩
    have HK : Hid (b = !kindM x) := Lib.hid (by
      rw [← hb]; unfold kindM
      by_cases h2 : x = 2
      · subst h2; decide
      · simp [h1, h2])
    clear h1
    go_enter Tryd.func21, Tryd.ntmps21
    go_wp2
    go_ret
    exact ⟨ret_bool HK.out, rfl⟩
theorem any_kinds (ts : List Int) : (ts.any fun x => !kindM x) = !(ts.all kindM) := by
  induction ts with
  | nil => rfl
  | cons t ts ih => simp only [List.any_cons, List.all_cons, ih, Bool.not_and]
theorem cont_any (w : World) (tv : Value) (ts : List Int) (ht : Ints w tv ts) (hl : ts.length ≤ 200) :
    Calls Tryd.prog 22 #[tv, .func (.func 21) #[] #[]] w (fun e w' => e = .returned (.bool (!(ts.all kindM))) ∧ Below w.heap.size w w') := by
  obtain ⟨A, c, rfl, h1, h2, h3⟩ := ht
  cases ts with
  | nil =>
    refine (Tryd.slices_ContainsFunc_empty (α := Int) A c _ w).mono ?_
    rintro e w' ⟨rfl, rfl⟩
    exact ⟨rfl, Below.refl _ _⟩
  | cons t ts' =>
    obtain ⟨g, o, hA, hg, _⟩ := h3 0 t rfl
    subst hA
    refine (Tryd.slices_ContainsFunc (α := Int) (fun x => .int .i64 x) (fun x => !kindM x) 21 #[] (Go.Proofs.enters_of Tryd.func21 (by kernel_rfl) rfl) g o (t :: ts').length c (t :: ts') w (fun W x hb => ?_) (Nat.le_refl _) (by omega) (fun j hj => ?_)).mono ?_
    · exact (none_any x W).mono (by rintro e w' ⟨rfl, rfl⟩; exact ⟨rfl, 0, rfl⟩)
    · obtain ⟨g', o', hA, hg', hc⟩ := h3 j ((t :: ts')[j]'hj) (List.getElem?_eq_getElem hj)
      injection hA with hA
      injection hA with e1 e2
      subst e1 e2
      rw [hc, getElem!_pos (t :: ts') j hj]
    · rintro e w' ⟨rfl, q, rfl⟩
      rw [List.take_of_length_le (Nat.le_refl _), any_kinds]
      exact ⟨rfl, below_drewN (Below.refl _ _) q⟩

set_option maxRecDepth 100000 in
set_option maxHeartbeats 4000000 in
theorem write_any (w : World) (hF : FrAt w) (tv rv : Value) (ts : List Int) (rows : List (List Int)) (ht : Ints w tv ts) (hr : RowsR w rv rows) (hR : rows.length ≤ 100000) :
    Calls Tryd.prog 13 #[tv, rv] w (WPost (writeM ts rows) w) := by
  obtain ⟨A, c, rfl, z1, z2⟩ := ints_form ht
  obtain ⟨RA, rc, rfl, y1, y2⟩ := hr.form
  have HT := Lib.hid ht
  have HRW := Lib.hid hr
  have HF := Lib.hid hF
  obtain ⟨n, hn⟩ : ∃ n, ts.length = n := ⟨_, rfl⟩
  obtain ⟨m, hm⟩ : ∃ n, rows.length = n := ⟨_, rfl⟩
  rw [hn] at HT z1 ⊢
  rw [hm] at HRW y1 hR ⊢
  have HN := Lib.hid hn
  have HM := Lib.hid hm
  unfold maxLen at z2 y2
  clear ht hr hn hm hF
  by_cases h200 : 200 < n
  · have HW := Lib.hid (write_many (ts := ts) (rows := rows) (by rw [HN.out]; exact h200))
    go_enter Tryd.func13, Tryd.ntmps13
    go_wp2
    refine bodyPost_ret (v := .tuple #[.string ⟨#[]⟩, .int .i64 1]) (by simp [results, Tryd.results13, go_sem]) rfl ⟨Below.refl _ _, .inl ⟨HW.out, rfl⟩⟩
  have hn2 : ¬ (200 : Int) < (n : Int) := by omega
  have HC := Lib.hid (cont_any w (.slice A n c) ts HT.out (by rw [HN.out]; omega))
  cases hk : ts.all kindM with
  | false =>
    rw [hk] at HC
    have HW : Hid (writeM ts rows = none) := Lib.hid (by unfold writeM; rw [if_pos (Or.inr hk)])
    clear hk
    go_enter Tryd.func13, Tryd.ntmps13
    go_wp2_with fail
    refine HC.out.mono ?_
    rintro e w1 ⟨rfl, hb⟩
    have HB := Lib.hid hb
    clear hb
    go_wp2_with fail
    refine bodyPost_ret (v := .tuple #[.string ⟨#[]⟩, .int .i64 1]) (by simp [results, Tryd.results13, go_sem]) rfl ⟨HB.out, .inl ⟨HW.out, rfl⟩⟩
  | true =>
    rw [hk] at HC
    have HK := Lib.hid hk
    clear hk
    go_enter Tryd.func13, Tryd.ntmps13
    go_wp2_with fail
    refine HC.out.mono ?_
    rintro e w1 ⟨rfl, hb⟩
    have HB := Lib.hid hb
    have hw1 := hb.size
    have HF1 := Lib.hid (HF.out.below hb)
    have HT1 := Lib.hid (HT.out.below hb (Nat.le_refl _))
    have HR1 := Lib.hid (HRW.out.below hb (Nat.le_refl _))
    obtain ⟨w2, hw2⟩ : ∃ W, w1.alloc (.cells #[.pointer none, .slice none 0 0] 50) = W := ⟨_, rfl⟩
    have HBL : Hid (BldAt w1.heap.size w1.heap.size [] w2) := Lib.hid (by rw [← hw2]; exact Lib.fresh_isBuilder 50 5 w1)
    have HB2 : Hid (Below w1.heap.size w1 w2) := Lib.hid (by rw [← hw2]; exact below_new _ _)
    clear hb
    go_wp2_with fail
    clear hw2
    go_loopw [22] (fun vi wr => ∃ i : Nat, i ≤ m ∧ vi = .int .i64 (i : Int) ∧ BldAt w1.heap.size w1.heap.size ((rows.take i).flatMap (lineM ts)) wr ∧ (rows.take i).all (okRowM ts) = true ∧ Below w1.heap.size w1 wr) (fun vi _ => m - (intOf vi).toNat)
    case atStart => exact ⟨0, Nat.zero_le _, rfl, HBL.out, by simp, HB2.out⟩
    case round =>
      obtain ⟨i, hi, rfl, hbl, hall, hb⟩ := hrel
      have HBl := Lib.hid hbl
      have HAL := Lib.hid hall
      have HBr := Lib.hid hb
      have hwl := hb.size
      have hPl := written_len ts (rows.take i) hall
      rw [HN.out, List.length_take, HM.out, Nat.min_eq_left hi] at hPl
      obtain ⟨P, hP⟩ : ∃ P, (rows.take i).flatMap (lineM ts) = P := ⟨_, rfl⟩
      rw [hP] at hPl HBl
      have hPl2 : P.length ≤ 250000000 := by
        have : i * (n * 12 + 1) ≤ 100000 * (200 * 12 + 1) := Nat.mul_le_mul (by omega) (by omega)
        omega
      have HP := Lib.hid hP
      clear hbl hall hb hPl hP
      by_cases him : i < m
      · obtain ⟨r, hri⟩ : ∃ r, rows[i]? = some r := ⟨_, List.getElem?_eq_getElem (by rw [HM.out]; exact him)⟩
        obtain ⟨g2, o2, RB, rd, rfl, hg2, e0, x1, x2, hI⟩ := (HR1.out.below HBr.out (Nat.le_refl _)).at hri
        have HRI := Lib.hid hri
        have HLN := Lib.hid (written_any wr (HF1.out.below HBr.out) (.slice A n c) (.slice RB r.length rd) ts r (HT1.out.below HBr.out (Nat.le_refl _)) hI (by rw [HN.out]; omega))
        clear hri hI
        go_wp2_with fail
        refine HLN.out.mono ?_
        rintro e w3 ⟨s, b, rfl, hb3, hok, hs⟩
        have HB3 := Lib.hid hb3
        have HOK := Lib.hid hok
        have HBB : Hid (Below w.heap.size w w3) := Lib.hid (HB.out.trans ((HBr.out.trans (hb3.mono hwl)).mono hw1))
        clear hb3 hok
        cases b with
        | false =>
          have HW := Lib.hid (write_bad HRI.out HOK.out)
          clear hs
          go_wp2_with fail
          refine bodyPost_ret (v := .tuple #[.string ⟨#[]⟩, .int .i64 1]) (by simp [results, Tryd.results13, go_sem]) rfl ⟨HBB.out, .inl ⟨HW.out, rfl⟩⟩
        | true =>
          have hs' := hs rfl
          have hll := line_len ts r HOK.out
          rw [HN.out] at hll
          obtain ⟨J, hJ⟩ : ∃ J, Lib.join (List.zipWith textM ts r) [32] = J := ⟨_, rfl⟩
          have HJ : Hid (lineM ts r = J ++ [10]) := Lib.hid (by unfold lineM; rw [hJ])
          have hJl : J.length ≤ 2401 := by rw [HJ.out, List.length_append] at hll; simp at hll; omega
          rw [hJ] at hs'
          subst hs'
          have hw3 := HB3.out.size
          have HPA := Lib.hid (put_any w1.heap.size w1.heap.size P J w3 (bld_below HBl.out HB3.out) (by omega) (by omega))
          have HAL2 := Lib.hid (all_next HRI.out HAL.out HOK.out)
          have HFN : Hid ((rows.take (i + 1)).flatMap (lineM ts) = (P ++ J) ++ [10]) := Lib.hid (by rw [flat_next HRI.out, HP.out, HJ.out]; simp)
          have HB3' : Hid (Below w1.heap.size w1 w3) := Lib.hid (HBr.out.trans (HB3.out.mono hwl))
          clear hs hll hJ
          go_wp2_with fail
          refine HPA.out.mono ?_
          rintro e w4 ⟨rfl, hbl4, hb4⟩
          have HBL4 := Lib.hid hbl4
          have HB4 : Hid (Below w1.heap.size w1 w4) := Lib.hid (HB3'.out.trans hb4)
          have hw4 := HB4.out.size
          have HPB := Lib.hid (put_any w1.heap.size w1.heap.size (P ++ J) [10] w4 hbl4 (by simp; omega) hw4)
          clear hbl4 hb4
          go_wp2_with fail
          refine HPB.out.mono ?_
          rintro e w5 ⟨rfl, hbl5, hb5⟩
          have HE : Hid (BldAt w1.heap.size w1.heap.size ((rows.take (i + 1)).flatMap (lineM ts)) w5 ∧ Below w1.heap.size w1 w5) := Lib.hid ⟨by rw [HFN.out]; exact hbl5, HB4.out.trans hb5⟩
          clear hbl5 hb5
          go_wp2_with fail
          refine ⟨⟨i + 1, by omega, by go_num, HE.out.1, HAL2.out, HE.out.2⟩, by first | (simp [intOf]; done) | (simp [intOf]; omega)⟩
      · obtain rfl : i = m := by omega
        have HW : Hid (writeM ts rows = some P) := Lib.hid (by
          have h1 := HAL.out
          have h2 := HP.out
          rw [List.take_of_length_le (by rw [HM.out]; exact Nat.le_refl _)] at h1 h2
          rw [write_all (by rw [HN.out]; exact h200) HK.out h1, h2])
        have HS := Lib.hid (Tryd.Builder_String_any w1.heap.size w1.heap.size P wr HBl.out (by omega))
        go_wp2_with fail
        refine HS.out.mono ?_
        rintro e w3 ⟨rfl, hb3⟩
        have HBB : Hid (Below w.heap.size w w3) := Lib.hid (HB.out.trans ((HBr.out.trans hb3).mono hw1))
        clear hb3
        go_wp2_with fail
        refine bodyPost_ret (v := .tuple #[.string (bs P), .int .i64 0]) (by simp [results, Tryd.results13, go_sem]; first | done | rfl) rfl ⟨HBB.out, .inr ⟨P, HW.out, rfl⟩⟩
end Go.Proofs.YtgngdkbcndldfaaDoor.Fr
