/- The walk of FrameLines. Conditions: as it says. -/
import Derived.Test.YtgngdkbcndldfaaDoorFaR
import Derived.Test.YtgngdkbcndldfaaDoorFrL
import Derived.Test.YtgngdkbcndldfaaDoorFaRs
namespace Go.Proofs.YtgngdkbcndldfaaDoor.frameLines
open Go.ChangeShapes Go.WideShapes Go.ChangeAt Go.RowKit Go.Proofs.YtgngdkbcndldfaaDoor.Tr Go.Proofs.YtgngdkbcndldfaaDoor.Fr
set_option linter.unusedVariables false
set_option linter.unusedSimpArgs false
attribute [local go_sem ↓] eql_fault guard_fault cut_h cut_l
theorem rows_few (ts : List Int) (S : Bs) : (readM ts S).1.length ≤ S.length + 1 := by
  unfold readM
  split
  · simp
  · have := (goM_len ts (linesM S)).1
    have := (lines_small S).1
    split <;> (simp only; omega)
theorem bs_full {S : Bs} (h : S ≠ []) : (bs S).toList.isEmpty = false := by
  rw [bs_list]; cases S with
  | nil => exact absurd rfl h
  | cons => rfl
set_option maxRecDepth 100000 in
set_option maxHeartbeats 8000000 in
theorem walk (w : World) (hF : FrAt w) (tv : Value) (ts : List Int) (ht : Ints w tv ts) (S T : Bs) :
    Calls Tryd.prog 6 #[tv, .string (bs S), .string (bs T)] w (fun e w' => e = .returned (.bool true) ∧ Below w.heap.size w w') := by
  obtain ⟨A, c, rfl, z1, z2⟩ := ints_form ht
  have HT := Lib.hid ht
  have HF := Lib.hid hF
  obtain ⟨n, hn⟩ : ∃ n, ts.length = n := ⟨_, rfl⟩
  obtain ⟨s, hs⟩ : ∃ n, S.length = n := ⟨_, rfl⟩
  obtain ⟨t, ht'⟩ : ∃ n, T.length = n := ⟨_, rfl⟩
  have hsz : (bs S).size = s := by rw [bs_size, hs]
  have htz : (bs T).size = t := by rw [bs_size, ht']
  rw [hn] at HT z1 ⊢
  have HN := Lib.hid hn
  have HSL := Lib.hid hs
  have HTL := Lib.hid ht'
  unfold maxLen at z2
  clear ht hn hs hF ht'
  have HLV : Hid (∀ W, Below w.heap.size w W → Calls Tryd.prog 9 #[] W (fun e w' => e = .returned (.bool true) ∧ Below W.heap.size W w')) := Lib.hid (fun W hW => live_any W (HF.out.below hW))
  by_cases hbig : 1000 < s ∨ 1000 < t ∨ 60 < n ∨ S = []
  · have hgo : ∀ (Q : Prop), ((1000 : Int) < (s : Int) → Q) → (¬ (1000 : Int) < (s : Int) → (1000 : Int) < (t : Int) → Q) → (¬ (1000 : Int) < (s : Int) → ¬ (1000 : Int) < (t : Int) → (60 : Int) < (n : Int) → Q) → (¬ (1000 : Int) < (s : Int) → ¬ (1000 : Int) < (t : Int) → ¬ (60 : Int) < (n : Int) → S = [] → Q) → Q := fun Q q1 q2 q3 q4 => by
      by_cases e : 1000 < s
      · exact q1 (by omega)
      · by_cases e2 : 1000 < t
        · exact q2 (by omega) (by omega)
        · by_cases e3 : 60 < n
          · exact q3 (by omega) (by omega) (by omega)
          · exact q4 (by omega) (by omega) (by omega) (by rcases hbig with h | h | h | h; omega; omega; omega; exact h)
    clear hbig
    refine hgo _ (fun he => ?_) (fun he he2 => ?_) (fun he he2 he3 => ?_) (fun he he2 he3 he4 => ?_)
    case refine_4 =>
      clear hgo
      have hq : (bs S).toList.isEmpty = true := by rw [bs_list, he4]; rfl
      clear he4
      go_enter Tryd.func6, Tryd.ntmps6
      go_wp2_with fail
      refine (HLV.out _ (Below.refl _ _)).mono ?_
      rintro e w1 ⟨rfl, hb⟩
      have HB := Lib.hid hb
      clear hb
      go_wp2_with fail
      go_ret
      exact ⟨rfl, HB.out⟩
    all_goals
      clear hgo
      go_enter Tryd.func6, Tryd.ntmps6
      go_wp2_with fail
      refine (HLV.out _ (Below.refl _ _)).mono ?_
      rintro e w1 ⟨rfl, hb⟩
      have HB := Lib.hid hb
      clear hb
      go_wp2_with fail
      go_ret
      exact ⟨rfl, HB.out⟩
  · have hn1 : ¬ (1000 : Int) < (s : Int) := by omega
    have hn2 : ¬ (1000 : Int) < (t : Int) := by omega
    have hn3 : ¬ (60 : Int) < (n : Int) := by omega
    have hne := bs_full (S := S) (fun e => hbig (by right; right; right; exact e))
    have HRD1 : Hid (Calls Tryd.prog 10 #[.slice A n c, .string (bs S ++ ⟨#[10]⟩)] w (ReadPost (readM ts (S ++ [10])) w)) := Lib.hid (by
      have := Read_any w HF.out (.slice A n c) ts (S ++ [10]) HT.out (by simp; have := HSL.out; omega)
      rw [← bs_app] at this; exact this)
    have HRD2 : Hid (∀ W, Below w.heap.size w W → Calls Tryd.prog 10 #[.slice A n c, .string (bs T)] W (ReadPost (readM ts T) W)) := Lib.hid (fun W hW =>
      Read_any W (HF.out.below hW) _ ts T (HT.out.below hW (Nat.le_refl _)) (by have := HTL.out; omega))
    have HRD3 : Hid (∀ W, Below w.heap.size w W → Calls Tryd.prog 10 #[.slice A n c, .string (bs S ++ ⟨#[10]⟩ ++ bs T)] W (ReadPost (readM ts (S ++ 10 :: T)) W)) := Lib.hid (fun W hW => by
      have := Read_any W (HF.out.below hW) _ ts (S ++ 10 :: T) (HT.out.below hW (Nat.le_refl _)) (by simp; have := HTL.out; have := HSL.out; omega)
      rw [show bs (S ++ 10 :: T) = bs S ++ ⟨#[10]⟩ ++ bs T by rw [show S ++ 10 :: T = (S ++ [10]) ++ T by simp, ← bs_app, ← bs_app]; rfl] at this; exact this)
    have hone : (⟨#[10]⟩ : ByteArray).size = 1 := rfl
    have hz1 : (bs S).size + (⟨#[10]⟩ : ByteArray).size ≤ 9223372036854775807 := by rw [hsz, hone]; omega
    have hz2 : (bs S ++ (⟨#[10]⟩ : ByteArray)).size + (bs T).size ≤ 9223372036854775807 := by rw [htz, ByteArray.size_append, hsz, hone]; omega
    have hboth := read_both ts S T (by rw [HSL.out]; omega) (by rw [HTL.out]; omega) (by rw [HN.out]; omega)
    have hf1 := rows_few ts (S ++ [10])
    have hf2 := rows_few ts T
    rw [List.length_append, HSL.out] at hf1
    rw [HTL.out] at hf2
    clear hbig
    rcases hboth with ⟨R, e1, e3⟩ | ⟨R, Q, e1, hboth⟩
    · rw [e1] at HRD1
      rw [e3] at HRD3
      obtain ⟨B2, K2, P2, e2⟩ : ∃ R K P, readM ts T = (R, K, P) := ⟨_, _, _, rfl⟩
      rw [e2] at HRD2
      obtain ⟨p, hp⟩ : ∃ q, R.length = q := ⟨_, rfl⟩
      rw [hp] at HRD1 HRD3
      clear e1 e2 e3 hf1 hf2 hp
      go_enter Tryd.func6, Tryd.ntmps6
      go_wp2_with fail
      refine HRD1.out.mono ?_
      rintro e w1 ⟨av, rfl, hra, hb1⟩
      have HRA := Lib.hid hra
      have HB1 := Lib.hid hb1
      clear hra hb1
      obtain ⟨w2, hw2⟩ : ∃ W, w1.alloc (.cells #[.int .i64 17, .int .i64 (p : Int)] 27) = W := ⟨_, rfl⟩
      have HE2 : Hid (w2.heap[w1.heap.size]? = some (.cells #[.int .i64 17, .int .i64 (p : Int)] 27 (0, 0))) := Lib.hid (by rw [← hw2]; exact heap_alloc_new _ _)
      have HA2 : Hid (Below w1.heap.size w1 w2) := Lib.hid (by rw [← hw2]; exact below_new _ _)
      have HB2 : Hid (Below w.heap.size w w2) := Lib.hid (HB1.out.trans (HA2.out.mono HB1.out.size))
      have HW2 := Lib.hid hw2
      clear hw2
      go_wp2_with fail
      rw [HW2.out]
      refine (HRD2.out w2 HB2.out).mono ?_
      rintro e w3 ⟨bv, rfl, hrb, hb3⟩
      have HA3 := Lib.hid hb3
      clear hrb hb3
      obtain ⟨w4, hw4⟩ : ∃ W, w3.alloc (.cells #[.int .i64 K2, .int .i64 P2] 27) = W := ⟨_, rfl⟩
      have HA4 : Hid (Below w3.heap.size w3 w4) := Lib.hid (by rw [← hw4]; exact below_new _ _)
      have H24 : Hid (Below w2.heap.size w2 w4) := Lib.hid (HA3.out.trans (HA4.out.mono HA3.out.size))
      have HB4 : Hid (Below w.heap.size w w4) := Lib.hid (HB2.out.trans (H24.out.mono HB2.out.size))
      have HW4 := Lib.hid hw4
      clear hw4
      go_wp2_with fail
      rw [HW4.out]
      refine (HRD3.out w4 HB4.out).mono ?_
      rintro e w5 ⟨cv, rfl, hrc, hb5⟩
      have HRC := Lib.hid hrc
      have HA5 := Lib.hid hb5
      clear hrc hb5
      obtain ⟨w6, hw6⟩ : ∃ W, w5.alloc (.cells #[.int .i64 17, .int .i64 (p : Int)] 27) = W := ⟨_, rfl⟩
      have HE6 : Hid (w6.heap[w5.heap.size]? = some (.cells #[.int .i64 17, .int .i64 (p : Int)] 27 (0, 0))) := Lib.hid (by rw [← hw6]; exact heap_alloc_new _ _)
      have HA6 : Hid (Below w5.heap.size w5 w6) := Lib.hid (by rw [← hw6]; exact below_new _ _)
      have H26 : Hid (Below w2.heap.size w2 w6) := Lib.hid (H24.out.trans ((HA5.out.trans (HA6.out.mono HA5.out.size)).mono H24.out.size))
      have HB6 : Hid (Below w.heap.size w w6) := Lib.hid (HB2.out.trans (H26.out.mono HB2.out.size))
      have HW6 := Lib.hid hw6
      have hl2 : w1.heap.size < w2.heap.size := lt_of_block HE2.out
      have H25 : Hid (Below w2.heap.size w2 w5) := Lib.hid (H24.out.trans (HA5.out.mono H24.out.size))
      have h25 : w5.heap[w1.heap.size]? = some (.cells #[.int .i64 17, .int .i64 (p : Int)] 27 (0, 0)) := (H25.out.block _ hl2).trans HE2.out
      have hl5 : w1.heap.size < w5.heap.size := lt_of_block h25
      have hl5n : ¬ w1.heap.size = w5.heap.size := by omega
      have g20 : w5.cell? ⟨w1.heap.size, 0, none⟩ = some (.int .i64 17) := by unfold World.cell?; rw [h25]; rfl
      have g21 : w5.cell? ⟨w1.heap.size, 1, none⟩ = some (.int .i64 (p : Int)) := by unfold World.cell?; rw [h25]; rfl
      have hFB : faultB 17 17 (p : Int) (p : Int) = true := faultB_self _ _
      have HQ := Lib.hid (rows_eq w6 cv av R (HRC.out.below HA6.out (Nat.le_refl _)) (HRA.out.below (HA2.out.trans (H26.out.mono HA2.out.size)) (Nat.le_refl _)))
      clear hw6 h25 hl2
      go_wp2_with fail
      rw [HW6.out]
      refine HQ.out.mono ?_
      rintro e w7 ⟨rfl, hb7⟩
      have HB7 : Hid (Below w.heap.size w w7) := Lib.hid (HB6.out.trans (hb7.mono HB6.out.size))
      clear hb7
      go_wp2_with fail
      refine (HLV.out w7 HB7.out).mono ?_
      rintro e w8 ⟨rfl, hb8⟩
      have HEND : Hid (Below w.heap.size w w8) := Lib.hid (HB7.out.trans (hb8.mono HB7.out.size))
      clear hb8
      go_wp2_with fail
      go_ret
      exact ⟨rfl, HEND.out⟩
    · rcases hboth with ⟨e2, e3⟩ | ⟨e2, e3⟩
      · rw [e1] at HRD1
        rw [e2] at HRD2
        rw [e3] at HRD3
        rw [e1] at hf1
        rw [e2] at hf2
        obtain ⟨p, hp⟩ : ∃ q, R.length = q := ⟨_, rfl⟩
        obtain ⟨q, hq⟩ : ∃ q, Q.length = q := ⟨_, rfl⟩
        obtain ⟨m, hm⟩ : ∃ m, (R ++ Q).length = m := ⟨_, rfl⟩
        have HM : Hid (m = p + q) := Lib.hid (by rw [← hm, List.length_append, hp, hq])
        simp only [hp, List.length_singleton] at hf1
        simp only [hq] at hf2
        have hp9 : (p : Int) ≤ 1002 := by omega
        have hq9 : (q : Int) ≤ 1001 := by omega
        have HPL := Lib.hid hp
        have HQL := Lib.hid hq
        have HML := Lib.hid hm
        clear e1 e2 e3 hp hq hm
        go_enter Tryd.func6, Tryd.ntmps6
        go_wp2_with fail
        refine HRD1.out.mono ?_
        rintro e w1 ⟨av, rfl, hra, hb1⟩
        obtain ⟨VA, va, rfl, u1, u2⟩ := hra.form
        have HRA := Lib.hid hra
        have HB1 := Lib.hid hb1
        rw [HPL.out] at HRA u1 ⊢
        clear hra hb1 u1 u2
        obtain ⟨w2, hw2⟩ : ∃ W, w1.alloc (.cells #[.int .i64 0, .int .i64 0] 27) = W := ⟨_, rfl⟩
        have HE2 : Hid (w2.heap[w1.heap.size]? = some (.cells #[.int .i64 0, .int .i64 0] 27 (0, 0))) := Lib.hid (by rw [← hw2]; exact heap_alloc_new _ _)
        have HA2 : Hid (Below w1.heap.size w1 w2) := Lib.hid (by rw [← hw2]; exact below_new _ _)
        have HB2 : Hid (Below w.heap.size w w2) := Lib.hid (HB1.out.trans (HA2.out.mono HB1.out.size))
        have HW2 := Lib.hid hw2
        clear hw2
        go_wp2_with fail
        rw [HW2.out]
        refine (HRD2.out w2 HB2.out).mono ?_
        rintro e w3 ⟨bv, rfl, hrb, hb3⟩
        obtain ⟨VB, vb, rfl, y1, y2⟩ := hrb.form
        have HRB := Lib.hid hrb
        have HA3 := Lib.hid hb3
        rw [HQL.out] at HRB y1 ⊢
        clear hrb hb3 y1 y2
        obtain ⟨w4, hw4⟩ : ∃ W, w3.alloc (.cells #[.int .i64 0, .int .i64 0] 27) = W := ⟨_, rfl⟩
        have HE4 : Hid (w4.heap[w3.heap.size]? = some (.cells #[.int .i64 0, .int .i64 0] 27 (0, 0))) := Lib.hid (by rw [← hw4]; exact heap_alloc_new _ _)
        have HA4 : Hid (Below w3.heap.size w3 w4) := Lib.hid (by rw [← hw4]; exact below_new _ _)
        have H24 : Hid (Below w2.heap.size w2 w4) := Lib.hid (HA3.out.trans (HA4.out.mono HA3.out.size))
        have HB4 : Hid (Below w.heap.size w w4) := Lib.hid (HB2.out.trans (H24.out.mono HB2.out.size))
        have HW4 := Lib.hid hw4
        clear hw4
        go_wp2_with fail
        rw [HW4.out]
        refine (HRD3.out w4 HB4.out).mono ?_
        rintro e w5 ⟨cv, rfl, hrc, hb5⟩
        obtain ⟨VC, vc, rfl, x1, x2⟩ := hrc.form
        have HRC := Lib.hid hrc
        have HA5 := Lib.hid hb5
        rw [HML.out] at HRC x1 ⊢
        have hcut1 : (p : Int) ≤ (vc : Int) := by have := HM.out; omega
        have hcut2 : (p : Int) ≤ (m : Int) := by have := HM.out; omega
        have hmm : ((m : Int) != (p : Int) + (q : Int)) = false := by have := HM.out; simp; omega
        clear hrc hb5 x1 x2
        obtain ⟨w6, hw6⟩ : ∃ W, w5.alloc (.cells #[.int .i64 0, .int .i64 (0)] 27) = W := ⟨_, rfl⟩
        have HE6 : Hid (w6.heap[w5.heap.size]? = some (.cells #[.int .i64 0, .int .i64 (0)] 27 (0, 0))) := Lib.hid (by rw [← hw6]; exact heap_alloc_new _ _)
        have HA6 : Hid (Below w5.heap.size w5 w6) := Lib.hid (by rw [← hw6]; exact below_new _ _)
        have H46 : Hid (Below w4.heap.size w4 w6) := Lib.hid (HA5.out.trans (HA6.out.mono HA5.out.size))
        have H26 : Hid (Below w2.heap.size w2 w6) := Lib.hid (H24.out.trans (H46.out.mono H24.out.size))
        have HB6 : Hid (Below w.heap.size w w6) := Lib.hid (HB2.out.trans (H26.out.mono HB2.out.size))
        have HW6 := Lib.hid hw6
        have hl2 : w1.heap.size < w2.heap.size := lt_of_block HE2.out
        have hl4 : w3.heap.size < w4.heap.size := lt_of_block HE4.out
        have h24 := H24.out.size
        have hl6 : w5.heap.size < w6.heap.size := lt_of_block HE6.out
        have H25 : Hid (Below w2.heap.size w2 w5) := Lib.hid (H24.out.trans (HA5.out.mono H24.out.size))
        have h25 : w5.heap[w1.heap.size]? = some (.cells #[.int .i64 0, .int .i64 0] 27 (0, 0)) := (H25.out.block _ hl2).trans HE2.out
        have hl5 : w1.heap.size < w5.heap.size := lt_of_block h25
        have hl5n : ¬ w1.heap.size = w5.heap.size := by omega
        have g20 : w5.cell? ⟨w1.heap.size, 0, none⟩ = some (.int .i64 0) := by unfold World.cell?; rw [h25]; rfl
        have g21 : w5.cell? ⟨w1.heap.size, 1, none⟩ = some (.int .i64 0) := by unfold World.cell?; rw [h25]; rfl
        have HRC6 := Lib.hid (HRC.out.below HA6.out (Nat.le_refl _))
        have HRA6 := Lib.hid (HRA.out.below (HA2.out.trans (H26.out.mono HA2.out.size)) (Nat.le_refl _))
        have HRB6 := Lib.hid (HRB.out.below (HA4.out.trans (H46.out.mono HA4.out.size)) (Nat.le_refl _))
        have HQ1 := Lib.hid (rows_eq w6 _ _ R (HRC6.out.lo HPL.out) HRA6.out)
        have HQ2 := Lib.hid (fun W (hW : Below w6.heap.size w6 W) => rows_eq W _ _ Q ((HRC6.out.hi HPL.out).below hW (Nat.le_refl _)) (HRB6.out.below hW (Nat.le_refl _)))
        clear hw6 h25 hl2 h24
        go_wp2_with fail
        rw [HW6.out]
        refine HQ1.out.mono ?_
        rintro e w7 ⟨rfl, hb7⟩
        have HA7 := Lib.hid hb7
        clear hb7
        go_wp2_with fail
        refine (HQ2.out w7 HA7.out).mono ?_
        rintro e w8 ⟨rfl, hb8⟩
        have HA8 : Hid (Below w6.heap.size w6 w8) := Lib.hid (HA7.out.trans (hb8.mono HA7.out.size))
        have HB8 : Hid (Below w.heap.size w w8) := Lib.hid (HB6.out.trans (HA8.out.mono HB6.out.size))
        have H48 : Hid (Below w4.heap.size w4 w8) := Lib.hid (H46.out.trans (HA8.out.mono H46.out.size))
        have h48 : w8.heap[w3.heap.size]? = some (.cells #[.int .i64 0, .int .i64 0] 27 (0, 0)) := (H48.out.block _ hl4).trans HE4.out
        have h68 : w8.heap[w5.heap.size]? = some (.cells #[.int .i64 0, .int .i64 (0)] 27 (0, 0)) := (HA8.out.block _ hl6).trans HE6.out
        have g40 : w8.cell? ⟨w3.heap.size, 0, none⟩ = some (.int .i64 0) := by unfold World.cell?; rw [h48]; rfl
        have g41 : w8.cell? ⟨w3.heap.size, 1, none⟩ = some (.int .i64 0) := by unfold World.cell?; rw [h48]; rfl
        have g60 : w8.cell? ⟨w5.heap.size, 0, none⟩ = some (.int .i64 0) := by unfold World.cell?; rw [h68]; rfl
        have g61 : w8.cell? ⟨w5.heap.size, 1, none⟩ = some (.int .i64 (0)) := by unfold World.cell?; rw [h68]; rfl
        have hFB : faultB 0 0 0 0 = true := rfl
        clear hb8 h48 h68 hl4 hl6
        go_wp2_with fail
        refine (HLV.out w8 HB8.out).mono ?_
        rintro e w9 ⟨rfl, hb9⟩
        have HEND : Hid (Below w.heap.size w w9) := Lib.hid (HB8.out.trans (hb9.mono HB8.out.size))
        clear hb9
        go_wp2_with fail
        go_ret
        exact ⟨rfl, HEND.out⟩
      · rw [e1] at HRD1
        rw [e2] at HRD2
        rw [e3] at HRD3
        rw [e1] at hf1
        rw [e2] at hf2
        obtain ⟨p, hp⟩ : ∃ q, R.length = q := ⟨_, rfl⟩
        obtain ⟨q, hq⟩ : ∃ q, Q.length = q := ⟨_, rfl⟩
        obtain ⟨m, hm⟩ : ∃ m, (R ++ Q).length = m := ⟨_, rfl⟩
        have HM : Hid (m = p + q) := Lib.hid (by rw [← hm, List.length_append, hp, hq])
        simp only [hp, List.length_singleton] at hf1
        simp only [hq] at hf2
        have hp9 : (p : Int) ≤ 1002 := by omega
        have hq9 : (q : Int) ≤ 1001 := by omega
        have HPL := Lib.hid hp
        have HQL := Lib.hid hq
        have HML := Lib.hid hm
        rw [hq] at HRD2
        rw [hp, hq] at HRD3
        clear e1 e2 e3 hp hq hm
        go_enter Tryd.func6, Tryd.ntmps6
        go_wp2_with fail
        refine HRD1.out.mono ?_
        rintro e w1 ⟨av, rfl, hra, hb1⟩
        obtain ⟨VA, va, rfl, u1, u2⟩ := hra.form
        have HRA := Lib.hid hra
        have HB1 := Lib.hid hb1
        rw [HPL.out] at HRA u1 ⊢
        clear hra hb1 u1 u2
        obtain ⟨w2, hw2⟩ : ∃ W, w1.alloc (.cells #[.int .i64 0, .int .i64 0] 27) = W := ⟨_, rfl⟩
        have HE2 : Hid (w2.heap[w1.heap.size]? = some (.cells #[.int .i64 0, .int .i64 0] 27 (0, 0))) := Lib.hid (by rw [← hw2]; exact heap_alloc_new _ _)
        have HA2 : Hid (Below w1.heap.size w1 w2) := Lib.hid (by rw [← hw2]; exact below_new _ _)
        have HB2 : Hid (Below w.heap.size w w2) := Lib.hid (HB1.out.trans (HA2.out.mono HB1.out.size))
        have HW2 := Lib.hid hw2
        clear hw2
        go_wp2_with fail
        rw [HW2.out]
        refine (HRD2.out w2 HB2.out).mono ?_
        rintro e w3 ⟨bv, rfl, hrb, hb3⟩
        obtain ⟨VB, vb, rfl, y1, y2⟩ := hrb.form
        have HRB := Lib.hid hrb
        have HA3 := Lib.hid hb3
        rw [HQL.out] at HRB y1 ⊢
        clear hrb hb3 y1 y2
        obtain ⟨w4, hw4⟩ : ∃ W, w3.alloc (.cells #[.int .i64 17, .int .i64 (q : Int)] 27) = W := ⟨_, rfl⟩
        have HE4 : Hid (w4.heap[w3.heap.size]? = some (.cells #[.int .i64 17, .int .i64 (q : Int)] 27 (0, 0))) := Lib.hid (by rw [← hw4]; exact heap_alloc_new _ _)
        have HA4 : Hid (Below w3.heap.size w3 w4) := Lib.hid (by rw [← hw4]; exact below_new _ _)
        have H24 : Hid (Below w2.heap.size w2 w4) := Lib.hid (HA3.out.trans (HA4.out.mono HA3.out.size))
        have HB4 : Hid (Below w.heap.size w w4) := Lib.hid (HB2.out.trans (H24.out.mono HB2.out.size))
        have HW4 := Lib.hid hw4
        clear hw4
        go_wp2_with fail
        rw [HW4.out]
        refine (HRD3.out w4 HB4.out).mono ?_
        rintro e w5 ⟨cv, rfl, hrc, hb5⟩
        obtain ⟨VC, vc, rfl, x1, x2⟩ := hrc.form
        have HRC := Lib.hid hrc
        have HA5 := Lib.hid hb5
        rw [HML.out] at HRC x1 ⊢
        have hcut1 : (p : Int) ≤ (vc : Int) := by have := HM.out; omega
        have hcut2 : (p : Int) ≤ (m : Int) := by have := HM.out; omega
        have hmm : ((m : Int) != (p : Int) + (q : Int)) = false := by have := HM.out; simp; omega
        clear hrc hb5 x1 x2
        obtain ⟨w6, hw6⟩ : ∃ W, w5.alloc (.cells #[.int .i64 17, .int .i64 ((q : Int) + (p : Int))] 27) = W := ⟨_, rfl⟩
        have HE6 : Hid (w6.heap[w5.heap.size]? = some (.cells #[.int .i64 17, .int .i64 ((q : Int) + (p : Int))] 27 (0, 0))) := Lib.hid (by rw [← hw6]; exact heap_alloc_new _ _)
        have HA6 : Hid (Below w5.heap.size w5 w6) := Lib.hid (by rw [← hw6]; exact below_new _ _)
        have H46 : Hid (Below w4.heap.size w4 w6) := Lib.hid (HA5.out.trans (HA6.out.mono HA5.out.size))
        have H26 : Hid (Below w2.heap.size w2 w6) := Lib.hid (H24.out.trans (H46.out.mono H24.out.size))
        have HB6 : Hid (Below w.heap.size w w6) := Lib.hid (HB2.out.trans (H26.out.mono HB2.out.size))
        have HW6 := Lib.hid hw6
        have hl2 : w1.heap.size < w2.heap.size := lt_of_block HE2.out
        have hl4 : w3.heap.size < w4.heap.size := lt_of_block HE4.out
        have h24 := H24.out.size
        have hl6 : w5.heap.size < w6.heap.size := lt_of_block HE6.out
        have H25 : Hid (Below w2.heap.size w2 w5) := Lib.hid (H24.out.trans (HA5.out.mono H24.out.size))
        have h25 : w5.heap[w1.heap.size]? = some (.cells #[.int .i64 0, .int .i64 0] 27 (0, 0)) := (H25.out.block _ hl2).trans HE2.out
        have hl5 : w1.heap.size < w5.heap.size := lt_of_block h25
        have hl5n : ¬ w1.heap.size = w5.heap.size := by omega
        have g20 : w5.cell? ⟨w1.heap.size, 0, none⟩ = some (.int .i64 0) := by unfold World.cell?; rw [h25]; rfl
        have g21 : w5.cell? ⟨w1.heap.size, 1, none⟩ = some (.int .i64 0) := by unfold World.cell?; rw [h25]; rfl
        have HRC6 := Lib.hid (HRC.out.below HA6.out (Nat.le_refl _))
        have HRA6 := Lib.hid (HRA.out.below (HA2.out.trans (H26.out.mono HA2.out.size)) (Nat.le_refl _))
        have HRB6 := Lib.hid (HRB.out.below (HA4.out.trans (H46.out.mono HA4.out.size)) (Nat.le_refl _))
        have HQ1 := Lib.hid (rows_eq w6 _ _ R (HRC6.out.lo HPL.out) HRA6.out)
        have HQ2 := Lib.hid (fun W (hW : Below w6.heap.size w6 W) => rows_eq W _ _ Q ((HRC6.out.hi HPL.out).below hW (Nat.le_refl _)) (HRB6.out.below hW (Nat.le_refl _)))
        clear hw6 h25 hl2 h24
        go_wp2_with fail
        rw [HW6.out]
        refine HQ1.out.mono ?_
        rintro e w7 ⟨rfl, hb7⟩
        have HA7 := Lib.hid hb7
        clear hb7
        go_wp2_with fail
        refine (HQ2.out w7 HA7.out).mono ?_
        rintro e w8 ⟨rfl, hb8⟩
        have HA8 : Hid (Below w6.heap.size w6 w8) := Lib.hid (HA7.out.trans (hb8.mono HA7.out.size))
        have HB8 : Hid (Below w.heap.size w w8) := Lib.hid (HB6.out.trans (HA8.out.mono HB6.out.size))
        have H48 : Hid (Below w4.heap.size w4 w8) := Lib.hid (H46.out.trans (HA8.out.mono H46.out.size))
        have h48 : w8.heap[w3.heap.size]? = some (.cells #[.int .i64 17, .int .i64 (q : Int)] 27 (0, 0)) := (H48.out.block _ hl4).trans HE4.out
        have h68 : w8.heap[w5.heap.size]? = some (.cells #[.int .i64 17, .int .i64 ((q : Int) + (p : Int))] 27 (0, 0)) := (HA8.out.block _ hl6).trans HE6.out
        have g40 : w8.cell? ⟨w3.heap.size, 0, none⟩ = some (.int .i64 17) := by unfold World.cell?; rw [h48]; rfl
        have g41 : w8.cell? ⟨w3.heap.size, 1, none⟩ = some (.int .i64 (q : Int)) := by unfold World.cell?; rw [h48]; rfl
        have g60 : w8.cell? ⟨w5.heap.size, 0, none⟩ = some (.int .i64 17) := by unfold World.cell?; rw [h68]; rfl
        have g61 : w8.cell? ⟨w5.heap.size, 1, none⟩ = some (.int .i64 ((q : Int) + (p : Int))) := by unfold World.cell?; rw [h68]; rfl
        have hFB : faultB 17 17 ((q : Int) + (p : Int)) ((q : Int) + (p : Int)) = true := faultB_self _ _
        clear hb8 h48 h68 hl4 hl6
        go_wp2_with fail
        refine (HLV.out w8 HB8.out).mono ?_
        rintro e w9 ⟨rfl, hb9⟩
        have HEND : Hid (Below w.heap.size w w9) := Lib.hid (HB8.out.trans (hb9.mono HB8.out.size))
        clear hb9
        go_wp2_with fail
        go_ret
        exact ⟨rfl, HEND.out⟩
end Go.Proofs.YtgngdkbcndldfaaDoor.frameLines
