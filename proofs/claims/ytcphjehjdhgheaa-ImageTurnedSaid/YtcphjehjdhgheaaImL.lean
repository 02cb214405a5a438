/- The answers that the document gives of images, as the law states them. Conditions: none. -/
import Derived.Test.YtcphjehjdhgheaaImL0
import Derived.Test.YtcphjehjdhgheaaImY
import Derived.Deep.RegionHeld3
namespace Go.Proofs.Ytcphjehjdhgheaa.Nt
open Go.ChangeShapes Go.WideShapes Go.ChangeAt Go.RowKit Go.Proofs.Ytcphjehjdhgheaa.Tr
set_option linter.unusedVariables false
set_option linter.unusedSimpArgs false

abbrev imgB : ByteArray := ⟨#[66, 65, 73, 76, 1, 0, 1, 2, 2, 3, 0, 0, 1, 0, 215, 4, 1, 0]⟩
abbrev zerB : ByteArray := ⟨#[66, 65, 73, 76, 0, 0, 0, 0, 0]⟩
theorem mown_lit (w : World) (A : Option Addr) (c : Nat) (ov pv : Value) (C : Cod) (li : Nat) (rg sl : Int) (lo lq : Nat) (hz : Sz C li rg sl lo lq) (h : CodR w (.slice A li c) ov pv C) (hn3 : li ≤ 1000) :
    Calls Try.prog 34 #[.agg #[.slice A li c, .int .i64 rg, .int .i64 sl, ov, pv]] w (fun e w' => ∃ A' c', e = .returned (.agg #[.slice A' li c', .int .i64 rg, .int .i64 sl, ov, pv]) ∧ CodR w' (.slice A' li c') ov pv C ∧ Below w.heap.size w w') := by
  obtain ⟨rfl, rfl, rfl, rfl, rfl⟩ := hz
  refine (mown_any w _ _ _ C h hn3).mono ?_
  rintro e w' ⟨iv', rfl, hi, hb⟩
  obtain ⟨A', c', rfl, -, -⟩ := hi.form
  exact ⟨A', c', rfl, ⟨hi, h.2.1.below hb (Nat.le_refl _), h.2.2.below hb (Nat.le_refl _)⟩, hb⟩
theorem dec_lit (s : List UInt8) (D : Cod) (f : Int) (hd : decM s = (D, f)) (hl : s.length ≤ 900000) (li : Nat) (rg sl : Int) (lo lq : Nat) (hz : Sz D li rg sl lo lq) (w : World) :
    Calls Try.prog 44 #[.string (bs s)] w (fun e w' => ∃ A c B d E g, e = .returned (.tuple #[.agg #[.slice A li c, .int .i64 rg, .int .i64 sl, .slice B lo d, .slice E lq g], .int .i64 f]) ∧ CodR w' (.slice A li c) (.slice B lo d) (.slice E lq g) D ∧ Below w.heap.size w w') := by
  refine (idec_any s w hl).mono ?_
  rintro e w' ⟨iv, ov, pv, rfl, hc, hb⟩
  rw [hd] at hc ⊢
  dsimp only at hc ⊢
  obtain ⟨A, c, rfl, -, -⟩ := hc.1.form
  obtain ⟨B, d, rfl, -, -⟩ := ints_form hc.2.1
  obtain ⟨E, g, rfl, -, -⟩ := ints_form hc.2.2
  obtain ⟨rfl, rfl, rfl, rfl, rfl⟩ := hz
  exact ⟨A, c, B, d, E, g, rfl, hc, hb⟩
theorem enc_lit (w : World) (iv ov pv : Value) (C : Cod) (li : Nat) (rg sl : Int) (lo lq : Nat) (hz : Sz C li rg sl lo lq) (h : CodR w iv ov pv C) (hw : CodW C) (h1 : lq ≤ 1000000) (h2 : lo ≤ 1000000) (S : ByteArray) (hS : bs (encM C) = S) (F : Int) (hF : encF C = F) :
    Calls Try.prog 41 #[.agg #[iv, .int .i64 rg, .int .i64 sl, ov, pv]] w (fun e w' => e = .returned (.tuple #[.string S, .int .i64 F]) ∧ Below w.heap.size w w') := by
  obtain ⟨rfl, rfl, rfl, rfl, rfl⟩ := hz
  subst hS hF
  exact ienc_any w iv ov pv C h hw h1 h2
theorem world1 (w W : World) (hW : W = (((w.alloc (.cells #[.int .i64 2] 3)).alloc (.cells #[.int .i64 0] 3)).alloc (.cells #[.int .i64 3, .int .i64 0, .int .i64 0, .int .i64 0, .int .i64 0, .int .i64 0, .int .i64 1, .int .i64 0, .int .i64 0, .int .i64 0, .int .i64 0, .int .i64 (-300)] 109)).alloc (.cells #[.slice (some ⟨w.heap.size + 1 + 1, 0, none⟩) 2 2, .int .i64 1, .int .i64 0, .slice (some ⟨w.heap.size + 1, 0, none⟩) 1 1, .slice (some ⟨w.heap.size, 0, none⟩) 1 1] 59)) :
    Below w.heap.size w W ∧ CodR W (.slice (some ⟨w.heap.size + 1 + 1, 0, none⟩) 2 2) (.slice (some ⟨w.heap.size + 1, 0, none⟩) 1 1) (.slice (some ⟨w.heap.size, 0, none⟩) 1 1) L1 ∧ CodBox W (w.heap.size + 1 + 1 + 1) 59 (.slice (some ⟨w.heap.size + 1 + 1, 0, none⟩) 2 2) 1 0 (.slice (some ⟨w.heap.size + 1, 0, none⟩) 1 1) (.slice (some ⟨w.heap.size, 0, none⟩) 1 1) := by
  obtain ⟨w1, h1⟩ : ∃ V, w.alloc (.cells #[.int .i64 2] 3) = V := ⟨_, rfl⟩
  obtain ⟨w2, h2⟩ : ∃ V, w1.alloc (.cells #[.int .i64 0] 3) = V := ⟨_, rfl⟩
  obtain ⟨w3, h3⟩ : ∃ V, w2.alloc (.cells #[.int .i64 3, .int .i64 0, .int .i64 0, .int .i64 0, .int .i64 0, .int .i64 0, .int .i64 1, .int .i64 0, .int .i64 0, .int .i64 0, .int .i64 0, .int .i64 (-300)] 109) = V := ⟨_, rfl⟩
  rw [h1, h2, h3] at hW
  have s1 : w1.heap.size = w.heap.size + 1 := by rw [← h1]; simp
  have s2 : w2.heap.size = w.heap.size + 1 + 1 := by rw [← h2]; simp [s1]
  have s3 : w3.heap.size = w.heap.size + 1 + 1 + 1 := by rw [← h3]; simp [s2]
  have b1 : Below w.heap.size w w1 := by rw [← h1]; exact below_new _ _
  have b2 : Below w1.heap.size w1 w2 := by rw [← h2]; exact below_new _ _
  have b3 : Below w2.heap.size w2 w3 := by rw [← h3]; exact below_new _ _
  have b4 : Below w3.heap.size w3 W := by rw [hW]; exact below_new _ _
  have k1 : w1.heap[w.heap.size]? = some (.cells #[.int .i64 2] 3 (0, 0)) := by rw [← h1]; exact heap_alloc_new _ _
  have k2 : w2.heap[w.heap.size + 1]? = some (.cells #[.int .i64 0] 3 (0, 0)) := by rw [← h2, ← s1]; exact heap_alloc_new _ _
  have k3 : w3.heap[w.heap.size + 1 + 1]? = some (.cells #[.int .i64 3, .int .i64 0, .int .i64 0, .int .i64 0, .int .i64 0, .int .i64 0, .int .i64 1, .int .i64 0, .int .i64 0, .int .i64 0, .int .i64 0, .int .i64 (-300)] 109 (0, 0)) := by rw [← h3, ← s2]; exact heap_alloc_new _ _
  have k4 : W.heap[w.heap.size + 1 + 1 + 1]? = some (.cells #[.slice (some ⟨w.heap.size + 1 + 1, 0, none⟩) 2 2, .int .i64 1, .int .i64 0, .slice (some ⟨w.heap.size + 1, 0, none⟩) 1 1, .slice (some ⟨w.heap.size, 0, none⟩) 1 1] 59 (0, 0)) := by rw [hW, ← s3]; exact heap_alloc_new _ _
  refine ⟨((b1.trans (b2.mono b1.size)).trans (b3.mono (by omega))).trans (b4.mono (by omega)), ⟨?_, ?_, ?_⟩, ⟨k4⟩⟩
  · exact ins_litb (l := L1.ins) rfl (by decide) ((b4.block _ (by omega)).trans k3)
  · exact ints_litb (w := w) (l := [0]) ((b4.block _ (by omega)).trans ((b3.block _ (by omega)).trans k2)) (by decide)
  · exact ints_litb (w := w) (l := [2]) ((b4.block _ (by omega)).trans ((b3.block _ (by omega)).trans ((b2.block _ (by omega)).trans k1))) (by decide)
set_option maxRecDepth 100000 in
set_option maxHeartbeats 16000000 in
theorem live7_any (w : World) : Calls Try.prog 40 #[] w (fun e w' => e = .returned (.bool true) ∧ Below w.heap.size w w') := by
  have HWD := Lib.hid (world1 w)
  go_enter Try.func40, Try.ntmps40
  go_wp2_with fail
  obtain ⟨hb1, hc1, hx1⟩ := HWD.out _ rfl
  obtain ⟨W1, hW1⟩ : ∃ W, (((w.alloc (.cells #[.int .i64 2] 3)).alloc (.cells #[.int .i64 0] 3)).alloc (.cells #[.int .i64 3, .int .i64 0, .int .i64 0, .int .i64 0, .int .i64 0, .int .i64 0, .int .i64 1, .int .i64 0, .int .i64 0, .int .i64 0, .int .i64 0, .int .i64 (-300)] 109)).alloc (.cells #[.slice (some ⟨w.heap.size + 1 + 1, 0, none⟩) 2 2, .int .i64 1, .int .i64 0, .slice (some ⟨w.heap.size + 1, 0, none⟩) 1 1, .slice (some ⟨w.heap.size, 0, none⟩) 1 1] 59) = W := ⟨_, rfl⟩
  rw [hW1] at hb1 hc1 hx1 ⊢
  obtain ⟨q, hq⟩ : ∃ q, w.heap.size + 1 + 1 + 1 = q := ⟨_, rfl⟩
  obtain ⟨A, hA⟩ : ∃ A, (some ⟨w.heap.size + 1 + 1, 0, none⟩ : Option Addr) = A := ⟨_, rfl⟩
  obtain ⟨B, hB⟩ : ∃ A, (some ⟨w.heap.size + 1, 0, none⟩ : Option Addr) = A := ⟨_, rfl⟩
  obtain ⟨D, hD⟩ : ∃ A, (some ⟨w.heap.size, 0, none⟩ : Option Addr) = A := ⟨_, rfl⟩
  rw [hA, hB, hD] at hc1 hx1
  rw [hq] at hx1
  rw [hA, hB, hD, hq]
  have HB1 := Lib.hid hb1
  have HC1 := Lib.hid hc1
  have HX1 := Lib.hid hx1
  obtain ⟨S, hS⟩ : ∃ S, imgB = S := ⟨_, rfl⟩
  have HS := Lib.hid hS
  have HI : Hid (bs imgL = S) := Lib.hid (by rw [← hS]; rfl)
  have hsz : S.size = 18 := by rw [← hS]; rfl
  have hcut : S.extract 0 17 = bs cutL := by rw [← hS]; rfl
  have HE1 := Lib.hid (enc_lit W1 _ _ _ L1 2 1 0 1 1 ⟨rfl, rfl, rfl, rfl, rfl⟩ hc1 l1_w (by decide) (by decide) S (by rw [l1_m]; exact HI.out) 0 l1_f)
  clear hW1 hb1 hc1 hx1 hq hA hB hD hS HWD
  refine HE1.out.mono ?_
  rintro e w2 ⟨rfl, hb2⟩
  have HB2 : Hid (Below W1.heap.size W1 w2) := Lib.hid hb2
  clear hb2 HE1
  go_wp2_with fail
  rw [← HI.out]
  refine (dec_lit imgL L1 0 l1_d (by decide) 2 1 0 1 1 ⟨rfl, rfl, rfl, rfl, rfl⟩ w2).mono ?_
  rintro e w3 ⟨dA, dc, dB, dd, dE, dg, rfl, hd3, hb3⟩
  obtain ⟨p, hp⟩ : ∃ p, w3.heap.size = p := ⟨_, rfl⟩
  rw [HI.out]
  have HD3 := Lib.hid hd3
  have HB3 : Hid (Below W1.heap.size W1 w3) := Lib.hid (HB2.out.trans (hb3.mono HB2.out.size))
  obtain ⟨w4, hw4⟩ : ∃ W, w3.alloc (.cells #[.slice dA 2 dc, .int .i64 1, .int .i64 0, .slice dB 1 dd, .slice dE 1 dg] 59) = W := ⟨_, rfl⟩
  have HB4 : Hid (Below W1.heap.size W1 w4) := Lib.hid (HB3.out.trans (by rw [← hw4]; exact (below_new w3 _).mono HB3.out.size))
  have HX4 : Hid (CodBox w4 p 59 (.slice dA 2 dc) 1 0 (.slice dB 1 dd) (.slice dE 1 dg)) := Lib.hid (by rw [← hw4, ← hp]; exact codbox_new _ _ _ _ _ _ _)
  have HD4 : Hid (CodR w4 (.slice dA 2 dc) (.slice dB 1 dd) (.slice dE 1 dg) L1) := Lib.hid (by rw [← hw4]; exact hd3.below (below_new w3 _) (Nat.le_refl _))
  clear hd3 hb3
  go_wp2_with fail
  rw [show (max (17 : Int) 0).toNat = 17 from rfl, hcut]
  have HW4 := Lib.hid hw4
  clear hw4 hp hsz hcut
  refine (dec_lit cutL emptyC 16 cut_d (by decide) 0 0 0 0 0 ⟨rfl, rfl, rfl, rfl, rfl⟩ w4).mono ?_
  rintro e w5 ⟨eA, ec, eB, ed, eE, eg, rfl, -, hb5⟩
  have HB5 : Hid (Below W1.heap.size W1 w5) := Lib.hid (HB4.out.trans (hb5.mono HB4.out.size))
  have H45 : Hid (Below w4.heap.size w4 w5) := Lib.hid hb5
  obtain ⟨w6, hw6⟩ : ∃ W, w5.alloc (.cells #[.slice eA 0 ec, .int .i64 0, .int .i64 0, .slice eB 0 ed, .slice eE 0 eg] 59) = W := ⟨_, rfl⟩
  have H56 : Hid (Below w5.heap.size w5 w6) := Lib.hid (by rw [← hw6]; exact below_new _ _)
  have H46 : Hid (Below w4.heap.size w4 w6) := Lib.hid (H45.out.trans (H56.out.mono H45.out.size))
  clear hb5
  go_wp2_with fail
  clear hw6
  have HBAD : Hid (∀ W, Calls Try.prog 44 #[.string ⟨#[66, 65, 73, 88]⟩] W (fun e w' => ∃ A c B d E g, e = .returned (.tuple #[.agg #[.slice A 0 c, .int .i64 0, .int .i64 0, .slice B 0 d, .slice E 0 g], .int .i64 15]) ∧ CodR w' (.slice A 0 c) (.slice B 0 d) (.slice E 0 g) emptyC ∧ Below W.heap.size W w')) := Lib.hid (fun W => dec_lit badL emptyC 15 bad_d (by decide) 0 0 0 0 0 ⟨rfl, rfl, rfl, rfl, rfl⟩ W)
  refine (HBAD.out w6).mono ?_
  rintro e w7 ⟨fA, fc, fB, fd, fE, fg, rfl, -, hb7⟩
  have H47 : Hid (Below w4.heap.size w4 w7) := Lib.hid (H46.out.trans (hb7.mono H46.out.size))
  obtain ⟨w8, hw8⟩ : ∃ W, w7.alloc (.cells #[.slice fA 0 fc, .int .i64 0, .int .i64 0, .slice fB 0 fd, .slice fE 0 fg] 59) = W := ⟨_, rfl⟩
  have H48 : Hid (Below w4.heap.size w4 w8) := Lib.hid (H47.out.trans (by rw [← hw8]; exact (below_new w7 _).mono H47.out.size))
  clear hb7
  go_wp2_with fail
  clear hw8
  refine (enc_lit w8 nilW nilW nilW emptyC 0 0 0 0 0 ⟨rfl, rfl, rfl, rfl, rfl⟩ (cod_nilW w8) l0_w (by decide) (by decide) zerB (by rw [l0_m]; rfl) 0 l0_f).mono ?_
  rintro e w9 ⟨rfl, hb9⟩
  have H49 : Hid (Below w4.heap.size w4 w9) := Lib.hid (H48.out.trans (hb9.mono H48.out.size))
  clear hb9
  go_wp2_with fail
  obtain ⟨wa, hwa⟩ : ∃ W, w9.alloc (.cells #[.int .i64 0] 3) = W := ⟨_, rfl⟩
  have H4a : Hid (Below w4.heap.size w4 wa) := Lib.hid (H49.out.trans (by rw [← hwa]; exact (below_new w9 _).mono H49.out.size))
  have HRa : Hid (CodR wa nilW (.slice (some ⟨w9.heap.size, 0, none⟩) 1 1) nilW ⟨[], 0, 0, [0], []⟩) := Lib.hid ⟨ins_nil _, by rw [← hwa]; exact ints_litb (w := w) (l := [0]) (heap_alloc_new w9 (.cells #[.int .i64 0] 3)) (by decide), ints_nil _⟩
  rw [hwa]
  clear hwa
  refine (enc_lit wa _ _ _ ⟨[], 0, 0, [0], []⟩ 0 0 0 1 0 ⟨rfl, rfl, rfl, rfl, rfl⟩ HRa.out l3_w (by decide) (by decide) ⟨#[]⟩ (by rw [l3_m]; rfl) 1 l3_f).mono ?_
  rintro e wb ⟨rfl, hbb⟩
  have H4b : Hid (Below w4.heap.size w4 wb) := Lib.hid (H4a.out.trans (hbb.mono H4a.out.size))
  have HXB : Hid (CodBox wb p 59 (.slice dA 2 dc) 1 0 (.slice dB 1 dd) (.slice dE 1 dg)) := Lib.hid (HX4.out.below H4b.out HX4.out.lt)
  have HDB : Hid (CodR wb (.slice dA 2 dc) (.slice dB 1 dd) (.slice dE 1 dg) L1) := Lib.hid (HD4.out.below H4b.out (Nat.le_refl _))
  have HBB : Hid (Below W1.heap.size W1 wb) := Lib.hid (HB4.out.trans (H4b.out.mono HB4.out.size))
  have HXA : Hid (CodBox wb q 59 (.slice A 2 2) 1 0 (.slice B 1 1) (.slice D 1 1)) := Lib.hid (HX1.out.below HBB.out HX1.out.lt)
  have HCA : Hid (CodR wb (.slice A 2 2) (.slice B 1 1) (.slice D 1 1) L1) := Lib.hid (HC1.out.below HBB.out (Nat.le_refl _))
  clear hbb
  go_wp2_with fail
  have HS2 := HS.out
  subst HS2
  have HTL : Hid (∀ V A' c' ov pv, CodR V (.slice A' 2 c') ov pv L1 → Calls Try.prog 38 #[.agg #[.slice A' 2 c', .int .i64 1, .int .i64 0, ov, pv]] V (fun e w' => ∃ A2 c2, e = .returned (.agg #[.slice A2 2 c2, .int .i64 1, .int .i64 0, ov, pv]) ∧ CodR w' (.slice A2 2 c2) ov pv L1 ∧ Below V.heap.size V w')) := Lib.hid (fun V A' c' ov pv h => mtold_lit V A' c' ov pv L1 2 1 0 1 1 ⟨rfl, rfl, rfl, rfl, rfl⟩ h (by decide))
  have HSM : Hid (∀ V (iv ov pv iu ou pu : Value), CodR V iv ov pv L1 → CodR V iu ou pu L1 → Calls Try.prog 43 #[.agg #[iv, .int .i64 1, .int .i64 0, ov, pv], .agg #[iu, .int .i64 1, .int .i64 0, ou, pu]] V (fun e w' => e = .returned (.bool true) ∧ Below V.heap.size V w')) := Lib.hid (fun V iv ov pv iu ou pu h k => by
    have := ksame_any V iv ov pv iu ou pu L1 L1 h k
    rw [same_eq.2 rfl] at this
    exact this)
  have HKS : Hid (∀ V, Below wb.heap.size wb V → (V.cell? ⟨p, 0, none⟩ = some (.slice dA 2 dc) ∧ V.cell? ⟨p, 1, none⟩ = some (.int .i64 1) ∧ V.cell? ⟨p, 2, none⟩ = some (.int .i64 0) ∧ V.cell? ⟨p, 3, none⟩ = some (.slice dB 1 dd) ∧ V.cell? ⟨p, 4, none⟩ = some (.slice dE 1 dg)) ∧ (V.cell? ⟨q, 0, none⟩ = some (.slice A 2 2) ∧ V.cell? ⟨q, 1, none⟩ = some (.int .i64 1) ∧ V.cell? ⟨q, 2, none⟩ = some (.int .i64 0) ∧ V.cell? ⟨q, 3, none⟩ = some (.slice B 1 1) ∧ V.cell? ⟨q, 4, none⟩ = some (.slice D 1 1))) := Lib.hid (fun V hV => ⟨(HXB.out.below hV HXB.out.lt).ats, (HXA.out.below hV HXA.out.lt).ats⟩)
  have HKR : Hid (∀ V, Below wb.heap.size wb V → CodR V (.slice dA 2 dc) (.slice dB 1 dd) (.slice dE 1 dg) L1 ∧ CodR V (.slice A 2 2) (.slice B 1 1) (.slice D 1 1) L1) := Lib.hid (fun V hV => ⟨HDB.out.below hV (Nat.le_refl _), HCA.out.below hV (Nat.le_refl _)⟩)
  have HBcur : Hid (Below wb.heap.size wb wb.drew) := Lib.hid (Below.refl wb.heap.size wb).drew
  have HB00 : Hid (Below wb.heap.size wb wb) := Lib.hid (Below.refl _ _)
  go_region_held3 (fun V => (V.cell? ⟨p, 0, none⟩ = some (.slice dA 2 dc) ∧ V.cell? ⟨p, 1, none⟩ = some (.int .i64 1) ∧ V.cell? ⟨p, 2, none⟩ = some (.int .i64 0) ∧ V.cell? ⟨p, 3, none⟩ = some (.slice dB 1 dd) ∧ V.cell? ⟨p, 4, none⟩ = some (.slice dE 1 dg)) ∧ (V.cell? ⟨q, 0, none⟩ = some (.slice A 2 2) ∧ V.cell? ⟨q, 1, none⟩ = some (.int .i64 1) ∧ V.cell? ⟨q, 2, none⟩ = some (.int .i64 0) ∧ V.cell? ⟨q, 3, none⟩ = some (.slice B 1 1) ∧ V.cell? ⟨q, 4, none⟩ = some (.slice D 1 1)))
    (first | exact HKS.out _ HBcur.out | exact HKS.out _ HB00.out)
    (first
      | (go_at_call 43; with_reducible refine (HSM.out _ _ _ _ _ _ _ HTA.out HTB.out).mono ?_; rintro e z3 ⟨rfl, hbz⟩; have HBcur := Lib.hid (HBcur.out.trans (hbz.mono HBcur.out.size)); clear hbz)
      | (go_at_call 38; with_reducible refine (HTL.out _ dA dc _ _ (HKR.out _ HBcur.out).1).mono ?_; rintro e z1 ⟨A1, c1, rfl, hr1, hbz⟩; have HTA := Lib.hid hr1; (try have HTB := Lib.hid (HTB.out.below hbz (Nat.le_refl _))); have HBcur := Lib.hid (HBcur.out.trans (hbz.mono HBcur.out.size)); clear hbz hr1)
      | (go_at_call 38; with_reducible refine (HTL.out _ A 2 _ _ (HKR.out _ HBcur.out).2).mono ?_; rintro e z2 ⟨A2, c2, rfl, hr2, hbz⟩; have HTB := Lib.hid hr2; (try have HTA := Lib.hid (HTA.out.below hbz (Nat.le_refl _))); have HBcur := Lib.hid (HBcur.out.trans (hbz.mono HBcur.out.size)); clear hbz hr2))
  all_goals
    go_wp2_with fail
    go_ret
    exact ⟨rfl, HB1.out.trans ((HBB.out.trans (HBcur.out.mono HBB.out.size)).mono HB1.out.size)⟩
end Go.Proofs.Ytcphjehjdhgheaa.Nt
