/- Layer image: Decode. Conditions: a string of at most nine hundred thousand bytes. -/
import Derived.Test.YtcphjehjdhgheaaImV
import Derived.Test.YtcphjehjdhgheaaImD
import Derived.Shelf.Small.Wraps
import Derived.Shelf.Strings.Prefix
import Derived.Lib.Slices
namespace Go.Proofs.Ytcphjehjdhgheaa.Nt
open Go.Shelf Go.ChangeShapes Go.WideShapes Go.ChangeAt Go.RowKit Go.Proofs.Ytcphjehjdhgheaa.Tr
set_option linter.unusedVariables false
set_option linter.unusedSimpArgs false

def lays103_ren : Go.Shelf.Ren := ⟨fun | 103 => 86 | 210 => 117 | 206 => 118 | n => n, fun | 9 => 9 | 4 => 4 | 24 => 145 | 3 => 3 | n => n, fun | n => n⟩
theorem lays103 : Go.Proofs.Lays.n103 Try.prog lays103_ren := {
  mixed := by kernel_rfl
  f103 := Try.func86.trans (congrArg some (by kernel_rfl))
  f206 := Try.func118.trans (congrArg some (by kernel_rfl))
  f210 := Try.func117.trans (congrArg some (by kernel_rfl))
  t3 := Try.underlying3
  a3 := Try.isAgg3
  z3 := Try.sizeOf3
  v3 := Try.zeroValue3
  t4 := Try.underlying4
  a4 := Try.isAgg4
  z4 := Try.sizeOf4
  v4 := Try.zeroValue4
  t9 := Try.underlying9
  a9 := Try.isAgg9
  z9 := Try.sizeOf9
  v9 := Try.zeroValue9
  t24 := Try.underlying145
  a24 := Try.isAgg145
  z24 := Try.sizeOf145
  v24 := Try.zeroValue145 }
def lays99_ren : Go.Shelf.Ren := ⟨fun | 99 => 87 | 206 => 118 | n => n, fun | 9 => 9 | 4 => 4 | 3 => 3 | n => n, fun | n => n⟩
theorem lays99 : Go.Proofs.Lays.n99 Try.prog lays99_ren := {
  mixed := by kernel_rfl
  f99 := Try.func87.trans (congrArg some (by kernel_rfl))
  f206 := Try.func118.trans (congrArg some (by kernel_rfl))
  t3 := Try.underlying3
  a3 := Try.isAgg3
  z3 := Try.sizeOf3
  v3 := Try.zeroValue3
  t4 := Try.underlying4
  a4 := Try.isAgg4
  z4 := Try.sizeOf4
  v4 := Try.zeroValue4
  t9 := Try.underlying9
  a9 := Try.isAgg9
  z9 := Try.sizeOf9
  v9 := Try.zeroValue9 }
theorem bs_data (l : List UInt8) : (bs l).data.toList = l := by simp [bs]
theorem tcut_any (s : List UInt8) (w : World) : Calls Try.prog 86 #[.string (bs s), .string ⟨#[66, 65, 73, 76]⟩] w fun e w' => e = .returned (.tuple #[.string (bs (Lib.trimPrefix s bail)), .bool (Lib.hasPrefix s bail)]) ∧ w' = w := by
  have h := Any.strings_CutPrefix lays103 (bs s) (bs bail) w
  rw [bs_data, bs_data] at h
  exact h
theorem thas_any (s : List UInt8) (w : World) : Calls Try.prog 87 #[.string ⟨#[66, 65, 73, 76]⟩, .string (bs s)] w fun e w' => e = .returned (.bool (Lib.hasPrefix bail s)) ∧ w' = w := by
  have h := Any.strings_HasPrefix lays99 (bs bail) (bs s) w
  rw [bs_data, bs_data] at h
  exact h
def DecPost (w : World) (s : List UInt8) (e : Ending) (w' : World) : Prop := ∃ iv ov pv, e = .returned (.tuple #[.agg #[iv, .int .i64 (decM s).1.regs, .int .i64 (decM s).1.slots, ov, pv], .int .i64 (decM s).2]) ∧ CodR w' iv ov pv (decM s).1 ∧ Below w.heap.size w w'
theorem dec_cut {s : List UInt8} {f : Int} (h : Lib.hasPrefix s bail = false) (hf : (if Lib.hasPrefix bail s = true then (16 : Int) else 15) = f) : decM s = (emptyC, f) := by unfold decM; rw [if_pos h, hf]
theorem trim_len (s p : List UInt8) : (Lib.trimPrefix s p).length ≤ s.length := by
  unfold Lib.trimPrefix
  split
  · rw [List.length_drop]; omega
  · exact Nat.le_refl _
theorem bs_ne (l m : List UInt8) : (decide (bs l = bs m)) = decide (l = m) := by
  by_cases h : l = m
  · subst h; simp
  · have : ¬ bs l = bs m := fun e => h (by unfold bs at e; simpa using e)
    simp [h, this]
theorem below_set5 {B b : Nat} {w W : World} (h : Below B w W) (hb : B ≤ b) (v0 v1 v2 v3 v4 : Value) : Below B w (set5 W b v0 v1 v2 v3 v4) := by
  have h0 := h.setCell (p := ⟨b, 0, none⟩) hb v0
  have h1 := h0.setCell (p := ⟨b, 1, none⟩) hb v1
  have h2 := h1.setCell (p := ⟨b, 2, none⟩) hb v2
  have h3 := h2.setCell (p := ⟨b, 3, none⟩) hb v3
  exact h3.setCell (p := ⟨b, 4, none⟩) hb v4
set_option maxRecDepth 100000 in
set_option maxHeartbeats 8000000 in
theorem idec_any (s : List UInt8) (w : World) (hl9 : s.length ≤ 900000) : Calls Try.prog 44 #[.string (bs s)] w (DecPost w s) := by
  obtain ⟨w0, hw0⟩ : ∃ W, w.alloc (.cells #[nilW, .int .i64 0, .int .i64 0, nilW, nilW] 59) = W := ⟨_, rfl⟩
  have HB0 : Hid (Below w.heap.size w w0) := Lib.hid (by rw [← hw0]; exact below_new _ _)
  have HZ0 : Hid (CodBox w0 w.heap.size 59 nilW 0 0 nilW nilW) := Lib.hid (by rw [← hw0]; exact codbox_new _ _ _ _ _ _ _)
  have HW0 := Lib.hid hw0
  have HCU : Hid (∀ W, Calls Try.prog 86 #[.string (bs s), .string ⟨#[66, 65, 73, 76]⟩] W fun e w' => e = .returned (.tuple #[.string (bs (Lib.trimPrefix s bail)), .bool (Lib.hasPrefix s bail)]) ∧ w' = W) := Lib.hid (tcut_any s)
  have HHA : Hid (∀ W, Calls Try.prog 87 #[.string ⟨#[66, 65, 73, 76]⟩, .string (bs s)] W fun e w' => e = .returned (.bool (Lib.hasPrefix bail s)) ∧ w' = W) := Lib.hid (thas_any s)
  obtain ⟨hp, hhp⟩ : ∃ b, Lib.hasPrefix s bail = b := ⟨_, rfl⟩
  obtain ⟨hq, hhq⟩ : ∃ b, Lib.hasPrefix bail s = b := ⟨_, rfl⟩
  obtain ⟨r, hr⟩ : ∃ r, Lib.trimPrefix s bail = r := ⟨_, rfl⟩
  have HHP := Lib.hid hhp
  have HHQ := Lib.hid hhq
  have HRR := Lib.hid hr
  have hrl : r.length ≤ 900000 := by rw [← hr]; exact Nat.le_trans (trim_len s bail) hl9
  rw [hhp, hr] at HCU
  rw [hhq] at HHA
  clear hw0 hhp hhq hr
  go_enter Try.func44, Try.ntmps44
  go_wp2_with fail
  try rw [HW0.out]
  refine (HCU.out _).mono ?_
  rintro e w0 ⟨rfl, rfl⟩
  obtain ⟨p0, p1, p2, p3, p4⟩ := HZ0.out.ats
  obtain ⟨f0, f1, f2, f3, f4⟩ := HZ0.out.fzd
  have HNO : Hid (Below w.heap.size w (set5 w0 w.heap.size nilW (.int .i64 0) (.int .i64 0) nilW nilW) ∧ CodBox (set5 w0 w.heap.size nilW (.int .i64 0) (.int .i64 0) nilW nilW) w.heap.size 59 nilW 0 0 nilW nilW) := Lib.hid
    ⟨below_set5 HB0.out (Nat.le_refl _) _ _ _ _ _, HZ0.out.set5d nilW nilW nilW 0 0⟩
  cases hp with
  | false =>
    go_wp2_with fail
    refine (HHA.out _).mono ?_
    rintro e w0 ⟨rfl, rfl⟩
    cases hq with
    | true =>
      have HD := Lib.hid (dec_cut (f := 16) HHP.out (by rw [HHQ.out]; rfl))
      go_wp2_with fail
      obtain ⟨y0, y1, y2, y3, y4⟩ := HNO.out.2.ats
      refine bodyPost_ret (v := .tuple #[.agg #[nilW, .int .i64 0, .int .i64 0, nilW, nilW], .int .i64 16]) (by simp [results, Try.results44, go_sem, y0, y1, y2, y3, y4]) rfl ⟨_, _, _, by rw [HD.out]; rfl, by rw [HD.out]; exact cod_nilW _, HNO.out.1⟩
    | false =>
      have HD := Lib.hid (dec_cut (f := 15) HHP.out (by rw [HHQ.out]; rfl))
      go_wp2_with fail
      obtain ⟨y0, y1, y2, y3, y4⟩ := HNO.out.2.ats
      refine bodyPost_ret (v := .tuple #[.agg #[nilW, .int .i64 0, .int .i64 0, nilW, nilW], .int .i64 15]) (by simp [results, Try.results44, go_sem, y0, y1, y2, y3, y4]) rfl ⟨_, _, _, by rw [HD.out]; rfl, by rw [HD.out]; exact cod_nilW _, HNO.out.1⟩
  | true =>
    clear HNO HHA HCU
    go_wp2_with fail
    obtain ⟨q, hq2⟩ : ∃ q, w0.heap.size = q := ⟨_, rfl⟩
    obtain ⟨w2, hw2⟩ : ∃ W, w0.alloc (.cells #[.string (bs r), .int .i64 0] 150) = W := ⟨_, rfl⟩
    have HR2 : Hid (RdBox w2 q (r, 0)) := Lib.hid (by rw [← hw2, ← hq2]; exact heap_alloc_new _ _)
    have HB2 : Hid (Below w.heap.size w w2) := Lib.hid (HB0.out.trans (by rw [← hw2]; exact (below_new w0 _).mono HB0.out.size))
    have hqw : w.heap.size < q := by have := HZ0.out.lt; omega
    have HZ2 : Hid (CodBox w2 w.heap.size 59 nilW 0 0 nilW nilW) := Lib.hid (by rw [← hw2]; exact HZ0.out.below (below_new w0 _) HZ0.out.lt)
    have HCO := Lib.hid (rcode_any q (r, 0) w2 HR2.out (by dsimp only; omega))
    have hcs := code_s (r, 0)
    obtain ⟨C, hC⟩ : ∃ C, (codeR (r, 0)).1 = C := ⟨_, rfl⟩
    obtain ⟨t, ht⟩ : ∃ t, (codeR (r, 0)).2 = t := ⟨_, rfl⟩
    have HDM : Hid (decM s = if t.2 ≠ 0 then (emptyC, t.2) else if encF C ≠ 0 ∨ encM C ≠ s then (emptyC, 15) else (C, 0)) := Lib.hid (by
      unfold decM
      rw [if_neg (by rw [HHP.out]; simp), HRR.out, hC, ht])
    rw [hC, ht] at HCO
    rw [hC] at hcs
    dsimp only at hcs
    have HCW := Lib.hid hcs.1
    have hin : C.inp.length ≤ 1000000 := by omega
    have hou : C.outs.length ≤ 1000000 := by omega
    rw [hw2, hq2]
    clear hw2 hq2 hC ht hcs p0 p1 p2 p3 p4 f0 f1 f2 f3 f4
    refine HCO.out.mono ?_
    rintro e w3 ⟨iv, ov, pv, rfl, hst, hto⟩
    have hcr := hst w3 (fun _ _ _ => rfl)
    obtain ⟨cA, cc, rfl, y1, y2⟩ := hcr.1.form
    obtain ⟨oA, oc, rfl, y3, y4⟩ := ints_form hcr.2.1
    obtain ⟨qA, qc, rfl, y5, y6⟩ := ints_form hcr.2.2
    obtain ⟨li, hli⟩ : ∃ k, C.ins.length = k := ⟨_, rfl⟩
    obtain ⟨lo, hlo⟩ : ∃ k, C.outs.length = k := ⟨_, rfl⟩
    obtain ⟨lq, hlq⟩ : ∃ k, C.inp.length = k := ⟨_, rfl⟩
    obtain ⟨rg, hrg⟩ : ∃ k, C.regs = k := ⟨_, rfl⟩
    obtain ⟨sl, hsl⟩ : ∃ k, C.slots = k := ⟨_, rfl⟩
    have HSZ : Hid (Sz C li rg sl lo lq) := Lib.hid ⟨hli, hrg, hsl, hlo, hlq⟩
    have HC3 := Lib.hid hcr
    have HST := Lib.hid hst
    rw [hli, hlo, hlq] at HC3 HST
    rw [hli, hlo, hlq, hrg, hsl]
    have HT3 := Lib.hid hto
    have HZ3 : Hid (CodBox w3 w.heap.size 59 nilW 0 0 nilW nilW) := Lib.hid (HZ2.out.below hto.2.2 hqw)
    have HB3 : Hid (Below w.heap.size w w3) := Lib.hid (HB2.out.trans (hto.2.2.mono (Nat.le_of_lt hqw)))
    clear hst hcr hto y1 y2 y3 y4 y5 y6 hli hlo hlq hrg hsl HCO
    obtain ⟨X, hX⟩ : ∃ X, w3.heap.size = X := ⟨_, rfl⟩
    obtain ⟨w4, hw4⟩ : ∃ W, w3.alloc (.cells #[.slice cA li cc, .int .i64 rg, .int .i64 sl, .slice oA lo oc, .slice qA lq qc] 59) = W := ⟨_, rfl⟩
    have hb34 : Below w3.heap.size w3 w4 := by rw [← hw4]; exact below_new _ _
    have HX4 : Hid (CodBox w4 X 59 (.slice cA li cc) rg sl (.slice oA lo oc) (.slice qA lq qc)) := Lib.hid (by rw [← hw4, ← hX]; exact codbox_new _ _ _ _ _ _ _)
    have HZ4 := Lib.hid (HZ3.out.below hb34 HZ3.out.lt)
    have HB4 : Hid (Below w.heap.size w w4) := Lib.hid (HB3.out.trans (hb34.mono HB3.out.size))
    have HC4 := Lib.hid (HC3.out.below hb34 (Nat.le_refl _))
    have HR4 : Hid (RdBox w4 q t) := Lib.hid ((hb34.block q (lt_of_block HT3.out.1)).trans HT3.out.1)
    obtain ⟨b0, b1⟩ := HR4.out.ats
    obtain ⟨p0, p1, p2, p3, p4⟩ := HZ4.out.ats
    obtain ⟨f0, f1, f2, f3, f4⟩ := HZ4.out.fzd
    obtain ⟨c0, c1, c2, c3, c4⟩ := HX4.out.ats
    have HNO : Hid (Below w.heap.size w (set5 w4 w.heap.size nilW (.int .i64 0) (.int .i64 0) nilW nilW) ∧ CodBox (set5 w4 w.heap.size nilW (.int .i64 0) (.int .i64 0) nilW nilW) w.heap.size 59 nilW 0 0 nilW nilW) := Lib.hid
      ⟨below_set5 HB4.out (Nat.le_refl _) _ _ _ _ _, HZ4.out.set5d nilW nilW nilW 0 0⟩
    have HND : Hid (Below w.heap.size w (set5 w4.drew w.heap.size nilW (.int .i64 0) (.int .i64 0) nilW nilW) ∧ CodBox (set5 w4.drew w.heap.size nilW (.int .i64 0) (.int .i64 0) nilW nilW) w.heap.size 59 nilW 0 0 nilW nilW) := Lib.hid
      ⟨below_set5 HB4.out.drew (Nat.le_refl _) _ _ _ _ _, (show CodBox w4.drew w.heap.size 59 nilW 0 0 nilW nilW from ⟨HZ4.out.cell⟩).set5d nilW nilW nilW 0 0⟩
    have H34 := Lib.hid hb34
    clear hb34
    by_cases hf : t.2 ≠ 0
    · have hfb : (t.2 != 0) = true := by simpa using hf
      have HD : Hid (decM s = (emptyC, t.2)) := Lib.hid (by rw [HDM.out, if_pos hf])
      obtain ⟨f, hff⟩ : ∃ f, t.2 = f := ⟨_, rfl⟩
      rw [hff] at hfb HD b1
      have b1d : w4.drew.cell? ⟨q, 1, none⟩ = some (.int .i64 f) := b1
      have p0d : w4.drew.cell? ⟨w.heap.size, 0, none⟩ = some nilW := p0
      have p1d : w4.drew.cell? ⟨w.heap.size, 1, none⟩ = some (.int .i64 0) := p1
      have p2d : w4.drew.cell? ⟨w.heap.size, 2, none⟩ = some (.int .i64 0) := p2
      have p3d : w4.drew.cell? ⟨w.heap.size, 3, none⟩ = some nilW := p3
      have p4d : w4.drew.cell? ⟨w.heap.size, 4, none⟩ = some nilW := p4
      have f0d : w4.drew.frozen? ⟨w.heap.size, 0, none⟩ = false := f0
      have f1d : w4.drew.frozen? ⟨w.heap.size, 1, none⟩ = false := f1
      have f2d : w4.drew.frozen? ⟨w.heap.size, 2, none⟩ = false := f2
      have f3d : w4.drew.frozen? ⟨w.heap.size, 3, none⟩ = false := f3
      have f4d : w4.drew.frozen? ⟨w.heap.size, 4, none⟩ = false := f4
      clear hff hf
      go_wp2_with fail
      go_region
      all_goals
        go_wp2_with fail
        have HNE : Hid (Below w.heap.size w (set5 w4 w.heap.size nilW (.int .i64 0) (.int .i64 0) nilW nilW).drew ∧ CodBox (set5 w4 w.heap.size nilW (.int .i64 0) (.int .i64 0) nilW nilW).drew w.heap.size 59 nilW 0 0 nilW nilW) := Lib.hid ⟨HNO.out.1.drew, ⟨HNO.out.2.cell⟩⟩
        obtain ⟨y0, y1, y2, y3, y4⟩ := HNE.out.2.ats
        refine bodyPost_ret (v := .tuple #[.agg #[nilW, .int .i64 0, .int .i64 0, nilW, nilW], .int .i64 f]) (by simp [results, Try.results44, go_sem, ↓y0, ↓y1, ↓y2, ↓y3, ↓y4]) rfl ⟨_, _, _, by rw [HD.out]; rfl, by rw [HD.out]; exact cod_nilW _, HNE.out.1⟩
    · have hf0 : t.2 = 0 := by omega
      rw [hf0] at b1
      have HEN : Hid (Calls Try.prog 41 #[.agg #[.slice cA li cc, .int .i64 rg, .int .i64 sl, .slice oA lo oc, .slice qA lq qc]] w4 (fun e w' => e = .returned (.tuple #[.string (bs (encM C)), .int .i64 (encF C)]) ∧ Below w4.heap.size w4 w')) := Lib.hid (by
        have := ienc_any w4 _ _ _ C HC4.out HCW.out hin hou
        rw [HSZ.out.regs, HSZ.out.slots] at this
        exact this)
      have HDN : Hid (decM s = if encF C ≠ 0 ∨ encM C ≠ s then (emptyC, 15) else (C, 0)) := Lib.hid (by rw [HDM.out, if_neg hf])
      obtain ⟨F, hF⟩ : ∃ F, encF C = F := ⟨_, rfl⟩
      obtain ⟨S, hS⟩ : ∃ S, encM C = S := ⟨_, rfl⟩
      rw [hF, hS] at HEN HDN
      clear hF hS hf hf0
      go_wp2_with fail
      refine HEN.out.mono ?_
      rintro e w5 ⟨rfl, hb5⟩
      have H45 := Lib.hid hb5
      have HB5 : Hid (Below w.heap.size w w5) := Lib.hid (HB4.out.trans (hb5.mono HB4.out.size))
      have HZ5 := Lib.hid (HZ4.out.below hb5 HZ4.out.lt)
      have HX5 := Lib.hid (HX4.out.below hb5 HX4.out.lt)
      have HC5 := Lib.hid (HC4.out.below hb5 (Nat.le_refl _))
      obtain ⟨q0, q1, q2, q3, q4⟩ := HZ5.out.ats
      obtain ⟨g0, g1, g2, g3, g4⟩ := HZ5.out.fzd
      obtain ⟨d0, d1, d2, d3, d4⟩ := HX5.out.ats
      have HN5 : Hid (Below w.heap.size w (set5 w5 w.heap.size nilW (.int .i64 0) (.int .i64 0) nilW nilW) ∧ CodBox (set5 w5 w.heap.size nilW (.int .i64 0) (.int .i64 0) nilW nilW) w.heap.size 59 nilW 0 0 nilW nilW) := Lib.hid
        ⟨below_set5 HB5.out (Nat.le_refl _) _ _ _ _ _, HZ5.out.set5d nilW nilW nilW 0 0⟩
      have HM5 : Hid (Below w.heap.size w (set5 w5 w.heap.size (.slice cA li cc) (.int .i64 rg) (.int .i64 sl) (.slice oA lo oc) (.slice qA lq qc)) ∧ CodBox (set5 w5 w.heap.size (.slice cA li cc) (.int .i64 rg) (.int .i64 sl) (.slice oA lo oc) (.slice qA lq qc)) w.heap.size 59 (.slice cA li cc) rg sl (.slice oA lo oc) (.slice qA lq qc)) := Lib.hid
        ⟨below_set5 HB5.out (Nat.le_refl _) _ _ _ _ _, HZ5.out.set5d _ _ _ _ _⟩
      clear hb5 p0 p1 p2 p3 p4 f0 f1 f2 f3 f4 c0 c1 c2 c3 c4 b0 b1 HEN
      by_cases hF0 : F ≠ 0
      · have HD : Hid (decM s = (emptyC, 15)) := Lib.hid (by rw [HDN.out, if_pos (.inl hF0)])
        have hfb : (F != 0) = true := by simpa using hF0
        clear hF0
        go_wp2_with fail
        obtain ⟨y0, y1, y2, y3, y4⟩ := HN5.out.2.ats
        refine bodyPost_ret (v := .tuple #[.agg #[nilW, .int .i64 0, .int .i64 0, nilW, nilW], .int .i64 15]) (by simp [results, Try.results44, go_sem, y0, y1, y2, y3, y4]) rfl ⟨_, _, _, by rw [HD.out]; rfl, by rw [HD.out]; exact cod_nilW _, HN5.out.1⟩
      · have hF00 : F = 0 := by omega
        subst hF00
        by_cases hSs : S = s
        · subst hSs
          have HD : Hid (decM S = (C, 0)) := Lib.hid (by rw [HDN.out, if_neg (fun e => e.elim (fun e => e rfl) (fun e => e rfl))])
          clear hF0
          go_wp2_with fail
          obtain ⟨y0, y1, y2, y3, y4⟩ := HM5.out.2.ats
          refine bodyPost_ret (v := .tuple #[.agg #[.slice cA li cc, .int .i64 rg, .int .i64 sl, .slice oA lo oc, .slice qA lq qc], .int .i64 0]) (by simp [results, Try.results44, go_sem, y0, y1, y2, y3, y4]) rfl ⟨_, _, _, by rw [HD.out]; dsimp only; rw [HSZ.out.regs, HSZ.out.slots], by
            rw [HD.out]
            refine HST.out _ (fun g hg1 hg2 => ?_)
            have e1 : w5.heap[g]? = w3.heap[g]? := (H45.out.block g (by have := H34.out.size; omega)).trans (H34.out.block g hg2)
            refine Eq.trans ?_ e1
            show (set5 w5 w.heap.size (.slice cA li cc) (.int .i64 rg) (.int .i64 sl) (.slice oA lo oc) (.slice qA lq qc)).heap[g]? = _
            rw [Below.heap_setCell _ _ _ _ (by show g ≠ w.heap.size; omega), Below.heap_setCell _ _ _ _ (by show g ≠ w.heap.size; omega), Below.heap_setCell _ _ _ _ (by show g ≠ w.heap.size; omega), Below.heap_setCell _ _ _ _ (by show g ≠ w.heap.size; omega), Below.heap_setCell _ _ _ _ (by show g ≠ w.heap.size; omega)], HM5.out.1⟩
        · have HD : Hid (decM s = (emptyC, 15)) := Lib.hid (by rw [HDN.out, if_pos (.inr hSs)])
          have hSb : ¬ bs S = bs s := fun e => hSs (by unfold bs at e; simpa using e)
          have hSd : ((bs S).toList == (bs s).toList) = false := by rw [bs_list, bs_list]; simpa using hSs
          clear hF0 hSs
          go_wp2_with fail
          obtain ⟨y0, y1, y2, y3, y4⟩ := HN5.out.2.ats
          refine bodyPost_ret (v := .tuple #[.agg #[nilW, .int .i64 0, .int .i64 0, nilW, nilW], .int .i64 15]) (by simp [results, Try.results44, go_sem, y0, y1, y2, y3, y4]) rfl ⟨_, _, _, by rw [HD.out]; rfl, by rw [HD.out]; exact cod_nilW _, HN5.out.1⟩
end Go.Proofs.Ytcphjehjdhgheaa.Nt
