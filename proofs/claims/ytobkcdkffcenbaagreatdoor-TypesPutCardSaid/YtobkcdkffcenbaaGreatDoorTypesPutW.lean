/- TypesPut: the walk. Conditions: none. -/
import Derived.Test.YtobkcdkffcenbaaGreatDoorRa17
import Derived.BigQuiet
set_option linter.unusedVariables false
set_option linter.unusedSimpArgs false
namespace Go.Proofs.YtobkcdkffcenbaaGreatDoor.typesPut
open Go.ChangeShapes Go.WideShapes Go.ChangeAt Go.RowKit Go.Proofs.YtobkcdkffcenbaaGreatDoor.Tr
open Go.Proofs.YtobkcdkffcenbaaGreatDoor.Pg (Prm Unt)
open Go.Proofs.YtobkcdkffcenbaaGreatDoor.Ty
theorem parts_none (w : World) : Parts w w.heap.size (.slice none 0 0) [] := ⟨none, 0, rfl, Nat.le_refl _, by unfold maxLen; omega, fun i l h => by simp at h⟩
theorem strs_one (w : World) (s : Bytes) : Strs (w.alloc (.cells #[.string (str s)] 9)) (.slice (some ⟨w.heap.size, 0, none⟩) 1 1) [s] :=
  ⟨some ⟨w.heap.size, 0, none⟩, 1, rfl, Nat.le_refl _, by unfold maxLen; omega, fun i x h => by
    match i, h with
    | 0, h => simp at h; subst h; exact ⟨w.heap.size, 0, rfl, by simp, (cells_at (heap_alloc_new w _) 0).trans rfl⟩
    | i + 1, h => simp at h⟩
theorem strs_al {w : World} {v : Value} {l : List Bytes} (h : Strs w v l) (o : Obj) : Strs (w.alloc o) v l := by
  obtain ⟨A, c, e, h1, h2, h3⟩ := h
  exact ⟨A, c, e, h1, h2, fun i x hx => by
    obtain ⟨g, o', e1, e2, e3⟩ := h3 i x hx
    exact ⟨g, o', e1, by simp; omega, (World.cell?_of_block (w := w) (a := ⟨g, o' + i, none⟩) (Below.heap_alloc _ _ _ e2)).trans e3⟩⟩
set_option maxRecDepth 100000 in
set_option maxHeartbeats 8000000 in
theorem walk (w : World) (hT : ShAt w) (v u lv : Value) (s : Bytes) (e b : List Nd) (l : List Prm) (hv : Nodes w v e) (hse : Short e) (hu : Nodes w u b) (hsb : Short b) (hl : Ow.RowN 2 Ow.PrmN w l lv) (hs : s.length ≤ maxLen) :
    Calls Tryz.prog 4 #[.agg #[v, u, lv, .string (str s)]] w fun r w' => r = .returned (.bool true) ∧ Below w.heap.size w w' := by
  have HL : Hid (∀ W, Below w.heap.size w W → Calls Tryz.prog 6 #[] W (fun r W' => r = .returned (.bool true) ∧ Below w.heap.size w W')) := Lib.hid (fun W h => (live_any W (hT.below h hT.1)).mono (fun r W' hh => ⟨hh.1, h.trans (hh.2.mono h.size)⟩))
  have HO : Hid (∀ (W : World) (ev : Value) (e : List Nd) (x : Int × Int), Below w.heap.size w W → Nodes W ev e → Short e → tyM (envOf l []) e = x → Calls Tryz.prog 9 #[ev, lv, .slice none 0 0] W (fun r W' => r = .returned (.tuple #[.int .i64 x.1, .int .i64 x.2]) ∧ Below W.heap.size W W')) := Lib.hid (fun W ev e x h hv' hs' hx => by
    have := Of_no ev lv e l W (hT.below h hT.1) hv' hs' (hl.below h (Ow.PrmN.below h))
    rw [hx] at this
    exact this)
  have HV := Lib.hid hv
  have HU := Lib.hid hu
  have HSE := Lib.hid hse
  have HSB := Lib.hid hsb
  have HSN := Lib.hid hs
  have HB0 : Hid (∀ n, Below w.heap.size w ((w.alloc (.cells #[v, u, lv, .string (str s)] 35)).drewN n)) := Lib.hid (fun n => Tr.below_drewN (below_new w _) n)
  obtain ⟨A, c, rfl, h1, h2, -⟩ := hv
  obtain ⟨C, d, rfl, h3, h4, -⟩ := hu
  obtain ⟨Al, cl, rfl, l1, l2, -⟩ := Ow.rown_form hl
  unfold maxLen at h2 h4 l2
  clear hl hse hsb hs hT
  by_cases hf : (e.length : Int) ≤ 100
  rotate_left
  · have hd : decide ((100 : Int) < (e.length : Int)) = true := decide_eq_true (by omega)
    have hd' : decide (100 < e.length) = true := decide_eq_true (by omega)
    go_enter Tryz.func4, Tryz.ntmps4
    go_wp2
    go_quiet (fail)
    go_wp2_with fail
    refine (HL.out _ (HB0.out nq)).mono ?_
    rintro r w9 ⟨rfl, hb9⟩
    have HB9 := Lib.hid hb9
    clear hb9
    go_wp2
    go_ret
    exact ⟨rfl, HB9.out⟩
  have hd1 : decide ((100 : Int) < (e.length : Int)) = false := decide_eq_false (by omega)
  have hd1' : decide (100 < e.length) = false := decide_eq_false (by omega)
  have hn1 : e.length ≤ 100 := by omega
  clear hf
  by_cases hf : (b.length : Int) ≤ 100
  rotate_left
  · have hd : decide ((100 : Int) < (b.length : Int)) = true := decide_eq_true (by omega)
    have hd' : decide (100 < b.length) = true := decide_eq_true (by omega)
    go_enter Tryz.func4, Tryz.ntmps4
    go_wp2
    go_quiet (fail)
    go_wp2_with fail
    refine (HL.out _ (HB0.out nq)).mono ?_
    rintro r w9 ⟨rfl, hb9⟩
    have HB9 := Lib.hid hb9
    clear hb9
    go_wp2
    go_ret
    exact ⟨rfl, HB9.out⟩
  have hd2 : decide ((100 : Int) < (b.length : Int)) = false := decide_eq_false (by omega)
  have hd2' : decide (100 < b.length) = false := decide_eq_false (by omega)
  have hn2 : b.length ≤ 100 := by omega
  clear hf
  by_cases hf : (l.length : Int) ≤ 60
  rotate_left
  · have hd : decide ((60 : Int) < (l.length : Int)) = true := decide_eq_true (by omega)
    have hd' : decide (60 < l.length) = true := decide_eq_true (by omega)
    go_enter Tryz.func4, Tryz.ntmps4
    go_wp2
    go_quiet (fail)
    go_wp2_with fail
    refine (HL.out _ (HB0.out nq)).mono ?_
    rintro r w9 ⟨rfl, hb9⟩
    have HB9 := Lib.hid hb9
    clear hb9
    go_wp2
    go_ret
    exact ⟨rfl, HB9.out⟩
  have hd3 : decide ((60 : Int) < (l.length : Int)) = false := decide_eq_false (by omega)
  have hd3' : decide (60 < l.length) = false := decide_eq_false (by omega)
  have hn3 : l.length ≤ 60 := by omega
  clear hf
  obtain ⟨⟨t, f⟩, h5⟩ : ∃ x, tyM (envOf l []) e = x := ⟨_, rfl⟩
  obtain ⟨⟨x, g⟩, h6⟩ : ∃ x, tyM (envOf l []) b = x := ⟨_, rfl⟩
  obtain ⟨⟨y, h⟩, h7⟩ : ∃ x, tyM (envOf l []) (joinM 3 0 s []) = x := ⟨_, rfl⟩
  have H5 := Lib.hid h5
  have H6 := Lib.hid h6
  have H7 := Lib.hid h7
  have HJ : Hid (∀ W, Calls Tryz.prog 10 #[.int .i64 3, .int .i64 0, .string (str s), .slice none 0 0] W (fun r W' => ∃ v, r = .returned v ∧ Nodes W' v (joinM 3 0 s []) ∧ Below W.heap.size W W')) := Lib.hid (fun W =>
    (rjoin_all _ [] 3 0 s W (parts_none W) (by simp [roomM])).mono (fun r W' ⟨v, k1, k2, k3⟩ => ⟨v, k1, Nodes.of_own k2, k3⟩))
  have HSV : Hid (Short (joinM 3 0 s [])) := Lib.hid (fun z hz => by rw [var_flat] at hz; simp [T.flat] at hz; subst hz; exact HSN.out)
  clear h5 h6 h7
  go_enter Tryz.func4, Tryz.ntmps4
  go_wp2
  go_quiet (fail)
  go_wp2_with fail
  refine (HO.out _ _ e _ (HB0.out nq) (HV.out.below (HB0.out nq) (Nat.le_refl _)) HSE.out H5.out).mono ?_
  rintro r w1 ⟨rfl, hb1⟩
  have HB1 : Hid (Below w.heap.size w w1) := Lib.hid ((HB0.out nq).trans (hb1.mono (HB0.out nq).size))
  clear hb1
  go_wp2_with fail
  refine (HO.out w1 _ b _ HB1.out (HU.out.below HB1.out (Nat.le_refl _)) HSB.out H6.out).mono ?_
  rintro r w2 ⟨rfl, hb2⟩
  have HB2 : Hid (Below w.heap.size w w2) := Lib.hid (HB1.out.trans (hb2.mono HB1.out.size))
  clear hb2
  go_wp2_with fail
  refine (HJ.out w2).mono ?_
  rintro r w3 ⟨jv, rfl, hj, hb3⟩
  have HB3 : Hid (Below w.heap.size w w3) := Lib.hid (HB2.out.trans (hb3.mono HB2.out.size))
  have HC3 := Lib.hid (HO.out w3 jv _ _ HB3.out hj HSV.out H7.out)
  obtain ⟨A3, c3, rfl, -⟩ := hj
  clear hb3
  go_wp2_with fail
  refine HC3.out.mono ?_
  rintro r w4 ⟨rfl, hb4⟩
  have HB4 : Hid (Below w.heap.size w w4) := Lib.hid (HB3.out.trans (hb4.mono HB3.out.size))
  clear hb4
  by_cases hf0 : f = 0
  rotate_left
  · have hq : (f != 0) = true := by simpa using hf0
    go_wp2_with fail
    refine (HL.out _ HB4.out).mono ?_
    rintro r w9 ⟨rfl, hb9⟩
    have HB9 := Lib.hid hb9
    clear hb9
    go_wp2
    go_ret
    exact ⟨rfl, HB9.out⟩
  have hqf0 : (f != 0) = false := by simp [hf0]
  by_cases hg0 : g = 0
  rotate_left
  · have hq : (g != 0) = true := by simpa using hg0
    go_wp2_with fail
    refine (HL.out _ HB4.out).mono ?_
    rintro r w9 ⟨rfl, hb9⟩
    have HB9 := Lib.hid hb9
    clear hb9
    go_wp2
    go_ret
    exact ⟨rfl, HB9.out⟩
  have hqg0 : (g != 0) = false := by simp [hg0]
  by_cases hh0 : h = 0
  rotate_left
  · have hq : (h != 0) = true := by simpa using hh0
    go_wp2_with fail
    refine (HL.out _ HB4.out).mono ?_
    rintro r w9 ⟨rfl, hb9⟩
    have HB9 := Lib.hid hb9
    clear hb9
    go_wp2
    go_ret
    exact ⟨rfl, HB9.out⟩
  have hqh0 : (h != 0) = false := by simp [hh0]
  by_cases hxy : x = y
  rotate_left
  · have hq : (x != y) = true := by simpa using hxy
    go_wp2_with fail
    refine (HL.out _ HB4.out).mono ?_
    rintro r w9 ⟨rfl, hb9⟩
    have HB9 := Lib.hid hb9
    clear hb9
    go_wp2
    go_ret
    exact ⟨rfl, HB9.out⟩
  have hqxy : (x != y) = false := by simp [hxy]
  have H5' : Hid (tyM (envOf l []) e = (t, 0)) := Lib.hid (by have z := H5.out; rw [hf0] at z; exact z)
  have H6' : Hid (tyM (envOf l []) b = (x, 0)) := Lib.hid (by have z := H6.out; rw [hg0] at z; exact z)
  have H7' : Hid (tyM (envOf l []) (joinM 3 0 s []) = (x, 0)) := Lib.hid (by have z := H7.out; rw [hh0, ← hxy] at z; exact z)
  have HME : Hid (May e) := Lib.hid (may_of (tyM_zero.1 (show (tyM (envOf l []) e).2 = 0 by rw [H5'.out])).1)
  have HMB : Hid (May b) := Lib.hid (may_of (tyM_zero.1 (show (tyM (envOf l []) b).2 = 0 by rw [H6'.out])).1)
  obtain ⟨N, hN⟩ : ∃ N, putM e [s] [b] = N := ⟨_, rfl⟩
  have HSP : Hid (Short N) := Lib.hid (hN ▸ short_put HME.out HMB.out HSE.out HSB.out (by omega))
  have HTY : Hid (mayB N = true → tyM (envOf l []) N = (t, 0)) := Lib.hid (fun hm => by subst hN; exact put_types _ H5'.out H6'.out H7'.out hm (by omega))
  obtain ⟨BM, hBM⟩ : ∃ B, mayB N = B := ⟨_, rfl⟩
  have HBM := Lib.hid hBM
  obtain ⟨w5, hw5⟩ : ∃ W, (w4.alloc (.cells #[.string (str s)] 9)).alloc (.cells #[.slice C b.length d] 32) = W := ⟨_, rfl⟩
  have hs4 : (w4.alloc (.cells #[.string (str s)] 9)).heap.size = w4.heap.size + 1 := by simp
  have hb5 : Below w4.heap.size w4 w5 := hw5 ▸ (below_new w4 _).trans ((below_new _ _).mono (by omega))
  have HB5 : Hid (Below w.heap.size w w5) := Lib.hid (HB4.out.trans (hb5.mono HB4.out.size))
  have HST : Hid (Strs w5 (.slice (some ⟨w4.heap.size, 0, none⟩) 1 1) [s]) := Lib.hid (hw5 ▸ strs_al (strs_one w4 s) _)
  have HPA : Hid (Parts w5 w5.heap.size (.slice (some ⟨w4.heap.size + 1, 0, none⟩) 1 1) [b]) := Lib.hid (by
    have := Rf.parts_one (w := w4.alloc (.cells #[.string (str s)] 9)) (HU.out.below (HB4.out.trans ((below_new w4 _).mono HB4.out.size)) (Nat.le_refl _))
    rw [hw5, hs4] at this
    exact this)
  have HPT : Hid (Calls Tryz.prog 11 #[.slice A e.length c, .slice (some ⟨w4.heap.size, 0, none⟩) 1 1, .slice (some ⟨w4.heap.size + 1, 0, none⟩) 1 1] w5 (NodesPost w5 N)) := Lib.hid (by
    have := rput_any _ _ _ e [s] [b] w5 (HV.out.below HB5.out (Nat.le_refl _)) HST.out HPA.out (by simp) (by omega) (put_room hn1 hn2)
    rw [hN] at this
    exact this)
  have HW5 := Lib.hid hw5
  clear hN hBM hb5 hw5
  go_wp2_with fail
  rw [HW5.out]
  refine HPT.out.mono ?_
  rintro r w6 ⟨nv, rfl, ho6, hb6⟩
  have HB6 : Hid (Below w.heap.size w w6) := Lib.hid (HB5.out.trans (hb6.mono HB5.out.size))
  have HN6 := Lib.hid (Nodes.of_own ho6)
  have hn6 := HN6.out
  obtain ⟨A6, c6, rfl, -⟩ := hn6
  clear ho6 hb6
  go_wp2_with fail
  refine (rmay_lit _ N _ w6 HN6.out HBM.out).mono ?_
  rintro r w7 ⟨rfl, hb7⟩
  have HB7 : Hid (Below w.heap.size w w7) := Lib.hid (HB6.out.trans (hb7.mono HB6.out.size))
  have HN7 := Lib.hid (HN6.out.below hb7 (Nat.le_refl _))
  clear hb7
  cases BM with
  | false =>
    go_wp2_with fail
    refine (HL.out _ HB7.out).mono ?_
    rintro r w9 ⟨rfl, hb9⟩
    have HB9 := Lib.hid hb9
    clear hb9
    go_wp2
    go_ret
    exact ⟨rfl, HB9.out⟩
  | true =>
    have HTN := Lib.hid (HTY.out HBM.out)
    go_wp2_with fail
    refine (HO.out w7 _ N _ HB7.out HN7.out HSP.out HTN.out).mono ?_
    rintro r w8 ⟨rfl, hb8⟩
    have HB8 : Hid (Below w.heap.size w w8) := Lib.hid (HB7.out.trans (hb8.mono HB7.out.size))
    have htt : (t == t) = true := by simp
    clear hb8
    go_wp2_with fail
    refine (HL.out _ HB8.out).mono ?_
    rintro r w9 ⟨rfl, hb9⟩
    have HB9 := Lib.hid hb9
    clear hb9
    go_wp2
    go_ret
    exact ⟨rfl, HB9.out⟩
end Go.Proofs.YtobkcdkffcenbaaGreatDoor.typesPut
