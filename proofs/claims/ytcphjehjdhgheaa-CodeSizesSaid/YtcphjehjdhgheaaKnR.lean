/- One instant of code, as the document tells it. Conditions: the code may be; at most 100000 of each. Code's run, as the document tells it. Conditions: at most 1000 instants. -/
import Derived.Test.YtcphjehjdhgheaaKnP
import Derived.Test.YtcphjehjdhgheaaKnA
import Derived.Test.YtcphjehjdhgheaaNkC
import Derived.Test.YtcphjehjdhgheaaNtR
import Derived.Test.YtcphjehjdhgheaaKmB
import Derived.Test.YtcphjehjdhgheaaKaC
namespace Go.Proofs.Ytcphjehjdhgheaa.Nt
open Go.ChangeShapes Go.WideShapes Go.ChangeAt Go.RowKit Go.Proofs.Ytcphjehjdhgheaa.Tr
set_option linter.unusedVariables false
set_option linter.unusedSimpArgs false

theorem StBox.fzs {w : World} {b : Nat} {sv : Value} {f : Bool} (h : StBox w b sv f) : w.frozen? ⟨b, 0, none⟩ = false ∧ w.frozen? ⟨b, 1, none⟩ = false := by
  have := h.cell
  refine ⟨?_, ?_⟩ <;> simp [World.frozen?, this]
theorem StBox.set2 {w : World} {b : Nat} {sv : Value} {f : Bool} (h : StBox w b sv f) (sv' : Value) (f' : Bool) : StBox ((w.setCell ⟨b, 0, none⟩ sv').setCell ⟨b, 1, none⟩ (.bool f')) b sv' f' := by
  have := h.cell
  refine ⟨?_⟩
  simp [World.setCell, Array.getElem?_modify, this]
def StepPost (w : World) (p : List Int × List Int × Int) (e : Ending) (w' : World) : Prop :=
  Below w.heap.size w w' ∧ ((p.2.2 ≠ 0 ∧ ∃ A n c f, e = .returned (.tuple #[.slice none 0 0, .agg #[.slice A n c, .bool f], .int .i64 p.2.2])) ∨ (p.2.2 = 0 ∧ ∃ rv A c, e = .returned (.tuple #[rv, .agg #[.slice A p.2.1.length c, .bool false], .int .i64 0]) ∧ w'.ownsRow w.heap.size 3 1 rv p.1.length (intsOf p.1) ∧ w'.ownsRow w.heap.size 3 1 (.slice A p.2.1.length c) p.2.1.length (intsOf p.2.1)))
set_option maxRecDepth 100000 in
set_option maxHeartbeats 16000000 in
theorem kstep_any (w : World) (iv ov pv sv uv : Value) (C : Cod) (row slots : List Int) (first : Bool) (h : CodR w iv ov pv C) (hs : Ints w sv slots) (hu : Ints w uv row) (hf : CodF C) (hsl : slots.length = C.slots.toNat) (hol : C.outs.length ≤ 100000) :
    Calls Try.prog 74 #[.agg #[iv, .int .i64 C.regs, .int .i64 C.slots, ov, pv], .agg #[sv, .bool first], uv] w (StepPost w (tellK C row slots first)) := by
  obtain ⟨i0, hi0, hz0, hz1, hz2⟩ := info_parts info3
  have HH := Lib.hid h
  obtain ⟨A, c, rfl, z1, z2⟩ := h.1.form
  obtain ⟨A2, c2, rfl, z3, z4⟩ := ints_form h.2.1
  obtain ⟨A3, c3, rfl, z5, z6⟩ := ints_form h.2.2
  obtain ⟨A4, c4, rfl, z7, z8⟩ := ints_form hs
  obtain ⟨A5, c5, rfl, z9, z10⟩ := ints_form hu
  obtain ⟨n, hn⟩ : ∃ L, C.ins.length = L := ⟨_, rfl⟩
  obtain ⟨no, hno⟩ : ∃ L, C.outs.length = L := ⟨_, rfl⟩
  obtain ⟨np, hnp⟩ : ∃ L, C.inp.length = L := ⟨_, rfl⟩
  obtain ⟨ns, hns⟩ : ∃ L, slots.length = L := ⟨_, rfl⟩
  obtain ⟨kr, hkr⟩ : ∃ L, row.length = L := ⟨_, rfl⟩
  obtain ⟨R, hR⟩ : ∃ R : Nat, C.regs = (R : Int) := ⟨C.regs.toNat, by have := hf.regs; omega⟩
  have HN := Lib.hid hn
  have HNO := Lib.hid hno
  have HNP := Lib.hid hnp
  have HNS := Lib.hid hns
  have HKR := Lib.hid hkr
  have HR := Lib.hid hR
  have HF := Lib.hid hf
  have HSL := Lib.hid hsl
  have hR3 : R ≤ 100000 := by have := hf.regs; omega
  have hn3 : n ≤ 200000 := by have := hf.len; omega
  have hns3 : ns ≤ 100000 := by have := hf.slots; omega
  obtain ⟨SL, hSL⟩ : ∃ s, C.slots = s := ⟨_, rfl⟩
  rw [hn, hno, hnp] at HH
  rw [hn] at z1 ⊢
  rw [hno] at z3 hol ⊢
  rw [hnp] at z5 ⊢
  rw [hns] at z7 hs ⊢
  rw [hkr] at z9 hu ⊢
  rw [hR, hSL]
  unfold maxLen at z2 z4 z6 z8 z10
  obtain ⟨x, hx⟩ : ∃ W, ((w.alloc (.cells #[.slice A n c, .int .i64 (R : Int), .int .i64 SL, .slice A2 no c2, .slice A3 np c3] 54)).alloc (.cells #[.slice A4 ns c4, .bool first] 123)).alloc (.cells #[.slice none 0 0, .bool false] 123) = W := ⟨_, rfl⟩
  have HBX : Hid (Below w.heap.size w x) := Lib.hid (by rw [← hx]; exact (below2 w _ _).alloc (by simp; omega) _)
  have HSX : Hid (x.heap.size = w.heap.size + 3) := Lib.hid (by rw [← hx]; simp)
  have HCX : Hid (CodBox x w.heap.size 54 (.slice A n c) (R : Int) SL (.slice A2 no c2) (.slice A3 np c3)) := Lib.hid ⟨by
    rw [← hx, Below.heap_alloc _ _ _ (by simp; omega), Below.heap_alloc _ _ _ (by simp)]
    exact heap_alloc_new _ _⟩
  have HTX : Hid (StBox x (w.heap.size + 1) (.slice A4 ns c4) first) := Lib.hid ⟨by
    rw [← hx, Below.heap_alloc _ _ _ (by simp)]
    have := heap_alloc_new (w.alloc (.cells #[.slice A n c, .int .i64 (R : Int), .int .i64 SL, .slice A2 no c2, .slice A3 np c3] 54)) (.cells #[.slice A4 ns c4, .bool first] 123)
    simpa using this⟩
  have HZX : Hid (StBox x (w.heap.size + 1 + 1) (.slice none 0 0) false) := Lib.hid ⟨by
    rw [← hx]
    have := heap_alloc_new ((w.alloc (.cells #[.slice A n c, .int .i64 (R : Int), .int .i64 SL, .slice A2 no c2, .slice A3 np c3] 54)).alloc (.cells #[.slice A4 ns c4, .bool first] 123)) (.cells #[.slice none 0 0, .bool false] 123)
    simpa using this⟩
  have HHX : Hid (CodR x (.slice A n c) (.slice A2 no c2) (.slice A3 np c3) C) := Lib.hid ⟨HH.out.1.below HBX.out (Nat.le_refl _), HH.out.2.1.below HBX.out (Nat.le_refl _), HH.out.2.2.below HBX.out (Nat.le_refl _)⟩
  have HSV := Lib.hid (hs.below HBX.out (Nat.le_refl _))
  have HUV := Lib.hid (hu.below HBX.out (Nat.le_refl _))
  have HFR := Lib.hid (kframe_any x (.slice A n c) (.slice A2 no c2) (.slice A3 np c3) (.slice A5 kr c5) (R : Int) SL C.inp row HHX.out.2.2 HUV.out)
  obtain ⟨fb, hfb⟩ : ∃ b, frameB C.inp row = b := ⟨_, rfl⟩
  rw [hfb] at HFR
  have HFB := Lib.hid hfb
  obtain ⟨p0, p1, p2, p3, p4⟩ := HCX.out.ats
  obtain ⟨s0, s1⟩ := HTX.out.ats
  clear h hs hu hf hsl hn hno hnp hns hkr hR hSL hfb
  go_enter Try.func74, Try.ntmps74
  go_wp2_with fail
  try rw [hx]
  clear hx
  go_wp2_with fail
  refine HFR.out.mono ?_
  rintro e x1 ⟨rfl, hb1⟩
  have HB1 := Lib.hid hb1
  have HC1 := Lib.hid (HCX.out.below hb1 HCX.out.lt)
  have HT1 := Lib.hid (HTX.out.below hb1 HTX.out.lt)
  have HZ1 := Lib.hid (HZX.out.below hb1 HZX.out.lt)
  have HBW1 : Hid (Below w.heap.size w x1) := Lib.hid (HBX.out.trans (hb1.mono HBX.out.size))
  have HS1 : Hid (w.heap.size + 3 ≤ x1.heap.size) := Lib.hid (by have := hb1.size; have := HSX.out; omega)
  clear hb1 p0 p1 p2 p3 p4 s0 s1
  obtain ⟨p0, p1, p2, p3, p4⟩ := HC1.out.ats
  obtain ⟨s0, s1⟩ := HT1.out.ats
  obtain ⟨y0, y1⟩ := HZ1.out.ats
  obtain ⟨fz0, fz1⟩ := HZ1.out.fzs
  cases fb with
  | false =>
    have HE : Hid (tellK C row slots first = ([], slots, 17)) := Lib.hid (by unfold tellK; rw [if_pos HFB.out])
    have HEND : Hid (∀ V, V = ((x1.setCell ⟨w.heap.size + 1 + 1, 0, none⟩ (.slice A4 ns c4)).setCell ⟨w.heap.size + 1 + 1, 1, none⟩ (.bool first)) → Below w.heap.size w V ∧ V.cell? ⟨w.heap.size + 1 + 1, 0, none⟩ = some (.slice A4 ns c4) ∧ V.cell? ⟨w.heap.size + 1 + 1, 1, none⟩ = some (.bool first)) := Lib.hid (fun V hV => by
      rw [hV]
      exact ⟨(HBW1.out.setCell (p := ⟨w.heap.size + 1 + 1, 0, none⟩) (by show w.heap.size ≤ w.heap.size + 1 + 1; omega) _).setCell (p := ⟨w.heap.size + 1 + 1, 1, none⟩) (by show w.heap.size ≤ w.heap.size + 1 + 1; omega) _, (HZ1.out.set2 (.slice A4 ns c4) first).ats⟩)
    try simp only [Bool.not_false]
    go_wp2_with fail
    go_region
    all_goals
      go_wp2_with fail
      obtain ⟨e1, e2, e3⟩ := HEND.out _ rfl
      have e4 : (((x1.setCell ⟨w.heap.size + 1 + 1, 0, none⟩ (.slice A4 ns c4)).setCell ⟨w.heap.size + 1 + 1, 1, none⟩ (.bool first)).drew).cell? ⟨w.heap.size + 1 + 1, 0, none⟩ = some (.slice A4 ns c4) := e2
      have e5 : (((x1.setCell ⟨w.heap.size + 1 + 1, 0, none⟩ (.slice A4 ns c4)).setCell ⟨w.heap.size + 1 + 1, 1, none⟩ (.bool first)).drew).cell? ⟨w.heap.size + 1 + 1, 1, none⟩ = some (.bool first) := e3
      exact bodyPost_ret (v := .tuple #[.slice none 0 0, .agg #[.slice A4 ns c4, .bool first], .int .i64 17]) (by simp [results, Try.results74, go_sem, e2, e3, e4, e5]) rfl ⟨e1.drew, .inl ⟨by rw [HE.out]; simp, _, _, _, _, by rw [HE.out]⟩⟩
  | true =>
    try simp only [Bool.not_true]
    have hmk := run_make_row' (P := Try.prog) 23 3 (.int .i64 0) 8 Try.underlying23 info3 rfl .i64 .i64 R (by omega) (by omega)
    have HT0 : Hid (∀ W, W = x1.alloc (.cells (madeCells #[.int .i64 0] R) 3) → W.ownsRow x1.heap.size 3 1 (.slice (some ⟨x1.heap.size, 0, none⟩) R R) R (intsOf (partK C row slots first 0).r) ∧ Below x1.heap.size x1 W ∧ W.heap.size = x1.heap.size + 1) := Lib.hid (fun W hW => by
      have h1 := heap_alloc_new x1 (.cells (madeCells #[.int .i64 0] R) 3)
      subst hW
      have e : C.regs.toNat = R := by have := HR.out; omega
      refine ⟨own_at (xs := intsOf (partK C row slots first 0).r) ?_ (Nat.le_refl _) (by unfold intsOf; rw [List.length_map, (partK_len C row slots first 0).1]; exact e) (by unfold maxLen; omega), below_new _ _, by simp⟩
      rw [partK_zero, e, ← made_ints]; exact h1)
    obtain ⟨x2, hx2⟩ : ∃ V, x1.alloc (.cells (madeCells #[.int .i64 0] R) 3) = V := ⟨_, rfl⟩
    obtain ⟨hr2, hb2, hs2⟩ := HT0.out _ hx2.symm
    have HSV2 : Hid (Ints x2 (.slice A4 ns c4) slots) := Lib.hid ((HSV.out.below HB1.out (Nat.le_refl _)).below hb2 (Nat.le_refl _))
    obtain ⟨nv, x3, hap, hnx, hg3⟩ := copy_ints x2 x2.heap.size (.slice none 0 0) (World.ownsRow_nil _ _ _ _) A4 ns c4 slots HNS.out.symm HSV2.out (by omega) (Nat.le_refl _)
    have hb3 : Below x2.heap.size x2 x3 := (Below.refl _ _).grown hg3 (Nat.le_refl _) (fun k hk => by cases hk)
    obtain ⟨NA, nc, rfl, -, -⟩ := own_slice hnx
    have hr2' := hr2
    have hnx' := hnx
    obtain ⟨t0, t1⟩ := ((HT1.out.below hb2 HT1.out.lt)).ats
    clear hr2 hnx hg3
    go_wp2_with (at_builtin; refine append_by rfl (.const (.slice none 0 0)) (.tmp 27) 23 rfl _ _ _ rfl rfl (by first | exact hap | (rw [hx2]; exact hap)) ?_)
    obtain ⟨x4, hx4⟩ : ∃ V, x3.alloc (.cells #[.slice NA ns nc, .bool false] 123) = V := ⟨_, rfl⟩
    have hb4 : Below x3.heap.size x3 x4 := by rw [← hx4]; exact below_new _ _
    have hs4 : x2.heap.size ≤ x3.heap.size := hb3.size
    have HR4 : Hid (x4.ownsRow x1.heap.size 3 1 (.slice (some ⟨x1.heap.size, 0, none⟩) R R) R (intsOf (partK C row slots first 0).r)) := Lib.hid (own_below (own_below hr2' hb3) hb4)
    have HX4 : Hid (x4.ownsRow x2.heap.size 3 1 (.slice NA ns nc) ns (intsOf (partK C row slots first 0).next)) := Lib.hid (by rw [partK_zero]; exact own_below hnx' hb4)
    have HT4 : Hid (StBox x4 x3.heap.size (.slice NA ns nc) false) := Lib.hid ⟨by rw [← hx4]; exact heap_alloc_new _ _⟩
    have HB4 : Hid (Below x1.heap.size x1 x4) := Lib.hid (hb2.trans (((hb3.mono (by omega)).trans (hb4.mono (by omega)))))
    have HNB : Hid (x1.heap.size + 1 ≤ x3.heap.size ∧ x2.heap.size = x1.heap.size + 1) := Lib.hid ⟨by omega, hs2⟩
    have HTELL : Hid (tellK C row slots first = if (instK C row slots first).least ≠ 0 then ([], slots, (instK C row slots first).least) else (rowK C (instK C row slots first).r, (instK C row slots first).next, 0)) := Lib.hid (by unfold tellK; rw [if_neg (by rw [HFB.out]; simp)])
    have HKR2 : Hid (row.length = np) := Lib.hid (by rw [← HNP.out]; exact frame_len HFB.out)
    try rw [hx4]
    clear hx4 hb2 hb3 hb4 hs2 hs4 hr2' hnx' hap hmk hx2 p0 p1 p2 p3 p4 s0 s1 t0 t1 y0 y1 fz0 fz1
    obtain ⟨p0, p1, p2, p3, p4⟩ := (HC1.out.below HB4.out HC1.out.lt).ats
    go_wp2_with fail
    go_loopw [11, 12] (fun v11 v12 wr => ∃ (i : Nat) (least : Int), i ≤ n ∧ v12 = .int .i64 (i : Int) ∧ v11 = .int .i64 least ∧ least = (partK C row slots first i).least ∧ wr.ownsRow x1.heap.size 3 1 (.slice (some ⟨x1.heap.size, 0, none⟩) R R) R (intsOf (partK C row slots first i).r) ∧ wr.ownsRow x2.heap.size 3 1 (.slice NA ns nc) ns (intsOf (partK C row slots first i).next) ∧ StBox wr x3.heap.size (.slice NA ns nc) false ∧ Below x1.heap.size x1 wr) (fun v11 v12 _ => n - (intOf v12).toNat)
    case atStart => exact ⟨0, 0, Nat.zero_le _, rfl, rfl, by rw [partK_zero], HR4.out, HX4.out, HT4.out, HB4.out⟩
    case round =>
      obtain ⟨i, least, hi, rfl, rfl, hle, hr, hnx, htb, hb⟩ := hrel
      have HLE := Lib.hid hle
      have HRr := Lib.hid hr
      have HNr := Lib.hid hnx
      have HTr := Lib.hid htb
      have HBr := Lib.hid hb
      obtain ⟨wk, hwk⟩ : ∃ W, W = wr := ⟨_, rfl⟩
      subst hwk
      have hsk : x3.heap.size < wk.heap.size := htb.lt
      have hcb := HC1.out.below hb HC1.out.lt
      obtain ⟨q0, q1, q2, q3, q4⟩ := hcb.ats
      clear hle hr hnx htb hcb p0 p1 p2 p3 p4
      by_cases hin : i < n
      · obtain ⟨y, hy⟩ : ∃ y, C.ins[i]? = some y := ⟨_, List.getElem?_eq_getElem (by rw [HN.out]; exact hin)⟩
        obtain ⟨g, o, rfl, hg, d0, d1, d2, d3, d4, d5⟩ := (((HHX.out.1.below HB1.out (Nat.le_refl _)).below hb (Nat.le_refl _))).at hy
        have HPS : Hid (partK C row slots first (i + 1) = stepK row slots first (partK C row slots first i) y) := Lib.hid (partK_succ hy)
        have HFI := Lib.hid (HF.out.ins y (List.mem_of_getElem? hy))
        obtain ⟨P, hP⟩ : ∃ P, partK C row slots first i = P := ⟨_, rfl⟩
        have HPL : Hid (P.r.length = R ∧ P.next.length = ns) := Lib.hid (by
          have := partK_len C row slots first i
          rw [hP] at this
          exact ⟨by rw [this.1]; have := HR.out; omega, by rw [this.2]; exact HNS.out⟩)
        rw [hP] at HRr HNr HPS HLE
        obtain ⟨yo, yd, ya, yb, yc, yn⟩ := y
        dsimp only at d0 d1 d2 d3 d4 d5
        obtain ⟨wm, hwm⟩ : ∃ V, wk.alloc (.cells #[.int .i64 yo, .int .i64 yd, .int .i64 ya, .int .i64 yb, .int .i64 yc, .int .i64 yn] 112) = V := ⟨_, rfl⟩
        have hbm : Below wk.heap.size wk wm := by rw [← hwm]; exact below_new _ _
        have HIM : Hid (InsBox wm wk.heap.size 112 ⟨yo, yd, ya, yb, yc, yn⟩) := Lib.hid (by rw [← hwm]; exact insbox_new wk 112 ⟨yo, yd, ya, yb, yc, yn⟩)
        have HRm := Lib.hid (own_below HRr.out hbm)
        have HNm := Lib.hid (own_below HNr.out hbm)
        have HTm := Lib.hid (HTr.out.below hbm hsk)
        have HBm : Hid (Below x1.heap.size x1 wm) := Lib.hid (hb.trans (hbm.mono hb.size))
        obtain ⟨k0, k1, k2, k3, k4, k5⟩ := HIM.out.ats
        dsimp only at k0 k1 k2 k3 k4 k5
        obtain ⟨n0, n1⟩ := HTm.out.ats
        have hsm : wk.heap.size < wm.heap.size := HIM.out.lt
        clear hy hP hbm hb
        by_cases h30 : yo = 30
        · subst h30
          obtain ⟨⟨f1, f2⟩, f3, f4⟩ := HFI.out.sto rfl
          dsimp only at f1 f2 f3 f4
          obtain ⟨kn, rfl⟩ : ∃ k : Nat, yn = (k : Int) := ⟨yn.toNat, by omega⟩
          obtain ⟨ka, rfl⟩ : ∃ k : Nat, ya = (k : Int) := ⟨ya.toNat, by omega⟩
          have eR := HR.out
          have eS := HSL.out
          rw [HNS.out] at eS
          have hkn : kn < ns := by omega
          have hka : ka < R := by omega
          obtain ⟨u, hu⟩ : ∃ u, P.r[ka]? = some u := ⟨_, List.getElem?_eq_getElem (by rw [HPL.out.1]; exact hka)⟩
          obtain ⟨v, hv⟩ : ∃ v, P.next[kn]? = some v := ⟨_, List.getElem?_eq_getElem (by rw [HPL.out.2]; exact hkn)⟩
          have cu := (HRm.out.cellAt ka (by omega)).trans (intsOf_get _ ka _ hu)
          obtain ⟨ng, hNA, hng1, hng2, cv, fv⟩ := row_at HNm.out hv hkn
          subst hNA
          have hst := (HNm.out.stored kn (.int .i64 u)).1
          rw [← intsOf_set] at hst
          have HPN : Hid (partK C row slots first (i + 1) = ⟨P.r, P.next.set kn u, least⟩) := Lib.hid (by rw [HPS.out]; unfold stepK; rw [if_pos rfl, HLE.out]; dsimp only; rw [at0_of hu]; rfl)
          have hne1 : x1.heap.size ≠ ng := by have := HNB.out.2; omega
          have hne2 : x3.heap.size ≠ ng := fun e => by
            obtain ⟨cs, hc⟩ := own_cells HNm.out (k := ng) rfl
            rw [← e, HTm.out.cell] at hc
            simp at hc
          have hne3 : wk.heap.size ≠ ng := fun e => by
            obtain ⟨cs, hc⟩ := own_cells HNm.out (k := ng) rfl
            rw [← e, HIM.out.cell] at hc
            simp at hc
          have hset : ∀ p : Addr, p.block ≠ ng → (wm.setCell ⟨ng, kn, none⟩ (.int .i64 u)).cell? p = wm.cell? p := fun p hp => World.cell?_of_block (Below.heap_setCell _ _ _ _ hp)
          have K0 : Hid (wm.cell? ⟨x3.heap.size, 0, none⟩ = some (.slice (some ⟨ng, 0, none⟩) ns nc) ∧ wm.cell? ⟨wk.heap.size, 5, none⟩ = some (.int .i64 (kn : Int)) ∧ wm.cell? ⟨wk.heap.size, 2, none⟩ = some (.int .i64 (ka : Int)) ∧ wm.cell? ⟨x1.heap.size, ka, none⟩ = some (.int .i64 u)) := Lib.hid ⟨n0, k5, k2, cu⟩
          have K1 : Hid ((wm.setCell ⟨ng, kn, none⟩ (.int .i64 u)).drew.cell? ⟨x3.heap.size, 0, none⟩ = some (.slice (some ⟨ng, 0, none⟩) ns nc) ∧ (wm.setCell ⟨ng, kn, none⟩ (.int .i64 u)).drew.cell? ⟨wk.heap.size, 5, none⟩ = some (.int .i64 (kn : Int)) ∧ (wm.setCell ⟨ng, kn, none⟩ (.int .i64 u)).drew.cell? ⟨wk.heap.size, 2, none⟩ = some (.int .i64 (ka : Int)) ∧ (wm.setCell ⟨ng, kn, none⟩ (.int .i64 u)).drew.cell? ⟨x1.heap.size, ka, none⟩ = some (.int .i64 u)) :=
            Lib.hid ⟨(hset _ hne2).trans n0, (hset _ hne3).trans k5, (hset _ hne3).trans k2, (hset _ hne1).trans cu⟩
          have HST := Lib.hid hst
          have HRS : Hid ((wm.setCell ⟨ng, kn, none⟩ (.int .i64 u)).drew.ownsRow x1.heap.size 3 1 (.slice (some ⟨x1.heap.size, 0, none⟩) R R) R (intsOf P.r)) := Lib.hid (own_block HRm.out (fun k hk => Below.heap_setCell _ _ _ _ (fun e => by
            have e2 : some x1.heap.size = some k := hk
            injection e2 with e2
            exact hne1 (e2.trans e))))
          have HTS : Hid (StBox (wm.setCell ⟨ng, kn, none⟩ (.int .i64 u)).drew x3.heap.size (.slice (some ⟨ng, 0, none⟩) ns nc) false) := Lib.hid ⟨(Below.heap_setCell _ _ _ _ hne2).trans HTm.out.cell⟩
          have HBS : Hid (Below x1.heap.size x1 (wm.setCell ⟨ng, kn, none⟩ (.int .i64 u)).drew) := Lib.hid (HBm.out.setCell (p := ⟨ng, kn, none⟩) (by have := HNB.out.2; show x1.heap.size ≤ ng; omega) _).drew
          have a1 : (0 : Int) ≤ (kn : Int) := by omega
          have a2 : (kn : Int) < (ns : Int) := by omega
          have a3 : (0 : Int) ≤ (ka : Int) := by omega
          have a4 : (ka : Int) < (R : Int) := by omega
          clear hu hv hst f1 f2 f3 f4 eR eS
          go_wp2_with fail
          try rw [hwm]
          try clear hwm
          go_region_held3 (fun V => V.cell? ⟨x3.heap.size, 0, none⟩ = some (.slice (some ⟨ng, 0, none⟩) ns nc) ∧ V.cell? ⟨wk.heap.size, 5, none⟩ = some (.int .i64 (kn : Int)) ∧ V.cell? ⟨wk.heap.size, 2, none⟩ = some (.int .i64 (ka : Int)) ∧ V.cell? ⟨x1.heap.size, ka, none⟩ = some (.int .i64 u))
            (first | exact K0.out | exact K1.out) (first | fail)
          go_wp2_with fail
          go_roundw
          case rel => exact ⟨i + 1, least, by omega, by go_num, rfl, by rw [HPN.out], by rw [HPN.out]; exact HRS.out, by rw [HPN.out]; exact HST.out, HTS.out, HBS.out⟩
          case measure => simp [intOf]; omega
        · have dop : (yo == 30) = false := by simpa using h30
          obtain ⟨f1, f2⟩ := HFI.out.dst h30
          dsimp only at f1 f2
          obtain ⟨kd, rfl⟩ : ∃ k : Nat, yd = (k : Int) := ⟨yd.toNat, by omega⟩
          have eR := HR.out
          have hkd : kd < R := by omega
          have hfit : FitI row.length P.r.length slots.length ⟨yo, (kd : Int), ya, yb, yc, yn⟩ := by
            have := HFI.out.fit
            rw [HNP.out, ← HKR2.out, ← HSL.out, show C.regs.toNat = P.r.length by rw [HPL.out.1]; omega] at this
            exact this
          have HVAL := Lib.hid (kmade_any wm ⟨yo, (kd : Int), ya, yb, yc, yn⟩ (.slice A5 kr c5) (.slice (some ⟨x1.heap.size, 0, none⟩) R R) (.slice A4 ns c4) row P.r slots first hfit ((HUV.out.below HB1.out (Nat.le_refl _)).below HBm.out (Nat.le_refl _))
            (Ints.of_own (b := x1.heap.size) (by rw [HPL.out.1]; exact HRm.out)) ((HSV.out.below HB1.out (Nat.le_refl _)).below HBm.out (Nat.le_refl _)))
          obtain ⟨p, hp⟩ : ∃ p, madeK ⟨yo, (kd : Int), ya, yb, yc, yn⟩ row P.r slots first = p := ⟨_, rfl⟩
          rw [hp] at HVAL
          unfold insV at HVAL
          dsimp only at HVAL
          have HPN : Hid (partK C row slots first (i + 1) = ⟨P.r.set kd p.1, P.next, leastE least p.2⟩) := Lib.hid (by rw [HPS.out]; unfold stepK; rw [if_neg h30, HLE.out, hp]; rfl)
          obtain ⟨m0, m1⟩ := (HT1.out.below HBm.out HT1.out.lt).ats
          clear hp hfit f1 f2 eR
          go_wp2_with fail
          try rw [hwm]
          try clear hwm
          go_wp2_with fail
          refine HVAL.out.mono ?_
          rintro e w5 ⟨rfl, hb5⟩
          have HR5 := Lib.hid (own_below HRm.out hb5)
          have HN5 := Lib.hid (own_below HNm.out hb5)
          have HT5 := Lib.hid (HTm.out.below hb5 HTm.out.lt)
          have HB5 : Hid (Below x1.heap.size x1 w5) := Lib.hid (HBm.out.trans (hb5.mono HBm.out.size))
          obtain ⟨j0, j1, j2, j3, j4, j5⟩ := (HIM.out.below hb5 HIM.out.lt).ats
          dsimp only at j0 j1 j2 j3 j4 j5
          obtain ⟨v, hv⟩ : ∃ v, P.r[kd]? = some v := ⟨_, List.getElem?_eq_getElem (by rw [HPL.out.1]; exact hkd)⟩
          have ct := (HR5.out.cellAt kd (by omega)).trans (intsOf_get _ kd _ hv)
          have ft := HR5.out.frozenAt kd
          have hst := (HR5.out.stored kd (.int .i64 p.1)).1
          rw [← intsOf_set] at hst
          have HST : Hid ((w5.setCell ⟨x1.heap.size, kd, none⟩ (.int .i64 p.1)).ownsRow x1.heap.size 3 1 (.slice (some ⟨x1.heap.size, 0, none⟩) R R) R (intsOf (partK C row slots first (i + 1)).r)) := Lib.hid (by rw [HPN.out]; exact hst)
          have HNS2 : Hid ((w5.setCell ⟨x1.heap.size, kd, none⟩ (.int .i64 p.1)).ownsRow x2.heap.size 3 1 (.slice NA ns nc) ns (intsOf (partK C row slots first (i + 1)).next)) := Lib.hid (by
            rw [HPN.out]
            exact own_block HN5.out (fun k hk => Below.heap_setCell _ _ _ _ (by have h1 := (HN5.out.lt k hk).1; have h2 := HNB.out.2; show k ≠ x1.heap.size; omega)))
          have HTS : Hid (StBox (w5.setCell ⟨x1.heap.size, kd, none⟩ (.int .i64 p.1)) x3.heap.size (.slice NA ns nc) false) := Lib.hid ⟨(Below.heap_setCell _ _ _ _ (by have h1 := HNB.out.1; show x3.heap.size ≠ x1.heap.size; omega)).trans HT5.out.cell⟩
          have HBS : Hid (Below x1.heap.size x1 (w5.setCell ⟨x1.heap.size, kd, none⟩ (.int .i64 p.1))) := Lib.hid (HB5.out.setCell (p := ⟨x1.heap.size, kd, none⟩) (Nat.le_refl _) _)
          obtain ⟨b1, hb1⟩ : ∃ b, (p.2 != 0) = b := ⟨_, rfl⟩
          obtain ⟨b2, hb2⟩ : ∃ b, (least == 0) = b := ⟨_, rfl⟩
          obtain ⟨b3, hb3⟩ : ∃ b, decide (p.2 < least) = b := ⟨_, rfl⟩
          have HLS : Hid ((partK C row slots first (i + 1)).least = if (b1 && (b2 || b3)) = true then p.2 else least) := Lib.hid (by rw [HPN.out]; exact least_of hb1 hb2 hb3)
          clear hv hst HVAL hb5
          cases b1 with
          | false =>
            go_wp2_with fail
            go_roundw
            case rel => exact ⟨i + 1, _, by omega, by go_num, rfl, HLS.out.symm, HST.out, HNS2.out, HTS.out, HBS.out⟩
            case measure => simp [intOf]; omega
          | true =>
            cases b2 with
            | true =>
              go_wp2_with fail
              go_roundw
              case rel => exact ⟨i + 1, _, by omega, by go_num, rfl, HLS.out.symm, HST.out, HNS2.out, HTS.out, HBS.out⟩
              case measure => simp [intOf]; omega
            | false =>
              cases b3 with
              | true =>
                go_wp2_with fail
                go_roundw
                case rel => exact ⟨i + 1, _, by omega, by go_num, rfl, HLS.out.symm, HST.out, HNS2.out, HTS.out, HBS.out⟩
                case measure => simp [intOf]; omega
              | false =>
                go_wp2_with fail
                go_roundw
                case rel => exact ⟨i + 1, _, by omega, by go_num, rfl, HLS.out.symm, HST.out, HNS2.out, HTS.out, HBS.out⟩
                case measure => simp [intOf]; omega
      · have hie : i = n := by omega
        subst hie
        have HI : Hid (partK C row slots first i = instK C row slots first) := Lib.hid (partK_all HN.out)
        rw [HI.out] at HRr HNr HLE
        obtain ⟨P, hP⟩ : ∃ P, instK C row slots first = P := ⟨_, rfl⟩
        rw [hP] at HRr HNr HLE HTELL
        have HPL : Hid (P.r.length = R ∧ P.next.length = ns) := Lib.hid (by
          have := partK_len C row slots first i
          rw [HI.out, hP] at this
          exact ⟨by rw [this.1]; have := HR.out; omega, by rw [this.2]; exact HNS.out⟩)
        clear hP
        obtain ⟨m0, m1⟩ := (HT1.out.below HBr.out HT1.out.lt).ats
        have HZr := Lib.hid (HZ1.out.below HBr.out HZ1.out.lt)
        obtain ⟨z0', z1'⟩ := HZr.out.ats
        obtain ⟨fz0, fz1⟩ := HZr.out.fzs
        by_cases hl0 : least ≠ 0
        · have hne : (least != 0) = true := by simpa using hl0
          have HE : Hid (tellK C row slots first = ([], slots, least)) := Lib.hid (by rw [HTELL.out, if_pos (by rw [← HLE.out]; exact hl0), ← HLE.out])
          have HEND : Hid (∀ V, V = ((wk.setCell ⟨w.heap.size + 1 + 1, 0, none⟩ (.slice A4 ns c4)).setCell ⟨w.heap.size + 1 + 1, 1, none⟩ (.bool first)) → Below w.heap.size w V ∧ V.cell? ⟨w.heap.size + 1 + 1, 0, none⟩ = some (.slice A4 ns c4) ∧ V.cell? ⟨w.heap.size + 1 + 1, 1, none⟩ = some (.bool first)) := Lib.hid (fun V hV => by
            rw [hV]
            exact ⟨((HBW1.out.trans (HBr.out.mono HBW1.out.size)).setCell (p := ⟨w.heap.size + 1 + 1, 0, none⟩) (by show w.heap.size ≤ w.heap.size + 1 + 1; omega) _).setCell (p := ⟨w.heap.size + 1 + 1, 1, none⟩) (by show w.heap.size ≤ w.heap.size + 1 + 1; omega) _, (HZr.out.set2 (.slice A4 ns c4) first).ats⟩)
          go_wp2_with fail
          go_region
          all_goals
            go_wp2_with fail
            obtain ⟨e1, e2, e3⟩ := HEND.out _ rfl
            have e4 : (((wk.setCell ⟨w.heap.size + 1 + 1, 0, none⟩ (.slice A4 ns c4)).setCell ⟨w.heap.size + 1 + 1, 1, none⟩ (.bool first)).drew).cell? ⟨w.heap.size + 1 + 1, 0, none⟩ = some (.slice A4 ns c4) := e2
            have e5 : (((wk.setCell ⟨w.heap.size + 1 + 1, 0, none⟩ (.slice A4 ns c4)).setCell ⟨w.heap.size + 1 + 1, 1, none⟩ (.bool first)).drew).cell? ⟨w.heap.size + 1 + 1, 1, none⟩ = some (.bool first) := e3
            exact bodyPost_ret (v := .tuple #[.slice none 0 0, .agg #[.slice A4 ns c4, .bool first], .int .i64 least]) (by simp [results, Try.results74, go_sem, e2, e3, e4, e5]) rfl ⟨e1.drew, .inl ⟨by rw [HE.out]; exact hl0, _, _, _, _, by rw [HE.out]⟩⟩
        · have hl0 : least = 0 := by omega
          subst hl0
          have HE : Hid (tellK C row slots first = (rowK C P.r, P.next, 0)) := Lib.hid (by rw [HTELL.out, if_neg (by rw [← HLE.out]; omega)])
          have HRT : Hid (∀ (q : Nat) (y : Int), C.outs[q]? = some y → 0 ≤ y ∧ y < (R : Int)) := Lib.hid (fun q y hq => by
            have := HF.out.outs y (List.mem_of_getElem? hq)
            rw [HR.out] at this; exact this)
          have HRW : Hid ((rowK C P.r).length = no) := Lib.hid (by unfold rowK; rw [List.length_map]; exact HNO.out)
          have HCr := Lib.hid (HC1.out.below HBr.out HC1.out.lt)
          have HOr : Hid (Ints wk (.slice A2 no c2) C.outs) := Lib.hid ((HHX.out.2.1.below HB1.out (Nat.le_refl _)).below HBr.out (Nat.le_refl _))
          have HS1w := HS1.out
          have hs1k : x1.heap.size ≤ wk.heap.size := HBr.out.size
          go_wp2_with fail
          go_loopw [16, 17] (fun v16 v17 wr => ∃ (q : Nat) (A6 : Option Addr) (c6 : Nat), q ≤ no ∧ v17 = .int .i64 (q : Int) ∧ v16 = .slice A6 q c6 ∧ wr.ownsRow wk.heap.size 3 1 (.slice A6 q c6) q (intsOf ((rowK C P.r).take q)) ∧ Below wk.heap.size wk wr) (fun v16 v17 _ => no - (intOf v17).toNat)
          case atStart => exact ⟨0, none, 0, Nat.zero_le _, rfl, rfl, by simp [intsOf]; exact World.ownsRow_nil _ _ _ _, Below.refl _ _⟩
          case round =>
            obtain ⟨q, A6, c6, hq, rfl, rfl, ho6, hb⟩ := hrel
            have HO6 := Lib.hid ho6
            have HBq := Lib.hid hb
            have hsq : wk.heap.size ≤ wr.heap.size := hb.size
            obtain ⟨t0, t1, t2, t3, t4⟩ := (HCr.out.below hb HCr.out.lt).ats
            clear ho6 hb q0 q1 q2 q3 q4
            by_cases hqn : q < no
            · obtain ⟨y, hy⟩ : ∃ y, C.outs[q]? = some y := ⟨_, List.getElem?_eq_getElem (by rw [HNO.out]; exact hqn)⟩
              have hyb := HRT.out q y hy
              obtain ⟨g, o, rfl, hg, e0⟩ := ints_at (HOr.out.below HBq.out (Nat.le_refl _)) hy
              obtain ⟨jj, rfl, hjj⟩ := get_at0 (l := P.r) hyb.1 (by rw [HPL.out.1]; exact hyb.2)
              have hjl : jj < R := by omega
              have HVq := Lib.hid (own_below HRr.out HBq.out)
              have ct := (HVq.out.cellAt jj (by omega)).trans (intsOf_get _ jj _ hjj)
              have HTK : Hid (intsOf ((rowK C P.r).take (q + 1)) = intsOf ((rowK C P.r).take q) ++ [.int .i64 (at0 P.r (jj : Int))]) := Lib.hid (by
                have e : (rowK C P.r)[q]? = some (at0 P.r (jj : Int)) := by unfold rowK; rw [List.getElem?_map, hy]; rfl
                rw [List.take_add_one, e]; exact ints_snoc _ _)
              generalize at0 P.r (jj : Int) = z at ct HTK
              clear hy hyb hjj
              go_wp2_with (at_builtin; refine wpList_append_own_at _ rfl (.tmp 91) (.tmp 100) 23 rfl wk.heap.size 3 i0 (.int .i64 0) 1 8 Try.underlying23 hi0 hz0 hz1 hz2 rfl (by decide) _ _ _ rfl (HO6.out.alloc _) ⟨wr.heap.size, 0, none⟩ 1 1 [.int .i64 z] rfl rfl (cell_one_new _ _ _) ?b1 ?c1 ?d1 ?e1 ?_)
              case b1 => first | rfl | (intro u hu; simp at hu; subst hu; rfl)
              case c1 => unfold maxLen; omega
              case d1 => omega
              case e1 => first | omega | (simp; omega)
              intro v' w7 hown7 hgrow7 _ hat7
              have HO7 : Hid (w7.ownsRow wk.heap.size 3 1 v' (q + 1) (intsOf ((rowK C P.r).take (q + 1)))) := Lib.hid (by rw [HTK.out]; exact hown7)
              have HB7 : Hid (Below wk.heap.size wk w7) := Lib.hid ((HBq.out.alloc hsq _).grown hgrow7 (by simp; omega) (fun k hk => (HO6.out.lt k hk).1))
              obtain ⟨A7, c7, rfl⟩ : ∃ A c, v' = .slice A (q + 1) c := by
                obtain ⟨-, h1 | ⟨g, cap, cur, e, -⟩⟩ := hown7
                · omega
                · exact ⟨_, _, e⟩
              clear hown7 hgrow7 hat7
              go_wp2_with fail
              go_roundw
              case rel => exact ⟨q + 1, A7, c7, by omega, by go_num, rfl, HO7.out, HB7.out⟩
              case measure => simp [intOf]; omega
            · have hqe : q = no := by omega
              subst hqe
              obtain ⟨n0', n1'⟩ := (HTr.out.below HBq.out HTr.out.lt).ats
              have HZq := Lib.hid (HZr.out.below HBq.out HZr.out.lt)
              obtain ⟨z0, z1⟩ := HZq.out.ats
              obtain ⟨fz2, fz3⟩ := HZq.out.fzs
              have HBw : Hid (Below w.heap.size w wr) := Lib.hid ((HBW1.out.trans (HBr.out.mono HBW1.out.size)).trans (HBq.out.mono (by omega)))
              have HNB2 := HNB.out.2
              have HEND : Hid (∀ V, V = ((wr.setCell ⟨w.heap.size + 1 + 1, 0, none⟩ (.slice NA ns nc)).setCell ⟨w.heap.size + 1 + 1, 1, none⟩ (.bool false)) → Below w.heap.size w V ∧ V.cell? ⟨w.heap.size + 1 + 1, 0, none⟩ = some (.slice NA ns nc) ∧ V.cell? ⟨w.heap.size + 1 + 1, 1, none⟩ = some (.bool false) ∧
                  V.ownsRow w.heap.size 3 1 (.slice A6 q c6) (rowK C P.r).length (intsOf (rowK C P.r)) ∧ V.ownsRow w.heap.size 3 1 (.slice NA P.next.length nc) P.next.length (intsOf P.next)) := Lib.hid (fun V hV => by
                have hk : ∀ g, g ≠ w.heap.size + 1 + 1 → V.heap[g]? = wr.heap[g]? := fun g hg => by rw [hV, Below.heap_setCell _ _ _ _ hg, Below.heap_setCell _ _ _ _ hg]
                have h6 := own_base HO6.out (b' := w.heap.size) (by omega)
                rw [← HRW.out, List.take_length] at h6
                have h7 := own_base (own_below HNr.out HBq.out) (b' := w.heap.size) (by omega)
                refine ⟨?_, ?_, ?_, ?_, ?_⟩
                · rw [hV]
                  exact (HBw.out.setCell (p := ⟨w.heap.size + 1 + 1, 0, none⟩) (by show w.heap.size ≤ w.heap.size + 1 + 1; omega) _).setCell (p := ⟨w.heap.size + 1 + 1, 1, none⟩) (by show w.heap.size ≤ w.heap.size + 1 + 1; omega) _
                · rw [hV]; exact (HZq.out.set2 (.slice NA ns nc) false).ats.1
                · rw [hV]; exact (HZq.out.set2 (.slice NA ns nc) false).ats.2
                · rw [← HRW.out]
                  exact own_block h6 (fun g hg => hk g (by rw [HRW.out] at hg; have := (HO6.out.lt g hg).1; omega))
                · rw [HPL.out.2]
                  exact own_block h7 (fun g hg => hk g (by have := (HNr.out.lt g hg).1; omega)))
              clear HNB2
              go_wp2_with fail
              go_region
              all_goals
                go_wp2_with fail
                obtain ⟨e1, e2, e3, e6, e7⟩ := HEND.out _ rfl
                have e4 : (((wr.setCell ⟨w.heap.size + 1 + 1, 0, none⟩ (.slice NA ns nc)).setCell ⟨w.heap.size + 1 + 1, 1, none⟩ (.bool false)).drew).cell? ⟨w.heap.size + 1 + 1, 0, none⟩ = some (.slice NA ns nc) := e2
                have e5 : (((wr.setCell ⟨w.heap.size + 1 + 1, 0, none⟩ (.slice NA ns nc)).setCell ⟨w.heap.size + 1 + 1, 1, none⟩ (.bool false)).drew).cell? ⟨w.heap.size + 1 + 1, 1, none⟩ = some (.bool false) := e3
                exact bodyPost_ret (v := .tuple #[.slice A6 q c6, .agg #[.slice NA ns nc, .bool false], .int .i64 0]) (by simp [results, Try.results74, go_sem, e2, e3, e4, e5]) rfl ⟨e1.drew, .inr ⟨by rw [HE.out], _, NA, nc, by rw [HE.out]; dsimp only; rw [HPL.out.2], by rw [HE.out]; exact e6, by rw [HE.out]; exact e7⟩⟩
end Go.Proofs.Ytcphjehjdhgheaa.Nt

namespace Go.Proofs.Ytcphjehjdhgheaa.Nt
open Go.ChangeShapes Go.WideShapes Go.ChangeAt Go.RowKit Go.Proofs.Ytcphjehjdhgheaa.Tr
set_option linter.unusedVariables false
set_option linter.unusedSimpArgs false

def BegPost (w : World) (S : Nat) (e : Ending) (w' : World) : Prop := ∃ A c, e = .returned (.agg #[.slice A S c, .bool true]) ∧ w'.ownsRow w.heap.size 3 1 (.slice A S c) S (intsOf (List.replicate S 0)) ∧ Below w.heap.size w w'
set_option maxRecDepth 100000 in
set_option maxHeartbeats 4000000 in
theorem kbegin_any (w : World) (iv ov pv : Value) (r : Int) (S : Nat) (hS : S ≤ 100000) : Calls Try.prog 73 #[.agg #[iv, .int .i64 r, .int .i64 (S : Int), ov, pv]] w (BegPost w S) := by
  obtain ⟨x, hx⟩ : ∃ W, (w.alloc (.cells #[iv, .int .i64 r, .int .i64 (S : Int), ov, pv] 54)).alloc (.cells #[.slice none 0 0, .bool false] 123) = W := ⟨_, rfl⟩
  have HBX : Hid (Below w.heap.size w x) := Lib.hid (by rw [← hx]; exact below2 w _ _)
  have HCX : Hid (CodBox x w.heap.size 54 iv r (S : Int) ov pv) := Lib.hid ⟨by
    rw [← hx, Below.heap_alloc _ _ _ (by simp)]
    exact heap_alloc_new _ _⟩
  have HZX : Hid (StBox x (w.heap.size + 1) (.slice none 0 0) false) := Lib.hid ⟨by
    rw [← hx]
    have := heap_alloc_new (w.alloc (.cells #[iv, .int .i64 r, .int .i64 (S : Int), ov, pv] 54)) (.cells #[.slice none 0 0, .bool false] 123)
    simpa using this⟩
  have hmk := run_make_row' (P := Try.prog) 23 3 (.int .i64 0) 8 Try.underlying23 info3 rfl .i64 .i64 S (by omega) (by omega)
  obtain ⟨x2, hx2⟩ : ∃ V, x.alloc (.cells (madeCells #[.int .i64 0] S) 3) = V := ⟨_, rfl⟩
  have HB2 : Hid (Below x.heap.size x x2) := Lib.hid (by rw [← hx2]; exact below_new _ _)
  have HO2 : Hid (x2.ownsRow x.heap.size 3 1 (.slice (some ⟨x.heap.size, 0, none⟩) S S) S (intsOf (List.replicate S 0))) := Lib.hid (by
    have h1 := heap_alloc_new x (.cells (madeCells #[.int .i64 0] S) 3)
    rw [hx2] at h1
    refine own_at (xs := intsOf (List.replicate S 0)) ?_ (Nat.le_refl _) (by simp [intsOf]) (by unfold maxLen; omega)
    rw [← made_ints]; exact h1)
  have hxs : x.heap.size = w.heap.size + 2 := by rw [← hx]; simp
  have HXS := Lib.hid hxs
  have HZ2 := Lib.hid (HZX.out.below HB2.out HZX.out.lt)
  obtain ⟨p0, p1, p2, p3, p4⟩ := HCX.out.ats
  obtain ⟨z0, z1⟩ := HZ2.out.ats
  obtain ⟨fz0, fz1⟩ := HZ2.out.fzs
  clear hxs
  go_enter Try.func73, Try.ntmps73
  go_wp2_with fail
  try rw [hx]
  clear hx
  go_wp2_with fail
  try rw [hx2]
  clear hx2
  try go_wp2_with fail
  obtain ⟨y0, y1⟩ := (HZ2.out.set2 (.slice (some ⟨x.heap.size, 0, none⟩) S S) true).ats
  refine bodyPost_ret (v := .agg #[.slice (some ⟨x.heap.size, 0, none⟩) S S, .bool true]) (by simp [results, Try.results73, go_sem, y0, y1]) rfl ⟨_, _, rfl, ?_, ?_⟩
  · refine own_block (own_base HO2.out (by have := HXS.out; omega)) (fun g hg => ?_)
    have hne : g ≠ w.heap.size + 1 := by have := (HO2.out.lt g hg).1; have := HXS.out; omega
    rw [Below.heap_setCell _ _ _ _ hne, Below.heap_setCell _ _ _ _ hne]
  · exact ((HBX.out.trans (HB2.out.mono HBX.out.size)).setCell (p := ⟨w.heap.size + 1, 0, none⟩) (by simp) _).setCell (p := ⟨w.heap.size + 1, 1, none⟩) (by simp) _
/-- What an instant leaves. -/
theorem step_post {w w' : World} {p : List Int × List Int × Int} {e : Ending} (h : StepPost w p e w') : Below w.heap.size w w' ∧ ∃ RA rn rc A n c f, e = .returned (.tuple #[.slice RA rn rc, .agg #[.slice A n c, .bool f], .int .i64 p.2.2]) ∧
    (p.2.2 = 0 → rn = p.1.length ∧ n = p.2.1.length ∧ f = false ∧ w'.ownsRow w.heap.size 3 1 (.slice RA rn rc) p.1.length (intsOf p.1) ∧ w'.ownsRow w.heap.size 3 1 (.slice A n c) p.2.1.length (intsOf p.2.1)) := by
  obtain ⟨hb, ⟨h0, A, n, c, f, rfl⟩ | ⟨h0, rv, A, c, rfl, h1, h2⟩⟩ := h
  · exact ⟨hb, none, 0, 0, A, n, c, f, rfl, fun e => absurd e h0⟩
  · obtain ⟨RA, rc, rfl, -, -⟩ := own_slice h1
    exact ⟨hb, RA, _, rc, A, _, c, false, by rw [h0], fun _ => ⟨rfl, rfl, rfl, h1, h2⟩⟩
theorem own_set2 {w : World} {b T s n sb : Nat} {v sv : Value} {f : Bool} {xs : List Value} (h : w.ownsRow b T s v n xs) (hs : StBox w sb sv f) (hT : T ≠ 123) (a c : Value) : ((w.setCell ⟨sb, 0, none⟩ a).setCell ⟨sb, 1, none⟩ c).ownsRow b T s v n xs :=
  own_block h (fun g hg => by
    have hne : g ≠ sb := fun e => by
      obtain ⟨cs, hc⟩ := own_cells h hg
      rw [e, hs.cell] at hc
      simp at hc
      exact hT hc.2.symm
    rw [Below.heap_setCell _ _ _ _ hne, Below.heap_setCell _ _ _ _ hne])
theorem OutV.set2 {w : World} {b sb : Nat} {v sv : Value} {f : Bool} {l : List (List Int)} {vs : List Value} (h : OutV w b v l vs) (hs : StBox w sb sv f) (a c : Value) : OutV ((w.setCell ⟨sb, 0, none⟩ a).setCell ⟨sb, 1, none⟩ c) b v l vs :=
  ⟨own_set2 h.1 hs (by decide) a c, h.2.1, fun i r u hi hu => own_set2 (h.2.2 i r u hi hu) hs (by decide) a c⟩
theorem StBox.past {w w7 : World} {b n s sb : Nat} {T : TypeId} {v sv : Value} {f : Bool} {xs : List Value} (h : StBox w sb sv f) (hr : w.ownsRow b T s v n xs) (hT : T ≠ 123) (o : Obj) (hg : (w.alloc o).grownBy w7 v.ownBlock) : StBox w7 sb sv f := ⟨by
  have hl := h.lt
  rw [hg.block sb (by simp; omega) (fun e => by
    obtain ⟨cs, hc⟩ := own_cells hr (k := sb) (by first | exact e | exact e.symm)
    rw [h.cell] at hc
    simp at hc
    exact hT hc.2.symm), Below.heap_alloc _ _ _ hl]
  exact h.cell⟩
theorem tell_len {C : Cod} {row slots pr ps : List Int} {first : Bool} {er : Int} (h : tellK C row slots first = (pr, ps, er)) : ps.length = slots.length := by
  have hz := (foldK_len row slots first C.ins ⟨List.replicate C.regs.toNat 0, slots, 0⟩).2
  unfold tellK at h
  split at h
  · injection h with _ h; injection h with h _; rw [← h]
  · split at h
    · injection h with _ h; injection h with h _; rw [← h]
    · injection h with _ h; injection h with h _; rw [← h]; exact hz
set_option maxRecDepth 100000 in
set_option maxHeartbeats 16000000 in
theorem krun_any (w : World) (iv ov pv lv : Value) (C : Cod) (l : List (List Int)) (h : CodR w iv ov pv C) (hl : RowsR w lv l) (hol : C.outs.length ≤ 100000) (hl3 : l.length ≤ 1000) :
    Calls Try.prog 39 #[.agg #[iv, .int .i64 C.regs, .int .i64 C.slots, ov, pv], lv] w (RunPost w (runK C l)) := by
  obtain ⟨i0, hi0, hz0, hz1, hz2⟩ := info_parts info3
  obtain ⟨j0, hj0, hy0, hy1, hy2⟩ := info_parts infoS
  have HH := Lib.hid h
  obtain ⟨A, c, rfl, z1, z2⟩ := h.1.form
  obtain ⟨A2, c2, rfl, z3, z4⟩ := ints_form h.2.1
  obtain ⟨A3, c3, rfl, z5, z6⟩ := ints_form h.2.2
  obtain ⟨AL, cl, rfl, z7, z8⟩ := hl.form
  obtain ⟨n, hn⟩ : ∃ L, C.ins.length = L := ⟨_, rfl⟩
  obtain ⟨no, hno⟩ : ∃ L, C.outs.length = L := ⟨_, rfl⟩
  obtain ⟨np, hnp⟩ : ∃ L, C.inp.length = L := ⟨_, rfl⟩
  obtain ⟨m, hml⟩ : ∃ L, l.length = L := ⟨_, rfl⟩
  obtain ⟨RG, hRG⟩ : ∃ r, C.regs = r := ⟨_, rfl⟩
  obtain ⟨SL, hSL⟩ : ∃ r, C.slots = r := ⟨_, rfl⟩
  have HML := Lib.hid hml
  have HRG := Lib.hid hRG
  have HSL := Lib.hid hSL
  rw [hn, hno, hnp] at HH
  rw [hn, hno, hnp]
  rw [hml] at z7 hl3 hl ⊢
  rw [hRG, hSL]
  unfold maxLen at z2 z4 z6 z8
  obtain ⟨x, hx⟩ : ∃ W, w.alloc (.cells #[.slice A n c, .int .i64 RG, .int .i64 SL, .slice A2 no c2, .slice A3 np c3] 54) = W := ⟨_, rfl⟩
  have HX := Lib.hid hx
  have HBX : Hid (Below w.heap.size w x) := Lib.hid (by rw [← hx]; exact below_new _ _)
  have HCX : Hid (CodBox x w.heap.size 54 (.slice A n c) RG SL (.slice A2 no c2) (.slice A3 np c3)) := Lib.hid (by rw [← hx]; exact codbox_new _ _ _ _ _ _ _)
  have HHX : Hid (CodR x (.slice A n c) (.slice A2 no c2) (.slice A3 np c3) C) := Lib.hid ⟨HH.out.1.below HBX.out (Nat.le_refl _), HH.out.2.1.below HBX.out (Nat.le_refl _), HH.out.2.2.below HBX.out (Nat.le_refl _)⟩
  have HLX := Lib.hid (hl.below HBX.out (Nat.le_refl _))
  have HCHK := Lib.hid (kcheck_any x _ _ _ C HHX.out)
  rw [HRG.out, HSL.out] at HCHK
  obtain ⟨p0, p1, p2, p3, p4⟩ := HCX.out.ats
  obtain ⟨K, hK⟩ : ∃ K, checkK C = K := ⟨_, rfl⟩
  rw [hK] at HCHK
  have HK := Lib.hid hK
  clear h hl hx hn hno hnp hml hK hRG hSL
  go_enter Try.func39, Try.ntmps39
  go_wp2_with fail
  try rw [HX.out]
  try go_wp2_with fail
  refine HCHK.out.mono ?_
  rintro e x1 ⟨rfl, hb1⟩
  have HB1 := Lib.hid hb1
  have HC1 := Lib.hid (HCX.out.below hb1 HCX.out.lt)
  have HBW1 : Hid (Below w.heap.size w x1) := Lib.hid (HBX.out.trans (hb1.mono HBX.out.size))
  have HS1 : Hid (w.heap.size < x1.heap.size) := Lib.hid (HC1.out.lt)
  clear hb1 p0 p1 p2 p3 p4
  obtain ⟨q0, q1, q2, q3, q4⟩ := HC1.out.ats
  by_cases hc : K ≠ 0
  · have hne : (K != 0) = true := by simpa using hc
    have HR : Hid (runK C l = ([], K)) := Lib.hid (by unfold runK; rw [HK.out, if_pos hc])
    go_wp2_with fail
    exact bodyPost_ret (v := .tuple #[.slice none 0 0, .int .i64 K]) (by simp [results, Try.results39, go_sem]) rfl ⟨_, by rw [HR.out], by rw [HR.out]; exact rows_nil _, HBW1.out⟩
  · have hc : K = 0 := by omega
    subst hc
    have HF := Lib.hid (check_fits HK.out)
    obtain ⟨S, hS⟩ : ∃ S : Nat, SL = (S : Int) := ⟨SL.toNat, by have := HF.out.slots; rw [HSL.out] at this; omega⟩
    subst hS
    have hS3 : S ≤ 100000 := by have := HF.out.slots; rw [HSL.out] at this; omega
    have HST : Hid (C.slots.toNat = S) := Lib.hid (by rw [HSL.out]; omega)
    have HRUN : Hid (runK C l = goR C l (List.replicate S 0) true []) := Lib.hid (by unfold runK; rw [HK.out, if_neg (by omega), HST.out])
    go_wp2_with fail
    refine (kbegin_any x1 (.slice A n c) (.slice A2 no c2) (.slice A3 np c3) RG S hS3).mono ?_
    rintro e x2 ⟨SA, sc, rfl, ho2, hb2⟩
    obtain ⟨x3, hx3⟩ : ∃ V, x2.alloc (.cells #[.slice SA S sc, .bool true] 123) = V := ⟨_, rfl⟩
    have HB3 : Hid (Below x1.heap.size x1 x3) := Lib.hid (by rw [← hx3]; exact hb2.alloc hb2.size _)
    have HO3 : Hid (x3.ownsRow x1.heap.size 3 1 (.slice SA S sc) S (intsOf (List.replicate S 0))) := Lib.hid (own_below ho2 (by rw [← hx3]; exact below_new _ _))
    have HT3 : Hid (StBox x3 x2.heap.size (.slice SA S sc) true) := Lib.hid ⟨by rw [← hx3]; exact heap_alloc_new _ _⟩
    have HS2 : Hid (x1.heap.size ≤ x2.heap.size) := Lib.hid hb2.size
    have HX3 := Lib.hid hx3
    clear ho2 hb2
    go_wp2_with fail
    try rw [hx3]
    try clear hx3
    try go_wp2_with fail
    go_loopw [8, 9] (fun v8 v9 wr => ∃ (i : Nat) (out : List (List Int)) (vs : List Value) (sl : List Int) (A8 : Option Addr) (c8 : Nat) (SA' : Option Addr) (sc' : Nat) (first : Bool), i ≤ m ∧ v9 = .int .i64 (i : Int) ∧ v8 = .slice A8 out.length c8 ∧ sl.length = S ∧
      OutV wr x1.heap.size (.slice A8 out.length c8) out vs ∧ wr.ownsRow x1.heap.size 3 1 (.slice SA' S sc') S (intsOf sl) ∧ StBox wr x2.heap.size (.slice SA' S sc') first ∧ out.length ≤ i ∧ Below x1.heap.size x1 wr ∧ goR C l (List.replicate S 0) true [] = goR C (l.drop i) sl first out) (fun v8 v9 _ => m - (intOf v9).toNat)
    case atStart => exact ⟨0, [], [], List.replicate S 0, none, 0, SA, sc, true, Nat.zero_le _, rfl, rfl, by simp, OutV.nil _ _, HO3.out, HT3.out, Nat.le_refl _, HB3.out, rfl⟩
    case round =>
      obtain ⟨i, out, vs, sl, A8, c8, SA', sc', first, hi, rfl, rfl, hsl, hout, hsr, htb, hol2, hb, hgo⟩ := hrel
      obtain ⟨k8, hk8⟩ : ∃ k, out.length = k := ⟨_, rfl⟩
      rw [hk8] at hout hol2 ⊢
      have HK8 := Lib.hid hk8
      have HSLN := Lib.hid hsl
      have HOUT := Lib.hid hout
      have HSR := Lib.hid hsr
      have HTB := Lib.hid htb
      have HB := Lib.hid hb
      have HGO := Lib.hid hgo
      obtain ⟨wm, hwm⟩ : ∃ W, W = wr := ⟨_, rfl⟩
      subst hwm
      have hx1m : x1.heap.size ≤ wm.heap.size := hb.size
      have hx2m : x2.heap.size < wm.heap.size := htb.lt
      clear hout hsr htb hb hgo hk8 hsl q0 q1 q2 q3 q4
      by_cases him : i < m
      · obtain ⟨row, hrow⟩ : ∃ r, l[i]? = some r := ⟨_, List.getElem?_eq_getElem (by rw [HML.out]; exact him)⟩
        have HGR : Hid (goR C (l.drop i) sl first out = if (tellK C row sl first).2.2 ≠ 0 then (out, (tellK C row sl first).2.2) else goR C (l.drop (i + 1)) (tellK C row sl first).2.1 false (out ++ [(tellK C row sl first).1])) := Lib.hid (by rw [drop_at hrow]; rfl)
        obtain ⟨lg, lo, RB, rd, rfl, hlg, e0, e1, e2, hri⟩ := ((HLX.out.below HB1.out (Nat.le_refl _)).below HB.out (Nat.le_refl _)).at hrow
        have HRI := Lib.hid hri
        unfold maxLen at e2
        obtain ⟨kr, hkr⟩ : ∃ k, row.length = k := ⟨_, rfl⟩
        rw [hkr] at e0 e1 HRI
        have hlg2 : lg < wm.heap.size := hlg
        have HCm := Lib.hid (HC1.out.below HB.out HC1.out.lt)
        have HCR : Hid (CodR wm (.slice A n c) (.slice A2 no c2) (.slice A3 np c3) C) := Lib.hid ⟨(HHX.out.1.below HB1.out (Nat.le_refl _)).below HB.out (Nat.le_refl _), (HHX.out.2.1.below HB1.out (Nat.le_refl _)).below HB.out (Nat.le_refl _), (HHX.out.2.2.below HB1.out (Nat.le_refl _)).below HB.out (Nat.le_refl _)⟩
        have HSI : Hid (Ints wm (.slice SA' S sc') sl) := Lib.hid (Ints.of_own (b := x1.heap.size) (by rw [HSLN.out]; exact HSR.out))
        obtain ⟨⟨pr, ps, er⟩, hp⟩ : ∃ p, tellK C row sl first = p := ⟨_, rfl⟩
        have HGR2 : Hid (goR C (l.drop i) sl first out = if er ≠ 0 then (out, er) else goR C (l.drop (i + 1)) ps false (out ++ [pr])) := Lib.hid (by have := HGR.out; rw [hp] at this; exact this)
        have HPSL : Hid (ps.length = S) := Lib.hid (by rw [tell_len hp]; exact HSLN.out)
        have HSTP : Hid (∀ W, Below wm.heap.size wm W → Calls Try.prog 74 #[.agg #[.slice A n c, .int .i64 RG, .int .i64 (S : Int), .slice A2 no c2, .slice A3 np c3], .agg #[.slice SA' S sc', .bool first], .slice RB kr rd] W (fun e w' => Below W.heap.size W w' ∧ ∃ RA rn rc A n c f, e = .returned (.tuple #[.slice RA rn rc, .agg #[.slice A n c, .bool f], .int .i64 er]) ∧
            (er = 0 → rn = pr.length ∧ n = ps.length ∧ f = false ∧ w'.ownsRow wm.heap.size 3 1 (.slice RA rn rc) pr.length (intsOf pr) ∧ w'.ownsRow wm.heap.size 3 1 (.slice A n c) ps.length (intsOf ps)))) := Lib.hid (fun W hW => by
          have h1 := kstep_any W (.slice A n c) (.slice A2 no c2) (.slice A3 np c3) (.slice SA' S sc') (.slice RB kr rd) C row sl first ⟨HCR.out.1.below hW (Nat.le_refl _), HCR.out.2.1.below hW (Nat.le_refl _), HCR.out.2.2.below hW (Nat.le_refl _)⟩ (HSI.out.below hW (Nat.le_refl _)) (HRI.out.below hW (Nat.le_refl _)) HF.out (by rw [HSLN.out, HST.out]) hol
          rw [HRG.out, HSL.out, hp] at h1
          refine h1.mono (fun e w' he => ?_)
          obtain ⟨g1, RA, rn, rc, A, n, c, f, g2, g3⟩ := step_post he
          refine ⟨g1, RA, rn, rc, A, n, c, f, g2, fun h0 => ?_⟩
          obtain ⟨k1, k2, k3, k4, k5⟩ := g3 h0
          exact ⟨k1, k2, k3, own_base k4 hW.size, own_base k5 hW.size⟩)
        have HKS : Hid (∀ W, Below wm.heap.size wm W → W.cell? ⟨w.heap.size, 0, none⟩ = some (.slice A n c) ∧ W.cell? ⟨w.heap.size, 1, none⟩ = some (.int .i64 RG) ∧ W.cell? ⟨w.heap.size, 2, none⟩ = some (.int .i64 (S : Int)) ∧ W.cell? ⟨w.heap.size, 3, none⟩ = some (.slice A2 no c2) ∧ W.cell? ⟨w.heap.size, 4, none⟩ = some (.slice A3 np c3) ∧ W.cell? ⟨x2.heap.size, 0, none⟩ = some (.slice SA' S sc') ∧ W.cell? ⟨x2.heap.size, 1, none⟩ = some (.bool first) ∧ W.cell? ⟨lg, lo + i, none⟩ = some (.slice RB kr rd)) := Lib.hid (fun W hW => by
          obtain ⟨a0, a1, a2, a3, a4⟩ := (HCm.out.below hW HCm.out.lt).ats
          obtain ⟨a5, a6⟩ := (HTB.out.below hW HTB.out.lt).ats
          exact ⟨a0, a1, a2, a3, a4, a5, a6, (hW.cell hlg2).trans e0⟩)
        have HKA : Hid (∀ V o, Below wm.heap.size wm V → Below wm.heap.size wm (V.alloc o) ∧ Below wm.heap.size wm (V.alloc o).drew) := Lib.hid (fun V o hV => ⟨hV.alloc hV.size _, (hV.alloc hV.size _).drew⟩)
        have HBcur : Hid (Below wm.heap.size wm wm.drew) := Lib.hid (Below.refl _ _).drew
        have HB00 : Hid (Below wm.heap.size wm wm) := Lib.hid (Below.refl _ _)
        have HZ0 : Hid (∀ W w5, W = (wm.alloc (.cells #[.slice none 0 0, .bool false] 123)).drew → Below W.heap.size W w5 → StBox w5 wm.heap.size (.slice none 0 0) false) := Lib.hid (fun W w5 hW hb => by
          subst hW
          exact ⟨(hb.block wm.heap.size (by show wm.heap.size < (wm.alloc (.cells #[.slice none 0 0, .bool false] 123)).heap.size; simp)).trans (heap_alloc_new _ _)⟩)
        have HKC : Hid (∀ V a c, Below wm.heap.size wm V → Below wm.heap.size wm ((V.setCell ⟨wm.heap.size, 0, none⟩ a).setCell ⟨wm.heap.size, 1, none⟩ c)) := Lib.hid (fun V a c hV => (hV.setCell (p := ⟨wm.heap.size, 0, none⟩) (Nat.le_refl _) _).setCell (p := ⟨wm.heap.size, 1, none⟩) (Nat.le_refl _) _)
        clear hrow hri hlg hkr hp e0
        go_wp2_with fail
        go_region_held3 (fun W => W.cell? ⟨w.heap.size, 0, none⟩ = some (.slice A n c) ∧ W.cell? ⟨w.heap.size, 1, none⟩ = some (.int .i64 RG) ∧ W.cell? ⟨w.heap.size, 2, none⟩ = some (.int .i64 (S : Int)) ∧ W.cell? ⟨w.heap.size, 3, none⟩ = some (.slice A2 no c2) ∧ W.cell? ⟨w.heap.size, 4, none⟩ = some (.slice A3 np c3) ∧ W.cell? ⟨x2.heap.size, 0, none⟩ = some (.slice SA' S sc') ∧ W.cell? ⟨x2.heap.size, 1, none⟩ = some (.bool first) ∧ W.cell? ⟨lg, lo + i, none⟩ = some (.slice RB kr rd))
          (first | exact HKS.out _ HBcur.out | exact HKS.out _ HBcur.out.drew | exact HKS.out _ HB00.out | exact HKS.out _ (HKA.out _ _ HBcur.out).1 | exact HKS.out _ (HKA.out _ _ HBcur.out).2 | exact HKS.out _ (HKA.out _ _ HB00.out).1 | exact HKS.out _ (HKA.out _ _ HB00.out).2 | exact HKS.out _ (HKC.out _ _ _ HBcur.out) | exact HKS.out _ (HKC.out _ _ _ HBcur.out).drew)
          (first
            | (go_at_call 74; with_reducible refine (HSTP.out _ HBcur.out).mono ?_; rintro e w5 ⟨hb5, RA, rn, rc, NA, nn, nc, f', rfl, hok⟩; have HBcur := Lib.hid (HBcur.out.trans (hb5.mono HBcur.out.size)); have HOK := Lib.hid hok; clear hb5 hok)
            | (go_at_call 74; with_reducible refine (HSTP.out _ (HKA.out _ _ HB00.out).2).mono ?_; rintro e w5 ⟨hb5, RA, rn, rc, NA, nn, nc, f', rfl, hok⟩; have HZ5 := Lib.hid (HZ0.out _ _ rfl hb5); have HBcur := Lib.hid ((HKA.out _ _ HB00.out).2.trans (hb5.mono (HKA.out _ _ HB00.out).2.size)); have HOK := Lib.hid hok; obtain ⟨zz0, zz1⟩ := HZ5.out.ats; obtain ⟨zf0, zf1⟩ := HZ5.out.fzs; clear hb5 hok))
        · obtain ⟨w6, hw6⟩ : ∃ V, w5.alloc (.cells #[.slice NA nn nc, .bool f'] 123) = V := ⟨_, rfl⟩
          have HT6 : Hid (StBox w6 w5.heap.size (.slice NA nn nc) f') := Lib.hid ⟨by rw [← hw6]; exact heap_alloc_new _ _⟩
          have HB6 : Hid (Below wm.heap.size wm w6) := Lib.hid (by rw [← hw6]; exact (HKA.out _ _ HBcur.out).1)
          have HOK6 : Hid (er = 0 → rn = pr.length ∧ nn = ps.length ∧ f' = false ∧ w6.ownsRow wm.heap.size 3 1 (.slice RA rn rc) pr.length (intsOf pr) ∧ w6.ownsRow wm.heap.size 3 1 (.slice NA nn nc) ps.length (intsOf ps)) := Lib.hid (fun e => by
            obtain ⟨a1, a2, a3, a4, a5⟩ := HOK.out e
            have hbl : Below w5.heap.size w5 w6 := by rw [← hw6]; exact below_new _ _
            exact ⟨a1, a2, a3, own_below a4 hbl, own_below a5 hbl⟩)
          rw [hw6]
          clear hw6 HOK HSTP HKS HBcur
          have HX6 := Lib.hid (HTB.out.below HB6.out HTB.out.lt)
          have HOUT6 := Lib.hid (HOUT.out.below HB6.out)
          have hw6s : wm.heap.size ≤ w6.heap.size := HB6.out.size
          by_cases h0 : er ≠ 0
          · have hne : (er != 0) = true := by simpa using h0
            have HF2 : Hid (runK C l = (out, er)) := Lib.hid (by rw [HRUN.out, HGO.out, HGR2.out, if_pos h0])
            have HFR' : Hid (RowsR w6 (.slice A8 k8 c8) out) := Lib.hid HOUT6.out.rows
            go_wp2_with fail
            exact bodyPost_ret (v := .tuple #[.slice A8 k8 c8, .int .i64 er]) (by simp [results, Try.results39, go_sem]) rfl ⟨_, by rw [HF2.out], by rw [HF2.out]; exact HFR'.out, HBW1.out.trans ((HB.out.trans (HB6.out.mono HB.out.size)).mono HBW1.out.size)⟩
          · have h0 : er = 0 := by omega
            obtain ⟨hrn, hnn, hff, h4, h5⟩ := HOK6.out h0
            subst h0
            subst hff
            have HG3 : Hid (goR C l (List.replicate S 0) true [] = goR C (l.drop (i + 1)) ps false (out ++ [pr])) := Lib.hid (by rw [HGO.out, HGR2.out, if_neg (by simp)])
            rw [HPSL.out] at hnn h5
            subst hnn
            obtain ⟨kp, hkp⟩ : ∃ k, pr.length = k := ⟨_, rfl⟩
            rw [hkp] at hrn h4
            subst hrn
            have HKP := Lib.hid hkp
            have HRO : Hid (w6.ownsRow x1.heap.size 3 1 (.slice RA rn rc) pr.length (intsOf pr)) := Lib.hid (by rw [HKP.out]; exact own_base h4 hx1m)
            have HSO : Hid (w6.ownsRow x1.heap.size 3 1 (.slice NA nn nc) nn (intsOf ps)) := Lib.hid (own_base h5 hx1m)
            have hown8 := HOUT6.out.1
            rw [HK8.out] at hown8
            have HB16 : Hid (Below x1.heap.size x1 w6) := Lib.hid (HB.out.trans (HB6.out.mono HB.out.size))
            have hsz6 : x1.heap.size ≤ w6.heap.size := HB16.out.size
            clear h4 h5 hkp HOK6
            go_wp2_with (at_builtin; refine wpList_append_own_at _ rfl (.tmp 41) (.tmp 43) 46 rfl x1.heap.size 23 j0 (.slice none 0 0) 1 24 Try.underlying46 hj0 hy0 hy1 hy2 rfl (by decide) _ _ _ rfl (hown8.alloc _) ⟨w6.heap.size, 0, none⟩ 1 1 [.slice RA rn rc] rfl rfl (cell_one_new _ _ _) ?b1 ?c1 ?d1 ?e1 ?_)
            case b1 => first | rfl | (intro u hu; simp at hu; subst hu; rfl)
            case c1 => unfold maxLen; omega
            case d1 => omega
            case e1 => first | omega | (simp; omega)
            intro v' w7 hown7 hgrow7 _ hat7
            have HO7 : Hid (OutV w7 x1.heap.size v' (out ++ [pr]) (vs ++ [.slice RA rn rc])) := Lib.hid (HOUT6.out.snoc HRO.out _ hgrow7 (by rw [HK8.out]; exact hown7))
            have HS7 : Hid (w7.ownsRow x1.heap.size 3 1 (.slice NA nn nc) nn (intsOf ps)) := Lib.hid (own_past HSO.out hown8 (by decide) _ hgrow7)
            have HB7 : Hid (Below x1.heap.size x1 w7) := Lib.hid ((HB16.out.alloc hsz6 _).grown hgrow7 (by simp; omega) (fun k hk => (hown8.lt k hk).1))
            have HX7 := Lib.hid (HX6.out.past hown8 (by decide) _ hgrow7)
            have HT7 := Lib.hid (HT6.out.past hown8 (by decide) _ hgrow7)
            have HLO : Hid ((out ++ [pr]).length = k8 + 1) := Lib.hid (by rw [List.length_append, HK8.out]; rfl)
            obtain ⟨A7, c7, rfl⟩ : ∃ A c, v' = .slice A (k8 + 1) c := by
              obtain ⟨-, h1 | ⟨g, cap, cur, e, -⟩⟩ := hown7
              · omega
              · exact ⟨_, _, e⟩
            rw [← HLO.out] at HO7
            obtain ⟨r0, r1⟩ := HT7.out.ats
            obtain ⟨g0, g1⟩ := HX7.out.ats
            obtain ⟨fg0, fg1⟩ := HX7.out.fzs
            have HFO := Lib.hid (HO7.out.set2 HX7.out (.slice NA nn nc) (.bool false))
            have HFS := Lib.hid (own_set2 HS7.out HX7.out (by decide) (.slice NA nn nc) (.bool false))
            have HFT := Lib.hid (HX7.out.set2 (.slice NA nn nc) false)
            have HFB : Hid (Below x1.heap.size x1 ((w7.setCell ⟨x2.heap.size, 0, none⟩ (.slice NA nn nc)).setCell ⟨x2.heap.size, 1, none⟩ (.bool false))) := Lib.hid ((HB7.out.setCell (p := ⟨x2.heap.size, 0, none⟩) HS2.out _).setCell (p := ⟨x2.heap.size, 1, none⟩) HS2.out _)
            clear hown7 hgrow7 hat7 hown8
            go_wp2_with fail
            go_roundw
            case rel => exact ⟨i + 1, out ++ [pr], vs ++ [.slice RA rn rc], ps, A7, c7, NA, nc, false, by omega, by go_num, by rw [HLO.out], HPSL.out, HFO.out, HFS.out, HFT.out, by rw [HLO.out]; omega, HFB.out, HG3.out⟩
            case measure => simp [intOf]; omega
        · obtain ⟨w6, hw6⟩ : ∃ V, (w5.setCell ⟨wm.heap.size, 0, none⟩ (.slice NA nn nc)).setCell ⟨wm.heap.size, 1, none⟩ (.bool f') = V := ⟨_, rfl⟩
          have HT6 : Hid (StBox w6 wm.heap.size (.slice NA nn nc) f') := Lib.hid (by rw [← hw6]; exact HZ5.out.set2 _ _)
          have HB6 : Hid (Below wm.heap.size wm w6) := Lib.hid (by rw [← hw6]; exact HKC.out _ _ _ HBcur.out)
          have HOK6 : Hid (er = 0 → rn = pr.length ∧ nn = ps.length ∧ f' = false ∧ w6.ownsRow wm.heap.size 3 1 (.slice RA rn rc) pr.length (intsOf pr) ∧ w6.ownsRow wm.heap.size 3 1 (.slice NA nn nc) ps.length (intsOf ps)) := Lib.hid (fun e => by
            obtain ⟨a1, a2, a3, a4, a5⟩ := HOK.out e
            rw [← hw6]
            exact ⟨a1, a2, a3, own_set2 a4 HZ5.out (by decide) _ _, own_set2 a5 HZ5.out (by decide) _ _⟩)
          rw [hw6]
          clear hw6 HOK HSTP HKS HBcur zz0 zz1 zf0 zf1 HZ5
          have HX6 := Lib.hid (HTB.out.below HB6.out HTB.out.lt)
          have HOUT6 := Lib.hid (HOUT.out.below HB6.out)
          have hw6s : wm.heap.size ≤ w6.heap.size := HB6.out.size
          by_cases h0 : er ≠ 0
          · have hne : (er != 0) = true := by simpa using h0
            have HF2 : Hid (runK C l = (out, er)) := Lib.hid (by rw [HRUN.out, HGO.out, HGR2.out, if_pos h0])
            have HFR' : Hid (RowsR w6 (.slice A8 k8 c8) out) := Lib.hid HOUT6.out.rows
            go_wp2_with fail
            exact bodyPost_ret (v := .tuple #[.slice A8 k8 c8, .int .i64 er]) (by simp [results, Try.results39, go_sem]) rfl ⟨_, by rw [HF2.out], by rw [HF2.out]; exact HFR'.out, HBW1.out.trans ((HB.out.trans (HB6.out.mono HB.out.size)).mono HBW1.out.size)⟩
          · have h0 : er = 0 := by omega
            obtain ⟨hrn, hnn, hff, h4, h5⟩ := HOK6.out h0
            subst h0
            subst hff
            have HG3 : Hid (goR C l (List.replicate S 0) true [] = goR C (l.drop (i + 1)) ps false (out ++ [pr])) := Lib.hid (by rw [HGO.out, HGR2.out, if_neg (by simp)])
            rw [HPSL.out] at hnn h5
            subst hnn
            obtain ⟨kp, hkp⟩ : ∃ k, pr.length = k := ⟨_, rfl⟩
            rw [hkp] at hrn h4
            subst hrn
            have HKP := Lib.hid hkp
            have HRO : Hid (w6.ownsRow x1.heap.size 3 1 (.slice RA rn rc) pr.length (intsOf pr)) := Lib.hid (by rw [HKP.out]; exact own_base h4 hx1m)
            have HSO : Hid (w6.ownsRow x1.heap.size 3 1 (.slice NA nn nc) nn (intsOf ps)) := Lib.hid (own_base h5 hx1m)
            have hown8 := HOUT6.out.1
            rw [HK8.out] at hown8
            have HB16 : Hid (Below x1.heap.size x1 w6) := Lib.hid (HB.out.trans (HB6.out.mono HB.out.size))
            have hsz6 : x1.heap.size ≤ w6.heap.size := HB16.out.size
            clear h4 h5 hkp HOK6
            go_wp2_with (at_builtin; refine wpList_append_own_at _ rfl (.tmp 41) (.tmp 43) 46 rfl x1.heap.size 23 j0 (.slice none 0 0) 1 24 Try.underlying46 hj0 hy0 hy1 hy2 rfl (by decide) _ _ _ rfl (hown8.alloc _) ⟨w6.heap.size, 0, none⟩ 1 1 [.slice RA rn rc] rfl rfl (cell_one_new _ _ _) ?b1 ?c1 ?d1 ?e1 ?_)
            case b1 => first | rfl | (intro u hu; simp at hu; subst hu; rfl)
            case c1 => unfold maxLen; omega
            case d1 => omega
            case e1 => first | omega | (simp; omega)
            intro v' w7 hown7 hgrow7 _ hat7
            have HO7 : Hid (OutV w7 x1.heap.size v' (out ++ [pr]) (vs ++ [.slice RA rn rc])) := Lib.hid (HOUT6.out.snoc HRO.out _ hgrow7 (by rw [HK8.out]; exact hown7))
            have HS7 : Hid (w7.ownsRow x1.heap.size 3 1 (.slice NA nn nc) nn (intsOf ps)) := Lib.hid (own_past HSO.out hown8 (by decide) _ hgrow7)
            have HB7 : Hid (Below x1.heap.size x1 w7) := Lib.hid ((HB16.out.alloc hsz6 _).grown hgrow7 (by simp; omega) (fun k hk => (hown8.lt k hk).1))
            have HX7 := Lib.hid (HX6.out.past hown8 (by decide) _ hgrow7)
            have HT7 := Lib.hid (HT6.out.past hown8 (by decide) _ hgrow7)
            have HLO : Hid ((out ++ [pr]).length = k8 + 1) := Lib.hid (by rw [List.length_append, HK8.out]; rfl)
            obtain ⟨A7, c7, rfl⟩ : ∃ A c, v' = .slice A (k8 + 1) c := by
              obtain ⟨-, h1 | ⟨g, cap, cur, e, -⟩⟩ := hown7
              · omega
              · exact ⟨_, _, e⟩
            rw [← HLO.out] at HO7
            obtain ⟨r0, r1⟩ := HT7.out.ats
            obtain ⟨g0, g1⟩ := HX7.out.ats
            obtain ⟨fg0, fg1⟩ := HX7.out.fzs
            have HFO := Lib.hid (HO7.out.set2 HX7.out (.slice NA nn nc) (.bool false))
            have HFS := Lib.hid (own_set2 HS7.out HX7.out (by decide) (.slice NA nn nc) (.bool false))
            have HFT := Lib.hid (HX7.out.set2 (.slice NA nn nc) false)
            have HFB : Hid (Below x1.heap.size x1 ((w7.setCell ⟨x2.heap.size, 0, none⟩ (.slice NA nn nc)).setCell ⟨x2.heap.size, 1, none⟩ (.bool false))) := Lib.hid ((HB7.out.setCell (p := ⟨x2.heap.size, 0, none⟩) HS2.out _).setCell (p := ⟨x2.heap.size, 1, none⟩) HS2.out _)
            clear hown7 hgrow7 hat7 hown8
            go_wp2_with fail
            go_roundw
            case rel => exact ⟨i + 1, out ++ [pr], vs ++ [.slice RA rn rc], ps, A7, c7, NA, nc, false, by omega, by go_num, by rw [HLO.out], HPSL.out, HFO.out, HFS.out, HFT.out, by rw [HLO.out]; omega, HFB.out, HG3.out⟩
            case measure => simp [intOf]; omega
      · have him2 : i = m := by omega
        subst him2
        have HF2 : Hid (runK C l = (out, 0)) := Lib.hid (by rw [HRUN.out, HGO.out, ← HML.out, List.drop_length]; rfl)
        have HFR' : Hid (RowsR wm (.slice A8 k8 c8) out) := Lib.hid HOUT.out.rows
        go_wp2_with fail
        exact bodyPost_ret (v := .tuple #[.slice A8 k8 c8, .int .i64 0]) (by simp [results, Try.results39, go_sem]) rfl ⟨_, by rw [HF2.out], by rw [HF2.out]; exact HFR'.out, HBW1.out.trans (HB.out.mono HBW1.out.size)⟩
end Go.Proofs.Ytcphjehjdhgheaa.Nt
