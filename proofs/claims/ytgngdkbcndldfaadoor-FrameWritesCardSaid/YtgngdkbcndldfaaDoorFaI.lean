/- A line's words as numbers, by the program. Conditions: lengths within a machine's; the library's variables read as they are laid. -/
import Derived.Test.YtgngdkbcndldfaaDoorFaH
namespace Go.Proofs.YtgngdkbcndldfaaDoor.Fr
open Go.ChangeShapes Go.WideShapes Go.ChangeAt Go.RowKit Go.Proofs.YtgngdkbcndldfaaDoor.Tr
set_option linter.unusedVariables false
set_option linter.unusedSimpArgs false

theorem made_row (n : Nat) : madeCells #[Value.int .i64 0] n = (intsOf (List.replicate n 0)).toArray := by
  have := made_ints n
  rw [← this]
theorem own_at' {w : World} {b g n : Nat} {xs : List Value} {T : TypeId} (h : w.heap[g]? = some (.cells xs.toArray T (0, 0))) (hb : b ≤ g) (hn : xs.length = n) (hm : n ≤ maxLen) : w.ownsRow b T 1 (.slice (some ⟨g, 0, none⟩) n n) n xs :=
  ⟨by omega, .inr ⟨g, n, xs.toArray, rfl, hb, h, Nat.le_refl _, hm, by simp; omega, by simp [← hn]⟩⟩
/-- A row that is filled from its beginning on. -/
def FillAt (W : World) (G : Nat) (R : List Int) (m : Nat) : Prop := W.heap[G]? = some (.cells (intsOf (R ++ List.replicate (m - R.length) 0)).toArray 3 (0, 0))
theorem FillAt.cell {W : World} {G m : Nat} {R : List Int} (h : FillAt W G R m) (hk : R.length < m) : W.cell? ⟨G, R.length, none⟩ = some (.int .i64 0) ∧ W.frozen? ⟨G, R.length, none⟩ = false := by
  unfold FillAt at h
  constructor
  · simp only [World.cell?, h]
    have : (R ++ List.replicate (m - R.length) (0 : Int))[R.length]? = some 0 := by
      rw [List.getElem?_append_right (Nat.le_refl _), Nat.sub_self, List.getElem?_replicate]
      rw [if_pos (by omega)]
    have := intsOf_get _ _ _ this
    simpa using this
  · simp [World.frozen?, h]
theorem fill_set (R : List Int) (m : Nat) (n : Int) (hk : R.length < m) : (R ++ List.replicate (m - R.length) (0 : Int)).set R.length n = (R ++ [n]) ++ List.replicate (m - (R ++ [n]).length) 0 := by
  rw [List.set_append_right _ _ (Nat.le_refl _), Nat.sub_self]
  obtain ⟨q, hq⟩ : ∃ q, m - R.length = q + 1 := ⟨m - R.length - 1, by omega⟩
  have hq2 : m - (R ++ [n]).length = q := by simp; omega
  rw [hq, hq2, List.replicate_succ]
  simp
theorem FillAt.set {W : World} {G m : Nat} {R : List Int} (h : FillAt W G R m) (hk : R.length < m) (n : Int) : FillAt (W.setCell ⟨G, R.length, none⟩ (.int .i64 n)) G (R ++ [n]) m := by
  unfold FillAt at h ⊢
  rw [← fill_set R m n hk, intsOf_set]
  simp [World.setCell, Array.getElem?_modify, h]
theorem FillAt.own {W : World} {G b m : Nat} {R : List Int} (h : FillAt W G R m) (hk : R.length = m) (hb : b ≤ G) (hm : m ≤ maxLen) : W.ownsRow b 3 1 (.slice (some ⟨G, 0, none⟩) m m) m (intsOf R) := by
  unfold FillAt at h
  rw [hk, Nat.sub_self, List.replicate_zero, List.append_nil] at h
  have hl : (intsOf R).length = m := by simp [intsOf, hk]
  exact own_at' h hb hl hm
theorem FillAt.below {W W' : World} {G m : Nat} {R : List Int} (h : FillAt W G R m) (hb : Below W.heap.size W W') : FillAt W' G R m := (hb.block G (lt_of_block h)).trans h

set_option maxRecDepth 100000 in
set_option maxHeartbeats 2000000 in
theorem read_any (w : World) (hF : FrAt w) (tv wv : Value) (ts : List Int) (ws : List Bs) (ht : Ints w tv ts) (hw : Strs w wv ws) (hx : ∀ x ∈ ws, x.length ≤ 1000000) (hm6 : ws.length ≤ 1000001) :
    Calls Tryd.prog 16 #[tv, wv] w (RowPost (rowM ts ws) w) := by
  obtain ⟨A, c, rfl, z1, z2⟩ := ints_form ht
  obtain ⟨WA, wc, rfl, y1, y2⟩ := hw.form
  have HT := Lib.hid ht
  have HST := Lib.hid hw
  have HX := Lib.hid hx
  have HF := Lib.hid hF
  obtain ⟨n, hn⟩ : ∃ n, ts.length = n := ⟨_, rfl⟩
  obtain ⟨m, hm⟩ : ∃ n, ws.length = n := ⟨_, rfl⟩
  rw [hn] at HT z1 ⊢
  rw [hm] at HST y1 hm6 ⊢
  have HN := Lib.hid hn
  have HM := Lib.hid hm
  unfold maxLen at z2 y2
  clear ht hw hx hF hn hm
  by_cases hlen : m = n
  · have hle : ((m : Int) != (n : Int)) = false := by simp [hlen]
    subst hlen
    have hmk := run_make_row' (P := Tryd.prog) 22 3 (.int .i64 0) 8 Tryd.underlying22 info3 rfl .i64 .i64 m (by omega) (by omega)
    obtain ⟨w1, hw1⟩ : ∃ W, w.alloc (.cells (madeCells #[.int .i64 0] m) 3) = W := ⟨_, rfl⟩
    have HB1 : Hid (Below w.heap.size w w1) := Lib.hid (by rw [← hw1]; exact below_new _ _)
    have HF1 : Hid (FillAt w1 w.heap.size [] m) := Lib.hid (by
      rw [← hw1]; unfold FillAt; rw [List.nil_append, List.length_nil, Nat.sub_zero, ← made_row]; exact heap_alloc_new _ _)
    have hs1 : w1.heap.size = w.heap.size + 1 := by rw [← hw1]; simp
    have HW1 := Lib.hid hw1
    clear hw1
    go_enter Tryd.func16, Tryd.ntmps16
    go_wp2_with fail
    rw [HW1.out]
    go_loopw [21] (fun vi wr => ∃ (k : Nat) (R : List Int), RwAt ts ws R k ∧ k ≤ m ∧ vi = .int .i64 (k : Int) ∧ FillAt wr w.heap.size R m ∧ Below w.heap.size w wr) (fun vi _ => m - (intOf vi).toNat)
    case atStart => exact ⟨0, [], RwAt.start ts ws, Nat.zero_le _, rfl, HF1.out, HB1.out⟩
    case round =>
      obtain ⟨k, R, hR, hk, rfl, hr, hb⟩ := hrel
      have HR := Lib.hid hR
      have HO := Lib.hid hr
      have HBr := Lib.hid hb
      have hw1 := hb.size
      have hlenR := hR.len
      clear hR hr hb
      by_cases hlt : k < m
      · obtain ⟨t, htk⟩ : ∃ t, ts[k]? = some t := ⟨_, List.getElem?_eq_getElem (by rw [HN.out]; exact hlt)⟩
        obtain ⟨x, hxk⟩ : ∃ x, ws[k]? = some x := ⟨_, List.getElem?_eq_getElem (by rw [HM.out]; exact hlt)⟩
        obtain ⟨g, o, rfl, hg, a0⟩ := ints_at (HT.out.below HBr.out (Nat.le_refl _)) htk
        obtain ⟨g', o', rfl, hg', b0⟩ := (HST.out.below HBr.out (Nat.le_refl _)).at hxk
        have HXL := Lib.hid (HX.out x (List.mem_of_getElem? hxk))
        have HTK := Lib.hid htk
        have HXK := Lib.hid hxk
        have HC := Lib.hid (number_any wr (HF.out.below HBr.out) t x HXL.out)
        clear htk hxk
        go_wp2_with fail
        refine HC.out.mono ?_
        rintro e w2 ⟨nn, b, rfl, hnum, hb2⟩
        have HB2 := Lib.hid hb2
        have HNUM := Lib.hid hnum
        clear hb2 hnum
        cases b with
        | false =>
          have HRN : Hid (rowM ts ws = none) := Lib.hid (rowM_bad ts ws k t x HTK.out HXK.out (by have := HNUM.out; simpa using this))
          have HP : Hid (RowPost (rowM ts ws) w (.returned (.tuple #[.slice none 0 0, .bool false])) w2) := Lib.hid ⟨HBr.out.trans (HB2.out.mono hw1), .inl ⟨HRN.out, rfl⟩⟩
          clear HNUM
          go_wp2_with fail
          refine bodyPost_ret (v := .tuple #[.slice none 0 0, .bool false]) (by simp [results, Tryd.results16, go_sem]) rfl HP.out
        | true =>
          have HRS := Lib.hid (HR.out.snoc HTK.out HXK.out (by have := HNUM.out; simpa using this))
          have HO2 := HO.out.below HB2.out
          obtain ⟨c0, f0⟩ := HO2.cell (by rw [hlenR]; exact hlt)
          rw [hlenR] at c0 f0
          have HS := Lib.hid (HO2.set (by rw [hlenR]; exact hlt) nn)
          rw [hlenR] at HS
          have HBB : Hid (Below w.heap.size w (w2.setCell ⟨w.heap.size, k, none⟩ (.int .i64 nn))) := Lib.hid ((HBr.out.trans (HB2.out.mono hw1)).setCell (p := ⟨w.heap.size, k, none⟩) (Nat.le_refl _) _)
          clear HNUM HO2
          go_wp2_with fail
          refine ⟨⟨k + 1, R ++ [nn], HRS.out, by omega, by go_num, HS.out, HBB.out⟩, by first | (simp [intOf]; done) | (simp [intOf]; omega)⟩
      · obtain rfl : k = m := by omega
        have HRW := Lib.hid (HR.out.row HN.out HM.out)
        have HP : Hid (RowPost (rowM ts ws) w (.returned (.tuple #[.slice (some ⟨w.heap.size, 0, none⟩) k k, .bool true])) wr) := Lib.hid ⟨HBr.out, .inr ⟨R, _, _, HRW.out, by rw [hlenR], by rw [hlenR]; exact HO.out.own hlenR (Nat.le_refl _) (by unfold maxLen; omega)⟩⟩
        clear hlenR
        go_wp2_with fail
        refine bodyPost_ret (v := .tuple #[.slice (some ⟨w.heap.size, 0, none⟩) k k, .bool true]) (by simp [results, Tryd.results16, go_sem]) rfl HP.out
  · have hle : ((m : Int) != (n : Int)) = true := by rw [bne_iff_ne]; omega
    have HP : Hid (RowPost (rowM ts ws) w (.returned (.tuple #[.slice none 0 0, .bool false])) w) := Lib.hid ⟨Below.refl _ _, .inl ⟨rowM_none_len ts ws (by rw [HM.out, HN.out]; exact hlen), rfl⟩⟩
    go_enter Tryd.func16, Tryd.ntmps16
    go_wp2_with fail
    refine bodyPost_ret (v := .tuple #[.slice none 0 0, .bool false]) (by simp [results, Tryd.results16, go_sem]) rfl HP.out
end Go.Proofs.YtgngdkbcndldfaaDoor.Fr
