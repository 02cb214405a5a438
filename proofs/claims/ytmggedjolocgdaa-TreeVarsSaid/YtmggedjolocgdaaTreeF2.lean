/- The document's Depth returns how deep the nodes are. Conditions: the slice is read as a list of nodes; not too many. -/
import Derived.Test.YtmggedjolocgdaaTreeF
import Derived.StillTailTactics
namespace Go.Proofs.Ytmggedjolocgdaa.Tr
open Go.ChangeShapes Go.WideShapes Go.ChangeAt Go.RowKit
set_option linter.unusedVariables false
set_option linter.unusedSimpArgs false

theorem dOf_last (e : List Nd) (h : 0 < e.length) : (laidD e e.length)[e.length - 1]? = some (dOf e e.length) := by
  rw [laidD_get e e.length (Nat.le_refl _) _ (by omega)]
  unfold dOf depthM
  rw [List.take_length, List.getLastD_eq_getLast?, List.getLast?_eq_getElem?, deeps_len]; rfl

set_option maxRecDepth 100000 in
set_option maxHeartbeats 4000000 in
theorem rdepth_any (v : Value) (e : List Nd) (w : World) (hv : Nodes w v e) (hn : e.length ≤ 100000) :
    Calls Try.prog 19 #[v] w fun r w' => r = .returned (.int .i64 ((depthM e : Nat) : Int)) ∧ Below w.heap.size w w' := by
  obtain ⟨A, c, rfl, h1, h2, hA⟩ := hv
  unfold maxLen at h2
  have HA := Lib.hid hA
  clear hA
  obtain ⟨i0, hi, hz0, hz1, hz2⟩ := info_parts info3
  go_enter Try.func19, Try.ntmps19
  go_wp2_with (at_make; refine wpList_make_full _ rfl _ _ 27 rfl w.heap.size 3 i0 _ 1 Try.underlying27 hi hz0 hz1 _ _ _ _ e.length rfl rfl rfl rfl (by rw [hz2]; omega) (by unfold maxLen; omega) (Nat.le_refl _) ?_)
  intro w1 hown hgrow
  have hb1 : Below w.heap.size w w1 := (Below.refl _ _).grown hgrow (Nat.le_refl _) (fun k hk => by simp at hk)
  have hown0 : w1.ownsRow w.heap.size 3 1 (.slice (some ⟨w.heap.size, 0, none⟩) e.length e.length) e.length (intsOf (laidD e 0)) := by
    rw [laidD_zero, ← made_ints]; exact hown
  clear hown hgrow
  go_wp2
  go_loopw [4] (fun i wr => ∃ k : Nat, k ≤ e.length ∧ i = .int .i64 k ∧ wr.ownsRow w.heap.size 3 1 (.slice (some ⟨w.heap.size, 0, none⟩) e.length e.length) e.length (intsOf (laidD e k)) ∧ Below w.heap.size w wr) (fun i _ => e.length - (intOf i).toNat)
  case atStart => exact ⟨0, Nat.zero_le _, rfl, hown0, hb1⟩
  case round =>
    obtain ⟨k, hk, rfl, hown, hb⟩ := hrel
    clear hown0 hb1
    by_cases hlt : k < e.length
    · obtain ⟨x, hx⟩ : ∃ x, e[k]? = some x := ⟨_, List.getElem?_eq_getElem hlt⟩
      obtain ⟨g, o, rfl, hg, a0, a1, a2, a3, a4, a5⟩ := HA.out k x hx
      have hcb := fun q => hb.cell (p := ⟨g, q, none⟩) hg
      have b0 := (hcb _).trans a0
      have b1 := (hcb _).trans a1
      have b2 := (hcb _).trans a2
      have b3 := (hcb _).trans a3
      have b4 := (hcb _).trans a4
      have b5 := (hcb _).trans a5
      have hzz := (hown.lt _ rfl).2
      have hgn : w.heap.size ≠ g := by omega
      have HX := Lib.hid hx
      have HK := Lib.hid (laidD_new e k hlt)
      have c0 := (hown.cellAt k (by omega)).trans (intsOf_get _ _ _ HK.out)
      have f0 := hown.frozenAt k
      have HO := Lib.hid hown
      have HB := Lib.hid hb
      clear hx hcb a0 a1 a2 a3 a4 a5 hown hb
      have hD : (deepsM (e.take k)).length = k := by rw [deeps_len, List.length_take]; omega
      have hDl := deeps_le (e.take k)
      have hDl' : ∀ d ∈ deepsM (e.take k), d ≤ k := fun d hd => by have := hDl d hd; rw [List.length_take] at this; omega
      obtain ⟨D, hDD⟩ : ∃ D, deepsM (e.take k) = D := ⟨_, rfl⟩
      obtain ⟨L, hL⟩ : ∃ L, kidsM x = L := ⟨_, rfl⟩
      have HL := Lib.hid hL
      have HS := Lib.hid (show (laidD e k).set k ((dF D L L.length : Nat) : Int) = laidD e (k + 1) by rw [← laidD_set e k x HX.out, hDD, ← hL, dF_all])
      have HG : Hid (∀ j, j < k → (laidD e k)[j]? = some ((D.getD j 0 : Nat) : Int)) := Lib.hid (by rw [← hDD]; exact laidD_get e k hk)
      have hLl := laidD_len e k hk
      have HLL := Lib.hid hLl
      clear hLl
      rw [hDD] at hD hDl'
      have HF := Lib.hid (dF_le D k hDl' L)
      have HDK := Lib.hid hDl'
      have HDL := Lib.hid hD
      clear hD hDl hDl' hDD hL
      go_wp2_with fail
      refine (rkids_any x _).mono ?_
      rintro r w2 ⟨kv, rfl, hok, hb2⟩
      rw [HL.out] at hok
      obtain ⟨A2, c2, rfl, y1, y2, hA2⟩ := Ints.of_own hok
      have HA2 := Lib.hid hA2
      have hz2 := hb2.size
      simp at hz2
      have HO2 := Lib.hid (own_below (HO.out.stored k (.int .i64 1)).1 hb2)
      have HB2 := Lib.hid ((HB.out.setCell (by simp) _).trans (hb2.mono (by simp; omega)))
      have HKO := Lib.hid (show ∀ g2 o2, A2 = some ⟨g2, o2, none⟩ → w.heap.size < g2 from fun g2 o2 h => by subst h; have := hok.lt g2 rfl; simp at this; omega)
      clear hok hA2 hb2
      unfold maxLen at y2
      go_wp2
      go_loopw [6] (fun c wr => ∃ j : Nat, j ≤ L.length ∧ c = .int .i64 j ∧ wr.ownsRow w.heap.size 3 1 (.slice (some ⟨w.heap.size, 0, none⟩) e.length e.length) e.length (intsOf ((laidD e k).set k ((dF D L j : Nat) : Int))) ∧ Below w.heap.size w wr ∧ w2.heap.size ≤ wr.heap.size ∧ Hid (∀ p : Addr, p.block ≠ w.heap.size → wr.cell? p = w2.cell? p)) (fun c _ => L.length - (intOf c).toNat)
      case atStart => exact ⟨0, Nat.zero_le _, rfl, by rw [intsOf_set]; exact HO2.out, HB2.out, Nat.le_refl _, fun _ _ => rfl⟩
      case round =>
        obtain ⟨j, hj, rfl, ho3, hb3, hz3, hk3⟩ := hrel
        have hf := HF.out j
        have HO3 := Lib.hid ho3
        have HB3 := Lib.hid hb3
        clear ho3 hb3
        by_cases hlj : j < L.length
        · obtain ⟨q, hq⟩ : ∃ q, L[j]? = some q := ⟨_, List.getElem?_eq_getElem hlj⟩
          obtain ⟨g2, o2, rfl, hg2, d0'⟩ := HA2.out j q hq
          have hgb := HKO.out g2 o2 rfl
          have hg3 : g2 < wr.heap.size := by omega
          have hgn2 : w.heap.size ≠ g2 := by omega
          have d0 := (hk3.out ⟨g2, o2 + j, none⟩ (by simp; omega)).trans d0'
          have HQ := Lib.hid hq
          clear hq d0'
          have c1 := (HO3.out.cellAt k (by omega)).trans (intsOf_get _ k ((dF D L j : Nat) : Int) (by rw [List.getElem?_set_self (by rw [HLL.out]; exact hlt)]))
          have f1 := HO3.out.frozenAt k
          by_cases hq0 : 0 ≤ q
          · by_cases hqk : q < (k : Int)
            · obtain ⟨m, rfl⟩ := Int.eq_ofNat_of_zero_le hq0
              have hmk : m < k := by omega
              have hml : m < e.length := by omega
              have hd1 : D.getD m 0 ≤ k := by
                have hm : m < D.length := by rw [HDL.out]; exact hmk
                rw [List.getD, List.getElem?_eq_getElem hm]
                exact HDK.out _ (List.getElem_mem _)
              have c2 := (HO3.out.cellAt m (by omega)).trans (intsOf_get _ m ((D.getD m 0 : Nat) : Int) (by rw [List.getElem?_set_ne (by omega)]; exact HG.out m hmk))
              have HN2 := Lib.hid (show dF D L (j + 1) = max (dF D L j) (1 + D.getD m 0) by
                rw [dF_in HQ.out (by omega) (by rw [HDL.out]; omega)]; rfl)
              obtain ⟨dm, hdm⟩ : ∃ dm, D.getD m 0 = dm := ⟨_, rfl⟩
              rw [hdm] at c2 hd1 HN2
              obtain ⟨dj, hdj⟩ : ∃ dj, dF D L j = dj := ⟨_, rfl⟩
              rw [hdj] at hf HN2 c1
              have HDJ := Lib.hid hdj
              clear hdm hdj
              go_wp2
              go_region
              go_wp2
              have HV : (if (dj : Int) < (dm : Int) + 1 then (dm : Int) + 1 else (dj : Int)) = ((dF D L (j + 1) : Nat) : Int) := by rw [HN2.out]; split <;> omega
              refine ⟨⟨j + 1, by omega, by go_num, ?_, (HB3.out.setCell (by simp) _).drew, by simpa using hz3, fun p hp => ?_⟩, by simp [intOf]; omega⟩
              · have := (HO3.out.stored k (.int .i64 (if (dj : Int) < (dm : Int) + 1 then (dm : Int) + 1 else (dj : Int)))).1
                rw [← intsOf_set, List.set_set] at this
                rw [HV] at this ⊢
                exact this
              · exact (World.cell?_setCell_other _ _ _ _ (fun h => hp (by rw [← h]))).trans (hk3.out p hp)
            · have HN2 := Lib.hid (show dF D L (j + 1) = dF D L j from dF_out HQ.out (by rw [HDL.out]; omega))
              have hqk' : decide (q < (k : Int)) = false := by simpa using hqk
              go_wp2
              refine ⟨⟨j + 1, by omega, by go_num, by rw [HN2.out]; exact HO3.out, HB3.out, hz3, hk3⟩, by simp [intOf]; omega⟩
          · have HN2 := Lib.hid (show dF D L (j + 1) = dF D L j from dF_out HQ.out (by omega))
            have hqk' : decide (0 ≤ q) = false := by simpa using hq0
            go_wp2
            refine ⟨⟨j + 1, by omega, by go_num, by rw [HN2.out]; exact HO3.out, HB3.out, hz3, hk3⟩, by simp [intOf]; omega⟩
        · have hjl : j = L.length := by omega
          subst hjl
          have e1 : (laidD e k).set k ((dF D L L.length : Nat) : Int) = laidD e (k + 1) := HS.out
          have HE1 := Lib.hid e1
          clear hf e1
          go_wp2
          refine ⟨⟨k + 1, by omega, by go_num, by rw [← HE1.out]; exact HO3.out, HB3.out⟩, by simp [intOf]; omega⟩
    · have hkl : k = e.length := by omega
      subst hkl
      have HE := Lib.hid (dOf_all e)
      by_cases hp : 0 < e.length
      · have c1 := (hown.cellAt (e.length - 1) (by omega)).trans (intsOf_get _ _ _ (dOf_last e hp))
        have hp' : ((e.length : Int) == 0) = false := by rw [beq_eq_false_iff_ne]; omega
        have HB := Lib.hid hb
        clear hb hown
        obtain ⟨d, hd⟩ : ∃ d, dOf e e.length = d := ⟨_, rfl⟩
        rw [hd] at c1
        have HD := Lib.hid (show d = ((depthM e : Nat) : Int) from hd.symm.trans HE.out)
        have e2 : (e.length : Int) - 1 = ((e.length - 1 : Nat) : Int) := by omega
        clear hd
        go_wp2
        go_ret
        exact ⟨ret_int HD.out, HB.out⟩
      · have h0 : e = [] := List.length_eq_zero_iff.1 (by omega)
        subst h0
        have HB := Lib.hid hb
        clear hb hown
        go_wp2
        go_ret
        exact ⟨rfl, HB.out⟩
end Go.Proofs.Ytmggedjolocgdaa.Tr
