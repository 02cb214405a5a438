/- The document's Put puts expressions in the places of streams. Conditions: the slices are read as lists; names are as long as texts may be; not too much is put. -/
import Derived.Test.YtmggedjolocgdaaTreePd
namespace Go.Proofs.Ytmggedjolocgdaa.Tr
open Go.ChangeShapes Go.WideShapes Go.ChangeAt Go.RowKit Go.Maps Go.WideMaps
set_option linter.unusedVariables false
set_option linter.unusedSimpArgs false

theorem norm_nil_iff (e : List Nd) : normB e = [] ↔ mayB e = false := by
  constructor
  · intro h
    rcases Bool.eq_false_or_eq_true (mayB e) with hm | hm
    · exfalso
      have hM := may_of hm
      have hp := hM.pos
      have : (normB e).length = 0 := by rw [h]; rfl
      unfold normB subM at this
      rw [if_pos ⟨hm, by omega, by omega⟩, T.flat_len] at this
      have := (tree e ((e.length : Int) - 1).toNat).size_pos
      omega
    · exact hm
  · intro h; unfold normB subM; rw [if_neg (by rw [h]; simp)]
/-- The loop's relation. -/
structure RFillRel (w : World) (P : Nd → List Nd) (l : List Nd) (H k : Nat) (wr : World) (ov : Value) : Prop where
  le : k ≤ l.length
  hH : w.heap.size ≤ H
  own : wr.ownsRow w.heap.size 30 6 ov (fillF P (l.take k)).1.length (ndsOf (fillF P (l.take k)).1)
  row : wr.ownsRow w.heap.size 3 1 (.slice (some ⟨H, 0, none⟩) l.length l.length) l.length (intsOf ((fillF P (l.take k)).2 ++ List.replicate (l.length - k) 0))
  below : Below w.heap.size w wr
/-- Behind what lays the next nodes. -/
structure RFillMid (w : World) (P : Nd → List Nd) (l : List Nd) (H k : Nat) (w4 : World) (ov4 : Value) (N : Nat) : Prop where
  len : (fillF P (l.take (k + 1))).1.length = N
  own : w4.ownsRow w.heap.size 30 6 ov4 N (ndsOf (fillF P (l.take (k + 1))).1)
  row : w4.ownsRow w.heap.size 3 1 (.slice (some ⟨H, 0, none⟩) l.length l.length) l.length (intsOf ((fillF P (l.take k)).2 ++ List.replicate (l.length - k) 0))
  below : Below w.heap.size w w4
theorem RFillRel.mid {w wr wA w4 : World} {P : Nd → List Nd} {l : List Nd} {H k N : Nat} {ov ov4 : Value} (h : RFillRel w P l H k wr ov) (hA : Below wr.heap.size wr wA) (hg : wA.grownBy w4 ov.ownBlock)
    (hlen : (fillF P (l.take (k + 1))).1.length = N) (hown : w4.ownsRow w.heap.size 30 6 ov4 N (ndsOf (fillF P (l.take (k + 1))).1)) : RFillMid w P l H k w4 ov4 N := by
  have hs := h.below.size
  have hsA := hA.size
  have oA := own_below h.own hA
  have rA := own_below h.row hA
  have hne := own_ne oA rA (by decide)
  refine ⟨hlen, hown, own_block rA (fun g hgb => hg.block g (rA.lt g hgb).2 (fun h' => hne g h'.symm hgb)), ?_⟩
  exact (h.below.trans (hA.mono hs)).grown hg (by omega) (fun j hj => (oA.lt j hj).1)
theorem RFillMid.step {w w4 : World} {P : Nd → List Nd} {l : List Nd} {H k N : Nat} {ov4 : Value} {x : Nd} (hx : l[k]? = some x) (hH : w.heap.size ≤ H) (h : RFillMid w P l H k w4 ov4 N) : RFillRel w P l H (k + 1) (w4.setCell ⟨H, k, none⟩ (.int .i64 ((N : Int) - 1))) ov4 := by
  have hk := (List.getElem?_eq_some_iff.1 hx).1
  have hne := own_ne h.own h.row (by decide)
  have e := fillF_next P l k x hx
  have h2 : (fillF P (l.take (k + 1))).2 = (fillF P (l.take k)).2 ++ [(N : Int) - 1] := by
    have := h.len
    rw [e] at this ⊢
    unfold fillStep at this ⊢
    simp only at this ⊢
    rw [this]
  have hA : (fillF P (l.take k)).2.length = k := by rw [fillF_at, List.length_take]; omega
  refine ⟨by omega, hH, ?_, ?_, h.below.setCell hH _⟩
  · rw [h.len]
    exact own_block h.own (fun g hgb => Below.heap_setCell _ _ _ _ (fun hh => hne g hgb (by simp [Value.ownBlock, hh])))
  · have := (h.row.stored k (.int .i64 ((N : Int) - 1))).1
    rw [← intsOf_set] at this
    have e2 : ((fillF P (l.take k)).2 ++ List.replicate (l.length - k) 0).set k ((N : Int) - 1) = (fillF P (l.take (k + 1))).2 ++ List.replicate (l.length - (k + 1)) 0 := by
      rw [h2, List.set_append_right _ _ (by omega), hA, Nat.sub_self, show l.length - k = (l.length - (k + 1)) + 1 by omega, List.replicate_succ, List.set_cons_zero, List.append_assoc]; rfl
    rw [e2] at this
    exact this
theorem rfill_start {w w2 : World} {P : Nd → List Nd} {l : List Nd} (hb : Below w.heap.size w w2) (hl : l.length ≤ maxLen) : RFillRel w P l w2.heap.size 0 (w2.alloc (.cells (madeCells #[.int .i64 0] l.length) 3)) (.slice none 0 0) := by
  have hs := hb.size
  refine ⟨Nat.zero_le _, hs, by simpa [fillF, ndsOf] using World.ownsRow_nil _ _ _ _, ?_, hb.alloc hs _⟩
  refine ⟨by simp [intsOf, fillF], .inr ⟨w2.heap.size, l.length, madeCells #[.int .i64 0] l.length, rfl, hs, heap_alloc_new _ _, Nat.le_refl _, hl, ?_, ?_⟩⟩
  · have := congrArg List.length (made_ints l.length); simp [intsOf] at this ⊢; exact this
  · rw [made_ints]; simp [intsOf, fillF]
/-- The inner loop's relation: where the first operands' last nodes stand. -/
structure ToRel (w : World) (L : List Int) (tf : Int → Int) (j : Nat) (wr : World) (tv : Value) : Prop where
  le : j ≤ L.length
  row : wr.ownsRow w.heap.size 3 1 tv j (intsOf ((L.take j).map tf))
  below : Below w.heap.size w wr

set_option maxRecDepth 100000 in
set_option maxHeartbeats 4000000 in
theorem rput_any (ev nv bv : Value) (e : List Nd) (names : List Bytes) (ps : List (List Nd)) (w : World) (hv : Nodes w ev e) (hn : Strs w nv names) (hp : Parts w w.heap.size bv ps)
    (hpl : ps.length ≤ 1000) (hel : e.length ≤ 5000) (hr : roomOf (putP names (ps.map normB)) (normB e) ≤ 80000) : Calls Try.prog 30 #[ev, nv, bv] w (NodesPost w (putM e names ps)) := by
  have HV := Lib.hid hv
  have HN := Lib.hid hn
  have HP := Lib.hid hp
  have HR := Lib.hid hr
  have HPM := Lib.hid (putM_eq e names ps)
  obtain ⟨A, c, rfl, h1, h2, _⟩ := hv
  obtain ⟨An, cn, rfl, h3, h4, hAn⟩ := hn
  obtain ⟨Ap, cp, rfl, h5, h6, hAp⟩ := hp
  unfold maxLen at h2 h4 h6
  have HAN := Lib.hid hAn
  have HAP := Lib.hid hAp
  clear hAn hAp hr
  rcases Bool.eq_false_or_eq_true (mayB e) with hm | hm
  rotate_left
  · have HMM := Lib.hid hm
    have HJ := Lib.hid (show putM e names ps = [] by rw [HPM.out, if_pos ((norm_nil_iff e).2 hm)])
    clear hm
    rw [HJ.out]
    go_enter Try.func30, Try.ntmps30
    go_wp2_with fail
    refine (rmay_lit _ e _ _ HV.out HMM.out).mono ?_
    rintro r w2 ⟨rfl, hb2⟩
    go_wp2
    go_ret
    exact nodes_none _ _ hb2
  have hne : ¬ normB e = [] := fun h => by rw [(norm_nil_iff e).1 h] at hm; cases hm
  have HMM := Lib.hid hm
  have HNE := Lib.hid hne
  clear hm hne
  by_cases hnp : names.length = ps.length
  rotate_left
  · have hnp' : ((names.length : Int) != (ps.length : Int)) = true := by rw [bne_iff_ne]; omega
    have HJ := Lib.hid (show putM e names ps = [] by rw [HPM.out, if_neg HNE.out, if_neg hnp])
    clear hnp
    rw [HJ.out]
    go_enter Try.func30, Try.ntmps30
    go_wp2_with fail
    refine (rmay_lit _ e _ _ HV.out HMM.out).mono ?_
    rintro r w2 ⟨rfl, hb2⟩
    go_wp2
    go_ret
    exact nodes_none _ _ hb2
  have hnp' : ((names.length : Int) != (ps.length : Int)) = false := by simp [hnp]
  have HNP := Lib.hid hnp
  have HJ := Lib.hid (show putM e names ps = if (∀ p ∈ ps, normB p ≠ []) then (fillF (putP names (ps.map normB)) (normB e)).1 else [] by rw [HPM.out, if_neg HNE.out, if_pos hnp])
  clear hnp HPM
  go_enter Try.func30, Try.ntmps30
  go_wp2_with fail
  refine (rmay_lit _ e _ _ HV.out HMM.out).mono ?_
  rintro r w2 ⟨rfl, hb2⟩
  have HB2 := Lib.hid hb2
  clear hb2
  go_wp2
  go_loopw [7] (fun i wr => ∃ k : Nat, k ≤ ps.length ∧ i = .int .i64 k ∧ Below w.heap.size w wr ∧ Hid (∀ j p, j < k → ps[j]? = some p → normB p ≠ [])) (fun i _ => ps.length - (intOf i).toNat)
  case atStart => exact ⟨0, Nat.zero_le _, rfl, HB2.out, fun j p h => by omega⟩
  case round =>
    obtain ⟨k, hk, rfl, hb, hall⟩ := hrel
    have HB := Lib.hid hb
    have hs := hb.size
    by_cases hlt : k < ps.length
    · obtain ⟨p, hpk⟩ : ∃ p, ps[k]? = some p := ⟨_, List.getElem?_eq_getElem hlt⟩
      obtain ⟨g, o, u, rfl, hgb, hg, d0, hu, hul⟩ := HAP.out k p hpk
      have c0 := (hb.cell (p := ⟨g, o + k, none⟩) hg).trans d0
      have HU := Lib.hid (hu.below hb (Nat.le_refl _))
      have HPK := Lib.hid hpk
      clear hpk d0 hu hul hb
      rcases Bool.eq_false_or_eq_true (mayB p) with hm | hm
      · have HMP := Lib.hid hm
        clear hm
        go_wp2_with fail
        refine (rmay_lit _ p _ _ HU.out HMP.out).mono ?_
        rintro r w3 ⟨rfl, hb3⟩
        have HB3 := Lib.hid (HB.out.trans (hb3.mono hs))
        clear hb3
        go_wp2
        refine ⟨⟨k + 1, by omega, by go_num, HB3.out, fun j q hj hq => ?_⟩, by simp [intOf]; omega⟩
        by_cases hjk : j < k
        · exact hall.out j q hjk hq
        · have : j = k := by omega
          subst this
          have := HPK.out.symm.trans hq
          simp only [Option.some.injEq] at this
          subst this
          intro h; rw [(norm_nil_iff p).1 h] at HMP; exact absurd HMP.out (by simp)
      · have HMP := Lib.hid hm
        have HJ2 := Lib.hid (show putM e names ps = [] by rw [HJ.out, if_neg (fun h => h p (List.mem_of_getElem? HPK.out) ((norm_nil_iff p).2 hm))])
        clear hm
        go_wp2_with fail
        refine (rmay_lit _ p _ _ HU.out HMP.out).mono ?_
        rintro r w3 ⟨rfl, hb3⟩
        have HB3 := Lib.hid (HB.out.trans (hb3.mono hs))
        clear hb3
        go_wp2
        go_ret
        rw [HJ2.out]
        exact nodes_none _ _ HB3.out
    · have hkl : k = ps.length := by omega
      subst hkl
      have HALL := Lib.hid (show ∀ p ∈ ps, normB p ≠ [] from fun p hp => by
        obtain ⟨j, hj⟩ := List.mem_iff_getElem?.1 hp
        exact hall.out j p (List.getElem?_eq_some_iff.1 hj).1 hj)
      have HJ3 := Lib.hid (show putM e names ps = (fillF (putP names (ps.map normB)) (normB e)).1 by rw [HJ.out, if_pos HALL.out])
      have NV := Lib.hid (HV.out.below hb (Nat.le_refl _))
      obtain ⟨w0, rfl⟩ : ∃ w0 : World, w0 = wr := ⟨_, rfl⟩
      clear hb hall
      go_wp2_with fail
      refine (rnorm_any _ e _ NV.out).mono ?_
      rintro r w1 ⟨ov1, rfl, hown1, hb1⟩
      obtain ⟨l, hl2⟩ : ∃ l, normB e = l := ⟨_, rfl⟩
      have hlE : l.length ≤ 5000 := by
        rw [← hl2]
        unfold normB subM
        split
        · rename_i hc
          rw [T.flat_len]
          have hm := may_of hc.1
          exact Nat.le_trans (size_le e hm _ (by omega)) hm.le
        · simp
      have HGOOD := Lib.hid (show ∀ i x, l[i]? = some x → Good l i x by
        rw [← hl2]
        unfold normB subM
        split
        · rename_i hc
          intro i x hx
          have hm := may_of hc.1
          have := good_flat (e := (tree e ((e.length : Int) - 1).toNat).flat 0) (tree e ((e.length : Int) - 1).toNat) 0 (hm.ok _ (by omega)) (Seg.self _) i x hx
          rwa [Nat.zero_add] at this
        · intro i x hx; simp at hx)
      rw [hl2] at hown1 HR HJ3
      have HLN := Lib.hid hl2
      have HB1 := Lib.hid (HB.out.trans (hb1.mono hs))
      have hs1 := HB1.out.size
      have HW := Lib.hid (Nodes.of_own hown1)
      obtain ⟨A1, c1, rfl, y1, y2, _⟩ := Nodes.of_own hown1
      unfold maxLen at y2
      obtain ⟨P, hP⟩ : ∃ P, putP names (ps.map normB) = P := ⟨_, rfl⟩
      have HPD := Lib.hid hP
      rw [hP] at HR HJ3
      have hmk := run_make_row' (P := Try.prog) 27 3 (.int .i64 0) 8 Try.underlying27 info3 rfl .i64 .i64 l.length (by omega) (by omega)
      have HSTART : Hid (RFillRel w1 P l w1.heap.size 0 (w1.alloc (.cells (madeCells #[.int .i64 0] l.length) 3)) (.slice none 0 0)) := Lib.hid (rfill_start (Below.refl _ _) (by unfold maxLen; omega))
      clear hown1 hb1 hl2 hP
      go_wp2
      go_loopw [8, 10] (fun s0 i wr => ∃ (k : Nat) (ov : Value), ov = s0 ∧ i = .int .i64 k ∧ RFillRel w1 P l w1.heap.size k wr ov) (fun _ i _ => l.length - (intOf i).toNat)
      case atStart => exact ⟨0, _, rfl, rfl, HSTART.out⟩
      case round =>
        obtain ⟨k, ov, rfl, rfl, hrel⟩ := hrel
        have hk := hrel.le
        have HREL := Lib.hid hrel
        have hs := hrel.below.size
        have HB := Lib.hid hrel.below
        have HBW := Lib.hid (HB1.out.trans (hrel.below.mono hs1))
        clear hrel
        by_cases hlt : k < l.length
        · obtain ⟨x, hx⟩ : ∃ x, l[k]? = some x := ⟨_, List.getElem?_eq_getElem hlt⟩
          obtain ⟨A', c', e1, _, _, hA⟩ := HW.out
          simp only [Value.slice.injEq, true_and] at e1
          obtain ⟨rfl, rfl⟩ := e1
          obtain ⟨g, o, rfl, hgl, a0, a1, a2, a3, a4, a5⟩ := hA k x hx
          have b0 := (HB.out.cell (p := ⟨g, o + k * 6, none⟩) hgl).trans a0
          have b1 := (HB.out.cell (p := ⟨g, o + k * 6 + 1, none⟩) hgl).trans a1
          have b2 := (HB.out.cell (p := ⟨g, o + k * 6 + 2, none⟩) hgl).trans a2
          have b3 := (HB.out.cell (p := ⟨g, o + k * 6 + 3, none⟩) hgl).trans a3
          have b4 := (HB.out.cell (p := ⟨g, o + k * 6 + 4, none⟩) hgl).trans a4
          have b5 := (HB.out.cell (p := ⟨g, o + k * 6 + 5, none⟩) hgl).trans a5
          have HC := Lib.hid (And.intro a0 (And.intro a1 (And.intro a2 (And.intro a3 (And.intro a4 a5)))))
          have HX := Lib.hid hx
          have HGX := Lib.hid (HGOOD.out k x hx)
          have hst := fill_step_len P l k x hx
          have hrr := HR.out
          have HNX := Lib.hid (fillF_next P l k x hx)
          have HNS := Lib.hid (HN.out.below HBW.out (Nat.le_refl _))
          clear hx hA a0 a1 a2 a3 a4 a5
          by_cases hp : P x = []
          · rw [if_pos hp] at hst
            have HP0 := Lib.hid hp
            have hcase : ((x.op == 3) = true ∧ placeI names x.name = -1) ∨ (x.op == 3) = false := by
              rcases Bool.eq_false_or_eq_true (x.op == 3) with ho | ho
              · refine .inl ⟨ho, ?_⟩
                rw [← HPD.out] at hp
                unfold putP at hp
                rw [if_pos (beq_iff_eq.1 ho)] at hp
                unfold placeI
                cases hpl : placeM names x.name with
                | none => rfl
                | some j =>
                  exfalso
                  rw [hpl] at hp
                  have hj := (List.getElem?_eq_some_iff.1 (place_some _ _ _ hpl)).1
                  have hjp : j < ps.length := by have := HNP.out; omega
                  simp only [List.getD, List.getElem?_map, List.getElem?_eq_getElem hjp, Option.map_some, Option.getD_some] at hp
                  exact HALL.out _ (List.getElem_mem hjp) hp
              · exact .inr ho
            clear hp
            have hal : (fillF P (l.take k)).2.length = k := by rw [fillF_at, List.length_take]; omega
            obtain ⟨tf, htf⟩ : ∃ tf : Int → Int, tf = fun q => (fillF P (l.take k)).2.getD q.toNat 0 := ⟨_, rfl⟩
            have HTF := Lib.hid htf
            obtain ⟨L, hL⟩ : ∃ L, kidsM x = L := ⟨_, rfl⟩
            have HL := Lib.hid hL
            have hLs : L.length ≤ 3 := by rw [← hL]; exact kids_small x
            have HAT := Lib.hid (show ∀ q ∈ L, 0 ≤ q ∧ q < (l.length : Int) ∧ wr.cell? ⟨w1.heap.size, q.toNat, none⟩ = some (.int .i64 (tf q)) from fun q hq => by
              rw [← hL] at hq
              have hq2 := HGX.out.ahead q hq
              refine ⟨hq2.1, by omega, ?_⟩
              have := HREL.out.row.cellAt q.toNat (by omega)
              rw [this]
              refine intsOf_get _ _ _ ?_
              rw [List.getElem?_append_left (by omega), htf]; show _ = some ((fillF P (l.take k)).2.getD q.toNat 0); rw [List.getD, List.getElem?_eq_getElem (by omega)]; rfl)
            have HMK := Lib.hid (show aimM x (L.map tf) = mkL x.lab (L.map tf) by rw [← hL]; exact aim_mk x (kidsM x) _ HGX.out.bare (by simp) (by simp; exact kids_small x))
            clear htf hL hal
            rcases hcase with ⟨ho, hpi⟩ | ho
            all_goals
              first
                | (have HPI := Lib.hid hpi; clear hpi; go_wp2_with fail; refine (place_any _ names x.name _ HNS.out).mono ?_; rintro r w3 ⟨rfl, rfl⟩; rw [HPI.out]; go_wp2_with fail)
                | (go_wp2_with fail)
              refine (rkids_any x _).mono ?_
              rintro r w3 ⟨kv, rfl, hok, hb3⟩
              rw [HL.out] at hok
              obtain ⟨A2, c2, rfl, z1, z2, hA2⟩ := Ints.of_own hok
              have HA2 := Lib.hid hA2
              have HKO := Lib.hid (show ∀ g2 o2, A2 = some ⟨g2, o2, none⟩ → g2 < w3.heap.size from fun g2 o2 h => by subst h; exact (hok.lt g2 rfl).2)
              have hs3 := hb3.size
              have HB3 := Lib.hid hb3
              have HTO : Hid (ToRel w3 L tf 0 w3 (.slice none 0 0)) := Lib.hid ⟨Nat.zero_le _, World.ownsRow_nil _ _ _ _, Below.refl _ _⟩
              unfold maxLen at z2
              clear hok hA2 hb3 b0 b1 b2 b3 b4 b5
              obtain ⟨wo, rfl⟩ : ∃ wo : World, wo = wr := ⟨_, rfl⟩
              obtain ⟨i0, hi, hz0, hz1, hz2⟩ := info_parts info3
              obtain ⟨i1, hi', hz0', hz1', hz2'⟩ := info_parts info30
              go_wp2
              go_loopw [13, 14] (fun s0 i wr => ∃ (j : Nat) (tv : Value), tv = s0 ∧ i = .int .i64 j ∧ ToRel w3 L tf j wr tv) (fun _ i _ => L.length - (intOf i).toNat)
              case atStart => exact ⟨0, _, rfl, rfl, HTO.out⟩
              case round =>
                obtain ⟨j, tv, rfl, rfl, hrel⟩ := hrel
                have hj := hrel.le
                have HT := Lib.hid hrel
                have hst3 := hrel.below.size
                have HBT := Lib.hid hrel.below
                have HBO := Lib.hid (HB3.out.trans (hrel.below.mono hs3))
                clear hrel
                by_cases hlj : j < L.length
                · obtain ⟨q, hq⟩ : ∃ q, L[j]? = some q := ⟨_, List.getElem?_eq_getElem hlj⟩
                  obtain ⟨g2, o2, rfl, hg2, d0'⟩ := HA2.out j q hq
                  have d0 := (HBT.out.cell (p := ⟨g2, o2 + j, none⟩) hg2).trans d0'
                  obtain ⟨hq0, hql, hqc⟩ := HAT.out q (List.mem_of_getElem? hq)
                  obtain ⟨m, rfl⟩ := Int.eq_ofNat_of_zero_le hq0
                  rw [Int.toNat_natCast] at hqc
                  have hml : m < l.length := by omega
                  have e0 := (HBO.out.cell (p := ⟨w1.heap.size, m, none⟩) (World.block_lt_of_cell? _ _ hqc)).trans hqc
                  have HQ := Lib.hid (show (L.take (j + 1)).map tf = (L.take j).map tf ++ [tf (m : Int)] by rw [List.take_add_one, hq]; simp)
                  clear hq d0' hqc hq0 hql
                  go_wp2_with (at_builtin; refine wpList_append_own _ rfl (.tmp 81) (.tmp 89) 27 rfl w3.heap.size 3 i0 _ 1 8 Try.underlying27 hi hz0 hz1 hz2 rfl (by decide) _ _ _ rfl (HT.out.row.alloc _) ⟨wr.heap.size, 0, none⟩ 1 1 [.int .i64 (tf (m : Int))] rfl rfl (cell_one_new _ _ _) (by intro u hu; simp at hu; subst hu; rfl) (by unfold maxLen; omega) (by omega) (by simp; omega) ?_)
                  intro tv' w6 hrow6 hg6 _
                  have HR6 := Lib.hid hrow6
                  have HB6 := Lib.hid ((HBT.out.alloc hst3 (.cells #[.int .i64 (tf (m : Int))] 3)).grown hg6 (by simp; omega) (fun jj hjj => (HT.out.row.lt jj hjj).1))
                  clear hrow6 hg6
                  go_wp2
                  refine ⟨⟨j + 1, _, rfl, by go_num, by omega, by have h6 := HR6.out; rw [← List.map_take] at h6; rw [HQ.out, ints_snoc]; exact h6, HB6.out⟩, by simp [intOf]; omega⟩
                · have hjl : j = L.length := by omega
                  subst hjl
                  have HTI : Hid (Ints wr tv (L.map tf)) := Lib.hid (Ints.of_own (by have := HT.out.row; rw [List.take_length] at this; rw [List.length_map]; exact this))
                  have hlm : (L.map tf).length ≤ 3 := by rw [List.length_map]; exact hLs
                  have b0 := (HBO.out.cell (p := ⟨g, o + k * 6, none⟩) (by simp; omega)).trans ((HB.out.cell (p := ⟨g, o + k * 6, none⟩) hgl).trans HC.out.1)
                  have b1 := (HBO.out.cell (p := ⟨g, o + k * 6 + 1, none⟩) (by simp; omega)).trans ((HB.out.cell (p := ⟨g, o + k * 6 + 1, none⟩) hgl).trans HC.out.2.1)
                  have b2 := (HBO.out.cell (p := ⟨g, o + k * 6 + 2, none⟩) (by simp; omega)).trans ((HB.out.cell (p := ⟨g, o + k * 6 + 2, none⟩) hgl).trans HC.out.2.2.1)
                  have b3 := (HBO.out.cell (p := ⟨g, o + k * 6 + 3, none⟩) (by simp; omega)).trans ((HB.out.cell (p := ⟨g, o + k * 6 + 3, none⟩) hgl).trans HC.out.2.2.2.1)
                  have b4 := (HBO.out.cell (p := ⟨g, o + k * 6 + 4, none⟩) (by simp; omega)).trans ((HB.out.cell (p := ⟨g, o + k * 6 + 4, none⟩) hgl).trans HC.out.2.2.2.2.1)
                  have b5 := (HBO.out.cell (p := ⟨g, o + k * 6 + 5, none⟩) (by simp; omega)).trans ((HB.out.cell (p := ⟨g, o + k * 6 + 5, none⟩) hgl).trans HC.out.2.2.2.2.2)
                  obtain ⟨N, hN⟩ : ∃ N, (fillF P (l.take k)).1.length = N := ⟨_, rfl⟩
                  have HNN := Lib.hid hN
                  have hNm : N + 1 ≤ 80000 := by omega
                  have HOO := Lib.hid (own_below HREL.out.own HBO.out)
                  rw [hN] at HOO
                  clear hN
                  go_wp2_with fail
                  refine (aim_any x tv (L.map tf) _ HTI.out hlm).mono ?_
                  rintro r w5 ⟨rfl, hb5⟩
                  obtain ⟨y, hy⟩ : ∃ y, aimM x (L.map tf) = y := ⟨_, rfl⟩
                  have HY := Lib.hid hy
                  rw [hy]
                  have hs5 := hb5.size
                  have hswo := HBO.out.size
                  have HB5 := Lib.hid (HBO.out.trans (hb5.mono hswo))
                  have HO5 := Lib.hid (own_below HOO.out hb5)
                  clear hy hb5 b0 b1 b2 b3 b4 b5
                  go_wp2_with (at_builtin; refine wpList_append_own _ rfl (.tmp 91) (.tmp 98) 23 rfl w1.heap.size 30 i1 _ 6 56 Try.underlying23 hi' hz0' hz1' hz2' rfl (by decide) _ N _ rfl (HO5.out.alloc _) ⟨w5.heap.size, 0, none⟩ 1 1 (ndCells y) rfl rfl (World.news_of_block (t := 30) (fr := (0, 0)) (heap_alloc_new _ _)) (by simp [ndCells, Value.oneCell']) (by unfold maxLen; omega) (by omega) (by simp; omega) ?_)
                  intro v' w6 hown6 hg6 _
                  have HE := Lib.hid (show (fillF P (l.take (k + 1))).1 = (fillF P (l.take k)).1 ++ [y] by rw [HNX.out, ← HY.out, HMK.out]; unfold fillStep; simp only [HP0.out, if_true]; rw [HL.out, HTF.out])
                  have hmid := HREL.out.mid (N := N + 1) (HB5.out.alloc (by omega) _) hg6 (by rw [HE.out, List.length_append, HNN.out]; rfl) (by rw [HE.out, nds_snoc]; exact hown6)
                  have HMID := Lib.hid hmid
                  obtain ⟨old, hold⟩ : ∃ old, ((fillF P (l.take k)).2 ++ List.replicate (l.length - k) (0 : Int))[k]? = some old := ⟨_, List.getElem?_eq_getElem (by rw [List.length_append, fillF_at, List.length_take, List.length_replicate]; omega)⟩
                  have ci := (hmid.row.cellAt k (by omega)).trans (intsOf_get _ _ _ hold)
                  have fi := hmid.row.frozenAt k
                  obtain ⟨A5, c5, hv5, x3, x4, _⟩ := Nodes.of_own (l := (fillF P (l.take (k + 1))).1) (by rw [hmid.len]; exact hmid.own)
                  rw [hmid.len] at hv5 x3
                  unfold maxLen at x4
                  subst hv5
                  clear hown6 hg6 hmid hold
                  go_wp2
                  have R := Lib.hid (HMID.out.step HX.out (Nat.le_refl _))
                  have e1 : ((N + 1 : Nat) : Int) - 1 = (N : Int) := by omega
                  rw [e1] at R
                  refine ⟨⟨k + 1, _, rfl, by go_num, R.out⟩, by simp [intOf]; omega⟩
          · rw [if_neg hp] at hst
            have hp0 : 0 < (P x).length := List.length_pos_iff.2 hp
            have HP0 := Lib.hid hp
            have hcase : (x.op == 3) = true ∧ ∃ j p, placeM names x.name = some j ∧ ps[j]? = some p ∧ normB p = P x := by
              rw [← HPD.out] at hp ⊢
              unfold putP at hp ⊢
              by_cases ho : x.op = 3
              · rw [if_pos ho] at hp ⊢
                refine ⟨by rw [beq_iff_eq]; exact ho, ?_⟩
                cases hpl : placeM names x.name with
                | none => rw [hpl] at hp; exact absurd rfl hp
                | some j =>
                  have hj := (List.getElem?_eq_some_iff.1 (place_some _ _ _ hpl)).1
                  have hjp : j < ps.length := by have := HNP.out; omega
                  exact ⟨j, ps[j], rfl, List.getElem?_eq_getElem hjp, by simp [List.getD, List.getElem?_eq_getElem hjp]⟩
              · rw [if_neg ho] at hp; exact absurd rfl hp
            obtain ⟨ho, j, p, hpl, hpj, hq⟩ := hcase
            have HPI := Lib.hid (show placeI names x.name = (j : Int) by unfold placeI; rw [hpl])
            have hjl := (List.getElem?_eq_some_iff.1 hpj).1
            obtain ⟨g2, o2, u, rfl, hgb2, hg2, d0, hu, hul⟩ := HAP.out j p hpj
            have c0 := (HBW.out.cell (p := ⟨g2, o2 + j, none⟩) hg2).trans d0
            have HU := Lib.hid (hu.below HBW.out (Nat.le_refl _))
            have HQ := Lib.hid hq
            clear hp hpl hpj hq d0 hu hul
            go_wp2_with fail
            refine (place_any _ names x.name _ HNS.out).mono ?_
            rintro r w3 ⟨rfl, rfl⟩
            rw [HPI.out]
            go_wp2_with fail
            refine (rnorm_any _ p _ HU.out).mono ?_
            rintro r w3 ⟨v3, rfl, hown3, hb3⟩
            rw [HQ.out] at hown3
            have hs3 := hb3.size
            have HB3 := Lib.hid hb3
            have HO3 := Lib.hid hown3
            have HOV := Lib.hid (own_below HREL.out.own hb3)
            clear hown3 hb3 b0 b1 b2 b3 b4 b5
            go_wp2_with fail
            refine (behind_own ov v3 (fillF P (l.take k)).1 (P x) w1.heap.size _ HOV.out (by omega) (Nodes.of_own HO3.out) (fun h g o n c hh hk => by
              subst hh
              have h4 := (HREL.out.own.lt g hk).2
              have h5 := (HO3.out.lt g rfl).1
              omega) (by omega)).mono ?_
            rintro r w4 ⟨ov4, rfl, hown4, hg4, -⟩
            obtain ⟨A4, c4, rfl, x1, x2, _⟩ := Nodes.of_own hown4
            obtain ⟨N, hN⟩ : ∃ N, ((fillF P (l.take k)).1 ++ (P x).map (onNd ((fillF P (l.take k)).1.length : Int))).length = N := ⟨_, rfl⟩
            have hNm : N ≤ 80000 := by rw [← hN, List.length_append, List.length_map]; omega
            have HNN := Lib.hid hN
            rw [hN] at hown4 x1 ⊢
            unfold maxLen at x2
            have HE := Lib.hid (show (fillF P (l.take (k + 1))).1 = (fillF P (l.take k)).1 ++ (P x).map (onNd ((fillF P (l.take k)).1.length : Int)) by rw [HNX.out]; unfold fillStep; simp only [HP0.out, if_false]; rfl)
            have hmid := HREL.out.mid (N := N) HB3.out hg4 (by rw [HE.out]; exact HNN.out) (by rw [HE.out]; exact hown4)
            have HMID := Lib.hid hmid
            obtain ⟨old, hold⟩ : ∃ old, ((fillF P (l.take k)).2 ++ List.replicate (l.length - k) (0 : Int))[k]? = some old := ⟨_, List.getElem?_eq_getElem (by rw [List.length_append, fillF_at, List.length_take, List.length_replicate]; omega)⟩
            have ci := (hmid.row.cellAt k (by omega)).trans (intsOf_get _ _ _ hold)
            have fi := hmid.row.frozenAt k
            clear hown4 hg4 hN hmid hold
            go_wp2
            have R := Lib.hid (HMID.out.step HX.out (Nat.le_refl _))
            refine ⟨⟨k + 1, _, rfl, by go_num, R.out⟩, by simp [intOf]; omega⟩
        · have hkl : k = l.length := by omega
          subst hkl
          go_wp2
          go_ret
          have h5 := HREL.out.own
          rw [List.take_length] at h5
          rw [HJ3.out]
          exact ⟨_, rfl, own_base h5 hs1, HBW.out⟩
end Go.Proofs.Ytmggedjolocgdaa.Tr
