/- The closure of Sub lays the nodes of which a node is made, in order. Conditions: the expression may be. -/
import Derived.Test.YtmggedjolocgdaaTreeS0
namespace Go.Proofs.Ytmggedjolocgdaa.Tr
open Go.ChangeShapes Go.WideShapes Go.ChangeAt Go.RowKit
set_option linter.unusedVariables false
set_option linter.unusedSimpArgs false

set_option maxRecDepth 100000 in
set_option maxHeartbeats 4000000 in
theorem lay_any (W0 : World) (ev : Value) (e : List Nd) (E X : Nat) (hm : May e) (hv : Nodes W0 ev e) : ∀ (f i : Nat) (w : World) (ov : Value) (out : List Nd) (pos : List Int), i < f → i < e.length →
    Lay W0 ev e E X w ov out pos → out.length + (tree e i).size ≤ 100000 →
    Calls Try.prog 38 #[.int .i64 i, .pointer (some ⟨X, 0, none⟩), .pointer (some ⟨E + 4, 0, none⟩), .pointer (some ⟨E + 1, 0, none⟩), .pointer (some ⟨E + 3, 0, none⟩)] w (LayPost W0 ev e E X w ov out pos i) := by
  intro f
  induction f with
  | zero => intro i w ov out pos h; omega
  | succ f ih =>
    intro i w ov out pos hif hie hlay hsz
    have IH := Lib.hid ih
    clear ih
    obtain ⟨A, c, rfl, h1, h2, hA⟩ := hv
    unfold maxLen at h2
    obtain ⟨x, hx⟩ : ∃ x, e[i]? = some x := ⟨_, List.getElem?_eq_getElem hie⟩
    obtain ⟨g, o, rfl, hg, a0, a1, a2, a3, a4, a5⟩ := hA i x hx
    have HA := Lib.hid hA
    have HM := Lib.hid hm
    have HY := Lib.hid hlay
    have HX := Lib.hid hx
    have hbase := hlay.base
    have hgE : g < W0.heap.size := hg
    have hXE := hlay.hX
    have q0 := cell_of_one hlay.exp
    have q1 := cell_of_one hlay.res
    have q3 := cell_of_one hlay.lst
    have q4 := cell_of_one hlay.fn
    have b0 := (hlay.below.cell (p := ⟨g, o + i * 6, none⟩) hgE).trans a0
    have b1 := (hlay.below.cell (p := ⟨g, o + i * 6 + 1, none⟩) hgE).trans a1
    have b2 := (hlay.below.cell (p := ⟨g, o + i * 6 + 2, none⟩) hgE).trans a2
    have b3 := (hlay.below.cell (p := ⟨g, o + i * 6 + 3, none⟩) hgE).trans a3
    have b4 := (hlay.below.cell (p := ⟨g, o + i * 6 + 4, none⟩) hgE).trans a4
    have b5 := (hlay.below.cell (p := ⟨g, o + i * 6 + 5, none⟩) hgE).trans a5
    have hE4 := lt_of_block hlay.fn
    have HBASE := Lib.hid hbase
    have HC := Lib.hid (And.intro a0 (And.intro a1 (And.intro a2 (And.intro a3 (And.intro a4 a5)))))
    clear hA hx hlay hm a0 a1 a2 a3 a4 a5 hbase
    have hbE := HBASE.out
    obtain ⟨L, hL⟩ : ∃ L, kidsM x = L := ⟨_, rfl⟩
    have HL := Lib.hid hL
    have hLs : L.length ≤ 3 := by rw [← hL]; exact kids_small x
    have HIN := Lib.hid (show ∀ q ∈ L, 0 ≤ q ∧ q < (i : Int) by rw [← hL]; exact HM.out.ahead i x HX.out)
    clear hL
    go_enter Try.func38, Try.ntmps38
    go_wp2_with fail
    refine (kids_any x _).mono ?_
    rintro r w2 ⟨kv, rfl, hok, hb2⟩
    rw [HL.out] at hok
    obtain ⟨A2, c2, rfl, y1, y2, hA2⟩ := Ints.of_own hok
    have HA2 := Lib.hid hA2
    have HY2 := Lib.hid (HY.out.kept hb2)
    have hz2 := hb2.size
    have HW2 := Lib.hid hz2
    have HKEEP := Lib.hid (show ∀ p : Addr, p.block < w.heap.size → w2.cell? p = w.cell? p from fun p hp => hb2.cell hp)
    have HKO := Lib.hid (show ∀ g2 o2, A2 = some ⟨g2, o2, none⟩ → w.heap.size ≤ g2 from fun g2 o2 h => by subst h; have := hok.lt g2 rfl; omega)
    clear hok hA2 hb2 q0 q1 q3 q4 b0 b1 b2 b3 b4 b5
    unfold maxLen at y2
    have hblk0 : ∀ b, ov.ownBlock = some b → b < w.heap.size := fun b hb => (HY.out.own.lt b hb).2
    have HSZ := Lib.hid (tree_size e HM.out.ahead i x HX.out)
    have HREL0 : Hid (LayRel W0 (.slice (some ⟨g, o, none⟩) e.length c) e E X w w2 ov out pos L 0 w2 ov pos) := Lib.hid
      { le := Nat.zero_le _, lay := by have := HY2.out; simpa [flats] using this, at_ := fun t q ht => absurd ht (by omega), same := fun m _ => rfl, size := Nat.le_refl _, keep := fun p _ _ => rfl,
        blk := fun b hb => .inl (hblk0 b hb), blk0 := fun b hb => .inl hb, frame := fun p h1 _ _ _ => HKEEP.out p h1 }
    clear hblk0
    go_wp2
    go_loopw [14] (fun cv wr => ∃ j : Nat, cv = .int .i64 j ∧ ∃ ov' pos', LayRel W0 (.slice (some ⟨g, o, none⟩) e.length c) e E X w w2 ov out pos L j wr ov' pos') (fun cv _ => L.length - (intOf cv).toNat)
    case atStart => exact ⟨0, rfl, ov, pos, HREL0.out⟩
    case round =>
      obtain ⟨j, rfl, ov', pos', hrel⟩ := hrel
      have hj := hrel.le
      have HREL := Lib.hid hrel
      have q0 := cell_of_one hrel.lay.exp
      have q1 := cell_of_one hrel.lay.res
      have q3 := cell_of_one hrel.lay.lst
      have q4 := cell_of_one hrel.lay.fn
      have hE4' := lt_of_block hrel.lay.fn
      have hs2 := hrel.size
      clear hrel
      by_cases hlj : j < L.length
      · obtain ⟨q, hq⟩ : ∃ q, L[j]? = some q := ⟨_, List.getElem?_eq_getElem hlj⟩
        obtain ⟨g2, o2, rfl, hg2, d0'⟩ := HA2.out j q hq
        have hgb := HKO.out g2 o2 rfl
        have d0 := (HREL.out.keep ⟨g2, o2 + j, none⟩ (by simp; omega) (by simp; omega)).trans d0'
        obtain ⟨hq0, hqi⟩ := HIN.out q (List.mem_of_getElem? hq)
        obtain ⟨m, rfl⟩ := Int.eq_ofNat_of_zero_le hq0
        have HQ := Lib.hid hq
        have hup := upTo_le e L (j + 1)
        have HUP := Lib.hid (show out.length + upTo e (L.take j) + (tree e m).size ≤ 100000 by
          rw [List.take_add_one, hq] at hup
          have h3 := upTo_snoc e (L.take j) (m : Int)
          simp only [Option.toList] at hup
          rw [h3, Int.toNat_natCast] at hup
          have h4 := HSZ.out
          rw [HL.out] at h4
          omega)
        clear hq d0' hup
        go_wp2_with fail
        refine (IH.out m _ ov' _ pos' (by omega) (by omega) HREL.out.lay (by rw [List.length_append, flats_len]; exact HUP.out)).mono ?_
        intro r w' hp
        obtain ⟨ov'', pos'', rfl, hrel2⟩ := rel_step HM.out HX.out HL.out HQ.out hE4 HW2.out HREL.out hp
        have HREL2 := Lib.hid hrel2
        clear hp hrel2
        go_wp2
        refine ⟨⟨j + 1, by go_num, ov'', pos'', HREL2.out⟩, by simp [intOf]; omega⟩
      · have hjl : j = L.length := by omega
        subst hjl
        have hrel := HREL.out
        have htk : L.take L.length = L := List.take_length
        have hlay := hrel.lay
        rw [htk] at hlay
        obtain ⟨A3, c3, rfl, z1, z2, _⟩ := Nodes.of_own hlay.own
        have hN : (out ++ flats e out.length L).length = out.length + upTo e L := by rw [List.length_append, flats_len]
        obtain ⟨N, hNN⟩ : ∃ N, (out ++ flats e out.length L).length = N := ⟨_, rfl⟩
        have HN := Lib.hid hNN
        have hNle : N ≤ 100000 := by
          have h4 := HSZ.out
          rw [HL.out] at h4
          omega
        have HNU := Lib.hid (show N = out.length + upTo e L by omega)
        obtain ⟨pv, hpv⟩ : ∃ pv, pos'[i]? = some pv := ⟨_, List.getElem?_eq_getElem (by rw [hlay.len]; exact hie)⟩
        have ci := (hlay.row.cellAt i (by omega)).trans (intsOf_get _ _ _ hpv)
        have fi := hlay.row.frozenAt i
        have HLAY := Lib.hid hlay
        have b0 := (hlay.below.cell (p := ⟨g, o + i * 6, none⟩) hgE).trans (HC.out.1)
        have b1 := (hlay.below.cell (p := ⟨g, o + i * 6 + 1, none⟩) hgE).trans (HC.out.2.1)
        have b2 := (hlay.below.cell (p := ⟨g, o + i * 6 + 2, none⟩) hgE).trans (HC.out.2.2.1)
        have b3 := (hlay.below.cell (p := ⟨g, o + i * 6 + 3, none⟩) hgE).trans (HC.out.2.2.2.1)
        have b4 := (hlay.below.cell (p := ⟨g, o + i * 6 + 4, none⟩) hgE).trans (HC.out.2.2.2.2.1)
        have b5 := (hlay.below.cell (p := ⟨g, o + i * 6 + 5, none⟩) hgE).trans (HC.out.2.2.2.2.2)
        have hgz : g < wr.heap.size := by omega
        have hgn : E + 2 ≠ g := by omega
        clear hrel htk hlay hN hpv
        rw [hNN] at z1 q1
        clear hNN
        unfold maxLen at z2
        have HPUT := Lib.hid (HLAY.out.put i ((N : Nat) : Int))
        obtain ⟨tf, htf⟩ : ∃ tf : Int → Int, tf = fun k => (pos'.set i ((N : Nat) : Int))[k.toNat]?.getD 0 := ⟨_, rfl⟩
        have HTF := Lib.hid htf
        clear htf
        have HAA := Lib.hid (show ∀ k ∈ L, (pos'.set i ((N : Nat) : Int))[k.toNat]? = some (tf k) from fun k hk => by
          have := HIN.out k hk
          rw [HTF.out]
          have hl : k.toNat < (pos'.set i ((N : Nat) : Int)).length := by rw [List.length_set, HLAY.out.len]; omega
          simp [List.getElem?_eq_getElem hl])
        have HFI := Lib.hid (fields_in x L (by rw [← HL.out]; exact (HM.out.node i x HX.out).bare))
        go_wp2
        obtain ⟨w3, hw3⟩ : ∃ w3, w3 = wr.setCell ⟨E + 2, i, none⟩ (.int .i64 (N : Int)) := ⟨_, rfl⟩
        rw [← hw3]
        rw [← hw3] at HPUT
        have q0 := cell_of_one HPUT.out.exp
        have q1 := cell_of_one HPUT.out.res
        rw [HN.out] at q1
        have q3 := cell_of_one HPUT.out.lst
        have hE3 := lt_of_block HPUT.out.fn
        have b0 := (HPUT.out.below.cell (p := ⟨g, o + i * 6, none⟩) hgE).trans (HC.out.1)
        have b1 := (HPUT.out.below.cell (p := ⟨g, o + i * 6 + 1, none⟩) hgE).trans (HC.out.2.1)
        have b2 := (HPUT.out.below.cell (p := ⟨g, o + i * 6 + 2, none⟩) hgE).trans (HC.out.2.2.1)
        have b3 := (HPUT.out.below.cell (p := ⟨g, o + i * 6 + 3, none⟩) hgE).trans (HC.out.2.2.2.1)
        have b4 := (HPUT.out.below.cell (p := ⟨g, o + i * 6 + 4, none⟩) hgE).trans (HC.out.2.2.2.2.1)
        have b5 := (HPUT.out.below.cell (p := ⟨g, o + i * 6 + 5, none⟩) hgE).trans (HC.out.2.2.2.2.2)
        have HW3 := Lib.hid hw3
        have hie0 : (0 : Int) ≤ (i : Int) := by omega
        have hie1 : (i : Int) < (e.length : Int) := by omega
        clear hw3 ci fi
        obtain ⟨i1, hi, hz0, hz1, hz2⟩ := info_parts info30
        go_region_law (first
          | (go_simp; go_at_call 39; refine (moved40 _ _ _ _ _ _ ⟨E + 3, 0, none⟩ _ (pos'.set i ((N : Nat) : Int)) tf _ (by exact q3) (by exact HPUT.out.ints) (by intro h0; exact HAA.out _ (HFI.out.1 (by omega))) (by intro h0; exact HAA.out _ (HFI.out.2.1 (by omega))) (by intro h0; exact HAA.out _ (HFI.out.2.2 (by omega)))).mono ?_; rintro r w4 ⟨rfl, hb4⟩; obtain ⟨hz4, c4, r4, own4, hz5⟩ := HPUT.out.moved hb4; rw [HN.out] at c4 r4 own4; have hne4 : E + 1 ≠ w4.heap.size := (by omega); have hlt4 : E + 1 < w4.heap.size := (by omega))
          | (refine step_append_lies _ (by rfl) _ _ _ (by rfl) (E + 5) 30 i1 _ 6 56 Try.underlying23 hi hz0 hz1 hz2 rfl (by omega) (.slice A3 N c3) N (ndsOf (out ++ flats e out.length L)) (by rfl) (by exact own4.alloc _) ⟨w4.heap.size, 0, none⟩ 1 1 (ndCells ⟨x.op, toM tf x.a, toM tf x.b, toM tf x.c, x.n, x.name⟩) (by rfl) (by rfl) (World.news_of_block (t := 30) (fr := (0, 0)) (heap_alloc_new _ _)) (by simp [ndCells, Value.oneCell']) (by omega) (by unfold maxLen; omega) (by omega) (by simp; omega) (w4.heap.size + 1) (by simp) ?_; intro gg cap w5 hown5 hgrow hat hlt; have r5 := grown_one own4 r4 hz5 hgrow; have c5 := cell_of_one r5; have f5 := free_of_one r5))
        all_goals refine bodyPost_ret (v := .tuple #[]) (by simp [results, Try.results38, go_sem]) rfl ?_
        all_goals exact lay_end HM.out HX.out HL.out hE4 HW2.out HREL.out HN.out HPUT.out HW3.out HAA.out hb4 (by cases A3 <;> rfl) hgrow hown5 hat
end Go.Proofs.Ytmggedjolocgdaa.Tr
