/- The closure of Sub lays the nodes of which a node is made, in order. Conditions: the expression may be. -/
import Derived.Test.YtobkcdkffcenbaaGreatDoorSa04
import Derived.Test.YtobkcdkffcenbaaGreatDoorCa10
import Derived.Deep.OwnRows
import Derived.Laws.EntriesVeiled
import Derived.Test.YtobkcdkffcenbaaGreatDoorSa03
set_option linter.unusedVariables false
set_option linter.unusedSimpArgs false
namespace Go.Proofs.YtobkcdkffcenbaaGreatDoor.Tr
open Go.ChangeShapes Go.WideShapes Go.ChangeAt Go.RowKit
set_option maxRecDepth 100000 in
set_option maxHeartbeats 4000000 in
theorem lay_any (W0 : World) (ev : Value) (e : List Nd) (E X : Nat) (hm : May e) (hv : Nodes W0 ev e) : ∀ (f i : Nat) (w : World) (ov : Value) (out : List Nd) (pos : List Int), i < f → i < e.length →
    Lay W0 ev e E X w ov out pos → out.length + (tree e i).size ≤ 100000 →
    Calls Tryz.prog 67 #[.int .i64 i, .pointer (some ⟨X, 0, none⟩), .pointer (some ⟨E + 4, 0, none⟩), .pointer (some ⟨E + 1, 0, none⟩), .pointer (some ⟨E + 3, 0, none⟩)] w (LayPost W0 ev e E X w ov out pos i) := by
  intro f
  induction f with
  | zero => intro i w ov out pos h; omega
  | succ f ih =>
    intro i w ov out pos hif hie hlay hsz
    have IH := Lib.hid ih
    clear ih
    obtain ⟨A, c, rfl, h1, h2, hA⟩ := hv
    unfold maxLen at h2
    obtain ⟨x, hx⟩ : ∃ x, e[i]? = some x := ⟨_, List.getElem?_eq_getElem hie⟩
    obtain ⟨g, o, rfl, hg, a0, a1, a2, a3, a4, a5⟩ := hA i x hx
    have HA := Lib.hid hA
    have HM := Lib.hid hm
    have HY := Lib.hid hlay
    have HX := Lib.hid hx
    have hbase := hlay.base
    have hgE : g < W0.heap.size := hg
    have hXE := hlay.hX
    have q0 := cell_of_one hlay.exp
    have q1 := cell_of_one hlay.res
    have q3 := cell_of_one hlay.lst
    have q4 := cell_of_one hlay.fn
    have b0 := (hlay.below.cell (p := ⟨g, o + i * 6, none⟩) hgE).trans a0
    have b1 := (hlay.below.cell (p := ⟨g, o + i * 6 + 1, none⟩) hgE).trans a1
    have b2 := (hlay.below.cell (p := ⟨g, o + i * 6 + 2, none⟩) hgE).trans a2
    have b3 := (hlay.below.cell (p := ⟨g, o + i * 6 + 3, none⟩) hgE).trans a3
    have b4 := (hlay.below.cell (p := ⟨g, o + i * 6 + 4, none⟩) hgE).trans a4
    have b5 := (hlay.below.cell (p := ⟨g, o + i * 6 + 5, none⟩) hgE).trans a5
    have hE4 := lt_of_block hlay.fn
    have HBASE := Lib.hid hbase
    have HC := Lib.hid (And.intro a0 (And.intro a1 (And.intro a2 (And.intro a3 (And.intro a4 a5)))))
    clear hA hx hlay hm a0 a1 a2 a3 a4 a5 hbase
    have hbE := HBASE.out
    obtain ⟨L, hL⟩ : ∃ L, kidsM x = L := ⟨_, rfl⟩
    have HL := Lib.hid hL
    have hLs : L.length ≤ 3 := by rw [← hL]; exact kids_small x
    have HIN := Lib.hid (show ∀ q ∈ L, 0 ≤ q ∧ q < (i : Int) by rw [← hL]; exact HM.out.ahead i x HX.out)
    clear hL
    go_enter Tryz.func67, Tryz.ntmps67
    go_wp2_with fail
    refine (kids_any x _).mono ?_
    rintro r w2 ⟨kv, rfl, hok, hb2⟩
    rw [HL.out] at hok
    obtain ⟨A2, c2, rfl, y1, y2, hA2⟩ := Ints.of_own hok
    have HA2 := Lib.hid hA2
    have HY2 := Lib.hid (HY.out.kept hb2)
    have hz2 := hb2.size
    have HW2 := Lib.hid hz2
    have HKEEP := Lib.hid (show ∀ p : Addr, p.block < w.heap.size → w2.cell? p = w.cell? p from fun p hp => hb2.cell hp)
    have HKO := Lib.hid (show ∀ g2 o2, A2 = some ⟨g2, o2, none⟩ → w.heap.size ≤ g2 from fun g2 o2 h => by subst h; have := hok.lt g2 rfl; omega)
    clear hok hA2 hb2 q0 q1 q3 q4 b0 b1 b2 b3 b4 b5
    unfold maxLen at y2
    have hblk0 : ∀ b, ov.ownBlock = some b → b < w.heap.size := fun b hb => (HY.out.own.lt b hb).2
    have HSZ := Lib.hid (tree_size e HM.out.ahead i x HX.out)
    have HREL0 : Hid (LayRel W0 (.slice (some ⟨g, o, none⟩) e.length c) e E X w w2 ov out pos L 0 w2 ov pos) := Lib.hid
      { le := Nat.zero_le _, lay := by have := HY2.out; simpa [flats] using this, at_ := fun t q ht => absurd ht (by omega), same := fun m _ => rfl, size := Nat.le_refl _, keep := fun p _ _ => rfl,
        blk := fun b hb => .inl (hblk0 b hb), blk0 := fun b hb => .inl hb, frame := fun p h1 _ _ _ => HKEEP.out p h1 }
    clear hblk0
    go_wp2
    go_loopw [14] (fun cv wr => ∃ j : Nat, cv = .int .i64 j ∧ ∃ ov' pos', LayRel W0 (.slice (some ⟨g, o, none⟩) e.length c) e E X w w2 ov out pos L j wr ov' pos') (fun cv _ => L.length - (intOf cv).toNat)
    case atStart => exact ⟨0, rfl, ov, pos, HREL0.out⟩
    case round =>
      obtain ⟨j, rfl, ov', pos', hrel⟩ := hrel
      have hj := hrel.le
      have HREL := Lib.hid hrel
      have q0 := cell_of_one hrel.lay.exp
      have q1 := cell_of_one hrel.lay.res
      have q3 := cell_of_one hrel.lay.lst
      have q4 := cell_of_one hrel.lay.fn
      have hE4' := lt_of_block hrel.lay.fn
      have hs2 := hrel.size
      clear hrel
      by_cases hlj : j < L.length
      · obtain ⟨q, hq⟩ : ∃ q, L[j]? = some q := ⟨_, List.getElem?_eq_getElem hlj⟩
        obtain ⟨g2, o2, rfl, hg2, d0'⟩ := HA2.out j q hq
        have hgb := HKO.out g2 o2 rfl
        have d0 := (HREL.out.keep ⟨g2, o2 + j, none⟩ (by simp; omega) (by simp; omega)).trans d0'
        obtain ⟨hq0, hqi⟩ := HIN.out q (List.mem_of_getElem? hq)
        obtain ⟨m, rfl⟩ := Int.eq_ofNat_of_zero_le hq0
        have HQ := Lib.hid hq
        have hup := upTo_le e L (j + 1)
        have HUP := Lib.hid (show out.length + upTo e (L.take j) + (tree e m).size ≤ 100000 by
          rw [List.take_add_one, hq] at hup
          have h3 := upTo_snoc e (L.take j) (m : Int)
          simp only [Option.toList] at hup
          rw [h3, Int.toNat_natCast] at hup
          have h4 := HSZ.out
          rw [HL.out] at h4
          omega)
        clear hq d0' hup
        go_wp2_with fail
        refine (IH.out m _ ov' _ pos' (by omega) (by omega) HREL.out.lay (by rw [List.length_append, flats_len]; exact HUP.out)).mono ?_
        intro r w' hp
        obtain ⟨ov'', pos'', rfl, hrel2⟩ := rel_step HM.out HX.out HL.out HQ.out hE4 HW2.out HREL.out hp
        have HREL2 := Lib.hid hrel2
        clear hp hrel2
        go_wp2
        refine ⟨⟨j + 1, by go_num, ov'', pos'', HREL2.out⟩, by simp [intOf]; omega⟩
      · have hjl : j = L.length := by omega
        subst hjl
        have hrel := HREL.out
        have htk : L.take L.length = L := List.take_length
        have hlay := hrel.lay
        rw [htk] at hlay
        obtain ⟨A3, c3, rfl, z1, z2, _⟩ := Nodes.of_own hlay.own
        have hN : (out ++ flats e out.length L).length = out.length + upTo e L := by rw [List.length_append, flats_len]
        obtain ⟨N, hNN⟩ : ∃ N, (out ++ flats e out.length L).length = N := ⟨_, rfl⟩
        have HN := Lib.hid hNN
        have hNle : N ≤ 100000 := by
          have h4 := HSZ.out
          rw [HL.out] at h4
          omega
        have HNU := Lib.hid (show N = out.length + upTo e L by omega)
        obtain ⟨pv, hpv⟩ : ∃ pv, pos'[i]? = some pv := ⟨_, List.getElem?_eq_getElem (by rw [hlay.len]; exact hie)⟩
        have ci := (hlay.row.cellAt i (by omega)).trans (intsOf_get _ _ _ hpv)
        have fi := hlay.row.frozenAt i
        have HLAY := Lib.hid hlay
        have b0 := (hlay.below.cell (p := ⟨g, o + i * 6, none⟩) hgE).trans (HC.out.1)
        have b1 := (hlay.below.cell (p := ⟨g, o + i * 6 + 1, none⟩) hgE).trans (HC.out.2.1)
        have b2 := (hlay.below.cell (p := ⟨g, o + i * 6 + 2, none⟩) hgE).trans (HC.out.2.2.1)
        have b3 := (hlay.below.cell (p := ⟨g, o + i * 6 + 3, none⟩) hgE).trans (HC.out.2.2.2.1)
        have b4 := (hlay.below.cell (p := ⟨g, o + i * 6 + 4, none⟩) hgE).trans (HC.out.2.2.2.2.1)
        have b5 := (hlay.below.cell (p := ⟨g, o + i * 6 + 5, none⟩) hgE).trans (HC.out.2.2.2.2.2)
        have hgz : g < wr.heap.size := by omega
        have hgn : E + 2 ≠ g := by omega
        clear hrel htk hlay hN hpv
        rw [hNN] at z1 q1
        clear hNN
        unfold maxLen at z2
        have HPUT := Lib.hid (HLAY.out.put i ((N : Nat) : Int))
        obtain ⟨tf, htf⟩ : ∃ tf : Int → Int, tf = fun k => (pos'.set i ((N : Nat) : Int))[k.toNat]?.getD 0 := ⟨_, rfl⟩
        have HTF := Lib.hid htf
        clear htf
        have HAA := Lib.hid (show ∀ k ∈ L, (pos'.set i ((N : Nat) : Int))[k.toNat]? = some (tf k) from fun k hk => by
          have := HIN.out k hk
          rw [HTF.out]
          have hl : k.toNat < (pos'.set i ((N : Nat) : Int)).length := by rw [List.length_set, HLAY.out.len]; omega
          simp [List.getElem?_eq_getElem hl])
        have HFI := Lib.hid (fields_in x L (by rw [← HL.out]; exact (HM.out.node i x HX.out).bare))
        go_wp2
        obtain ⟨w3, hw3⟩ : ∃ w3, w3 = wr.setCell ⟨E + 2, i, none⟩ (.int .i64 (N : Int)) := ⟨_, rfl⟩
        rw [← hw3]
        rw [← hw3] at HPUT
        have q0 := cell_of_one HPUT.out.exp
        have q1 := cell_of_one HPUT.out.res
        rw [HN.out] at q1
        have q3 := cell_of_one HPUT.out.lst
        have hE3 := lt_of_block HPUT.out.fn
        have b0 := (HPUT.out.below.cell (p := ⟨g, o + i * 6, none⟩) hgE).trans (HC.out.1)
        have b1 := (HPUT.out.below.cell (p := ⟨g, o + i * 6 + 1, none⟩) hgE).trans (HC.out.2.1)
        have b2 := (HPUT.out.below.cell (p := ⟨g, o + i * 6 + 2, none⟩) hgE).trans (HC.out.2.2.1)
        have b3 := (HPUT.out.below.cell (p := ⟨g, o + i * 6 + 3, none⟩) hgE).trans (HC.out.2.2.2.1)
        have b4 := (HPUT.out.below.cell (p := ⟨g, o + i * 6 + 4, none⟩) hgE).trans (HC.out.2.2.2.2.1)
        have b5 := (HPUT.out.below.cell (p := ⟨g, o + i * 6 + 5, none⟩) hgE).trans (HC.out.2.2.2.2.2)
        have HW3 := Lib.hid hw3
        have hie0 : (0 : Int) ≤ (i : Int) := by omega
        have hie1 : (i : Int) < (e.length : Int) := by omega
        clear hw3 ci fi
        obtain ⟨i1, hi, hz0, hz1, hz2⟩ := info_parts info30
        go_region_law (first
          | (go_simp; go_at_call 69; refine (moved40 _ _ _ _ _ _ ⟨E + 3, 0, none⟩ _ (pos'.set i ((N : Nat) : Int)) tf _ (by exact q3) (by exact HPUT.out.ints) (by intro h0; exact HAA.out _ (HFI.out.1 (by omega))) (by intro h0; exact HAA.out _ (HFI.out.2.1 (by omega))) (by intro h0; exact HAA.out _ (HFI.out.2.2 (by omega)))).mono ?_; rintro r w4 ⟨rfl, hb4⟩; obtain ⟨hz4, c4, r4, own4, hz5⟩ := HPUT.out.moved hb4; rw [HN.out] at c4 r4 own4; have hne4 : E + 1 ≠ w4.heap.size := (by omega); have hlt4 : E + 1 < w4.heap.size := (by omega))
          | (refine step_append_lies _ (by rfl) _ _ _ (by rfl) (E + 5) 70 i1 _ 6 56 Tryz.underlying32 hi hz0 hz1 hz2 rfl (by omega) (.slice A3 N c3) N (ndsOf (out ++ flats e out.length L)) (by rfl) (by exact own4.alloc _) ⟨w4.heap.size, 0, none⟩ 1 1 (ndCells ⟨x.op, toM tf x.a, toM tf x.b, toM tf x.c, x.n, x.name⟩) (by rfl) (by rfl) (World.news_of_block (t := 70) (fr := (0, 0)) (heap_alloc_new _ _)) (by simp [ndCells, Value.oneCell']) (by omega) (by unfold maxLen; omega) (by omega) (by simp; omega) (w4.heap.size + 1) (by simp) ?_; intro gg cap w5 hown5 hgrow hat hlt; have r5 := grown_one own4 r4 hz5 hgrow; have c5 := cell_of_one r5; have f5 := free_of_one r5))
        all_goals refine bodyPost_ret (v := .tuple #[]) (by simp [results, Tryz.results67, go_sem]) rfl ?_
        all_goals exact lay_end HM.out HX.out HL.out hE4 HW2.out HREL.out HN.out HPUT.out HW3.out HAA.out hb4 (by cases A3 <;> rfl) hgrow hown5 hat
end Go.Proofs.YtobkcdkffcenbaaGreatDoor.Tr

/- The function Sub returns the nodes of which a node is made, in order, or nothing. Conditions: the slice is read as a list of nodes. -/
namespace Go.Proofs.YtobkcdkffcenbaaGreatDoor.Tr
open Go.ChangeShapes Go.WideShapes Go.ChangeAt Go.RowKit
theorem may_lit (v : Value) (e : List Nd) (b : Bool) (w : World) (hv : Nodes w v e) (h : mayB e = b) : Calls Tryz.prog 66 #[v] w fun r w' => r = .returned (.bool b) ∧ Below w.heap.size w w' := by rw [← h]; exact may_any v e w hv
theorem alloc_at0 (w : World) (o : Obj) (k : Nat) (h : k = w.heap.size) : (w.alloc o).heap[k]? = some o := by subst h; exact heap_alloc_new w o
theorem sub_blocks (w2 Wn : World) (o0 o1 o2 o3 : Obj) (h : Wn = (((w2.alloc o0).alloc o1).alloc o2).alloc o3) :
    Wn.heap.size = w2.heap.size + 4 ∧ Wn.heap[w2.heap.size]? = some o0 ∧ Wn.heap[w2.heap.size + 1]? = some o1 ∧ Wn.heap[w2.heap.size + 1 + 1]? = some o2 ∧ Wn.heap[w2.heap.size + 1 + 1 + 1]? = some o3 ∧ Below w2.heap.size w2 Wn := by
  subst h
  refine ⟨by simp, ?_, ?_, ?_, alloc_at0 _ _ _ (by simp), (((below_new w2 _).alloc (by simp) _).alloc (by simp <;> omega) _).alloc (by simp <;> omega) _⟩
  · rw [Below.heap_alloc _ _ _ (by simp <;> omega), Below.heap_alloc _ _ _ (by simp <;> omega), Below.heap_alloc _ _ _ (by simp)]; exact alloc_at0 _ _ _ rfl
  · rw [Below.heap_alloc _ _ _ (by simp <;> omega), Below.heap_alloc _ _ _ (by simp)]; exact alloc_at0 _ _ _ (by simp)
  · rw [Below.heap_alloc _ _ _ (by simp)]; exact alloc_at0 _ _ _ (by simp)
def layFn (X s : Nat) : Value := .func (.func 67) #[] #[.pointer (some ⟨X, 0, none⟩), .pointer (some ⟨s + 1 + 1 + 1, 0, none⟩), .pointer (some ⟨s, 0, none⟩), .pointer (some ⟨s + 1 + 1, 0, none⟩)]
theorem lay_start {w w2 Wn : World} {ev : Value} {e : List Nd} {E : Nat} (hE : w2.heap.size = E + 1) (hw : w.heap.size ≤ E) (hn : e.length ≤ 5000) (hb2 : Below w.heap.size w w2) (q0 : w2.heap[w.heap.size]? = some (.cells #[ev] 32 (0, 0)))
    (hs : Wn.heap.size = w2.heap.size + 4) (b0 : Wn.heap[w2.heap.size]? = some (.cells #[.slice none 0 0] 32 (0, 0))) (b1 : Wn.heap[w2.heap.size + 1]? = some (.cells (madeCells #[.int .i64 0] e.length) 3 (0, 0)))
    (b2 : Wn.heap[w2.heap.size + 1 + 1]? = some (.cells #[.slice (some ⟨w2.heap.size + 1, 0, none⟩) e.length e.length] 72 (0, 0))) (b3 : Wn.heap[w2.heap.size + 1 + 1 + 1]? = some (.cells #[layFn w.heap.size w2.heap.size] 90 (0, 0))) (hb : Below w2.heap.size w2 Wn) :
    Lay w ev e E w.heap.size Wn (.slice none 0 0) [] (List.replicate e.length 0) := by
  have hs2 := hb2.size
  rw [hE] at b0 b1 b2 b3 hs
  refine ⟨hw, hw, hb2.trans (hb.mono (by omega)), ?_, b0, ?_, b2, b3, World.ownsRow_nil _ _ _ _, by simp⟩
  · rw [hb.block _ (by omega)]; exact q0
  · refine ⟨by simp [intsOf], .inr ⟨E + 2, e.length, madeCells #[.int .i64 0] e.length, rfl, Nat.le_refl _, b1, Nat.le_refl _, by unfold maxLen; omega, ?_, ?_⟩⟩
    · have := congrArg List.length (made_ints e.length); simp [intsOf] at this ⊢; exact this
    · rw [made_ints]; simp [intsOf]
set_option maxRecDepth 100000 in
set_option maxHeartbeats 1000000 in
theorem sub_any (v : Value) (e : List Nd) (i : Int) (w : World) (hv : Nodes w v e) : Calls Tryz.prog 48 #[v, .int .i64 i] w (NodesPost w (subM e i)) := by
  have HV := Lib.hid hv
  obtain ⟨A, c, rfl, h1, h2, hA⟩ := hv
  clear hA
  unfold maxLen at h2
  obtain ⟨i0, hi, hz0, hz1, hz2⟩ := info_parts info3
  by_cases h0 : i < 0
  · have HR := Lib.hid (show subM e i = [] by unfold subM; rw [if_neg (by omega)])
    rw [HR.out]
    go_enter Tryz.func48, Tryz.ntmps48
    go_wp2
    go_ret
    exact nodes_none _ _ ((Below.refl _ _).alloc (Nat.le_refl _) _)
  have h0' : 0 ≤ i := by omega
  by_cases hl : (e.length : Int) ≤ i
  · have HR := Lib.hid (show subM e i = [] by unfold subM; rw [if_neg (by omega)])
    rw [HR.out]
    clear h0
    go_enter Tryz.func48, Tryz.ntmps48
    go_wp2
    go_ret
    exact nodes_none _ _ ((Below.refl _ _).alloc (Nat.le_refl _) _)
  obtain ⟨m, rfl⟩ := Int.eq_ofNat_of_zero_le h0'
  have hml : m < e.length := by omega
  have hd : decide (e.length ≤ m) = false := by simp; omega
  clear h0 hl
  have NW := Lib.hid (HV.out.below (below_new w (.cells #[.slice A e.length c] 32)) (Nat.le_refl _))
  rcases Bool.eq_false_or_eq_true (mayB e) with hm | hm
  rotate_left
  · have HR := Lib.hid (show subM e (m : Int) = [] by unfold subM; rw [if_neg (by rw [hm]; simp)])
    have HMM := Lib.hid hm
    clear hm
    rw [HR.out]
    go_enter Tryz.func48, Tryz.ntmps48
    go_wp2_with fail
    refine (may_lit _ e _ _ (by exact NW.out) HMM.out).mono ?_
    rintro r w2 ⟨rfl, hb2⟩
    go_wp2
    go_ret
    exact nodes_none _ _ ((below_new w _).trans (hb2.mono (by simp)))
  have HM := Lib.hid (may_of hm)
  have HMM := Lib.hid hm
  have HR := Lib.hid (show subM e (m : Int) = (tree e m).flat 0 by unfold subM; rw [if_pos ⟨hm, h0', by omega⟩, Int.toNat_natCast])
  clear hm
  rw [HR.out]
  go_enter Tryz.func48, Tryz.ntmps48
  go_wp2_with fail
  refine (may_lit _ e _ _ (by exact NW.out) HMM.out).mono ?_
  rintro r w2 ⟨rfl, hb2⟩
  have hs2 := hb2.size
  simp at hs2
  have q0 : w2.heap[w.heap.size]? = some (.cells #[.slice A e.length c] 32 (0, 0)) := (hb2.block _ (by simp)).trans (heap_alloc_new w _)
  have c0 := cell_of_one q0
  have HB2 := Lib.hid ((below_new w (.cells #[.slice A e.length c] 32)).trans (hb2.mono (by simp)))
  have HQ0 := Lib.hid q0
  clear hb2 q0
  have hle := HM.out.le
  have hmk := run_make_row' (P := Tryz.prog) 72 3 (.int .i64 0) 8 Tryz.underlying72 info3 rfl .i64 .i64 e.length (by omega) (by omega)
  have hne : w.heap.size ≠ w2.heap.size := by omega
  have hne1 : w.heap.size < w2.heap.size := by omega
  go_wp2_with fail
  obtain ⟨Wn, hWn⟩ : ∃ Wn, Wn = (((w2.alloc (.cells #[.slice none 0 0] 32)).alloc (.cells (madeCells #[.int .i64 0] e.length) 3)).alloc (.cells #[.slice (some ⟨w2.heap.size + 1, 0, none⟩) e.length e.length] 72)).alloc (.cells #[layFn w.heap.size w2.heap.size] 90) := ⟨_, rfl⟩
  show Calls Tryz.prog 67 _ ((((w2.alloc (.cells #[.slice none 0 0] 32)).alloc (.cells (madeCells #[.int .i64 0] e.length) 3)).alloc (.cells #[.slice (some ⟨w2.heap.size + 1, 0, none⟩) e.length e.length] 72)).alloc (.cells #[layFn w.heap.size w2.heap.size] 90)) _
  rw [← hWn]
  obtain ⟨k0, k1, k2, k3, k4, k5⟩ := sub_blocks w2 Wn _ _ _ _ hWn
  obtain ⟨E, hE⟩ : ∃ E, w2.heap.size = E + 1 := ⟨w2.heap.size - 1, by omega⟩
  have HE := Lib.hid hE
  have hLay := lay_start (e := e) hE (by omega) hle HB2.out HQ0.out k0 k1 k2 k3 k4 k5
  have HL := Lib.hid hLay
  clear hWn k1 k2 k3 k4 k5 hLay hE
  have hcall := lay_any w (.slice A e.length c) e E w.heap.size HM.out HV.out (m + 1) m _ _ [] _ (by omega) hml HL.out (by have := size_le e HM.out m hml; simp; omega)
  have hE' := HE.out
  rw [show E + 4 = w2.heap.size + 1 + 1 + 1 by omega, show E + 1 = w2.heap.size by omega, show E + 3 = w2.heap.size + 1 + 1 by omega] at hcall
  have HCALL := Lib.hid hcall
  clear hcall hE'
  refine HCALL.out.mono ?_
  rintro r w3 ⟨ov', pos', rfl, hlay, -, -, -, -, -⟩
  have c5 := cell_of_one hlay.res
  rw [show E + 1 = w2.heap.size from HE.out.symm] at c5
  have HLY := Lib.hid hlay
  clear hlay
  go_wp2
  go_ret
  refine ⟨_, rfl, ?_, HLY.out.below⟩
  have h5 := HLY.out.own
  have h6 := HLY.out.base
  rw [List.nil_append] at h5
  exact own_base h5 (by omega)
end Go.Proofs.YtobkcdkffcenbaaGreatDoor.Tr

/- Layer types: the type of an expression in a scope. Conditions: the maps and the table lie in memory. -/
namespace Go.Proofs.YtobkcdkffcenbaaGreatDoor.Ty
open Go.ChangeShapes Go.WideShapes Go.ChangeAt Go.RowKit
open Go.Proofs.YtobkcdkffcenbaaGreatDoor.Tr
theorem ints_own {w : World} {b n : Nat} {v : Value} {L : List Int} (hL : L.length = n) (h : w.ownsRow b 3 1 v n (intsOf L)) : Ints w v L := by subst hL; exact Ints.of_own h
set_option maxRecDepth 100000 in
set_option maxHeartbeats 8000000 in
theorem of_any (sv nv v : Value) (n1 n2 : Nat) (E : Env) (e : List Nd) (w : World) (hS : StrAt w sv n1 E.str) (hN : NodAt w nv n2 E.nod) (hT : ShAt w) (hv : Nodes w v e) (hs : Short e) : Calls Tryz.prog 22 #[.agg #[sv, nv], v] w (TwoPost w (tyM E e)) := by
  have HV := Lib.hid hv
  obtain ⟨A, c, rfl, h1, h2, hA⟩ := hv
  unfold maxLen at h2
  clear hA
  obtain ⟨i0, hi, hz0, hz1, hz2⟩ := info_parts info3
  have HC0 := Lib.hid (sub_any _ e ((e.length : Int) - 1) (w.alloc (.cells #[sv, nv] 60)) (HV.out.below (below_new w _) (Nat.le_refl _)))
  obtain ⟨R, hR⟩ : ∃ R, tyM E e = R := ⟨_, rfl⟩
  have HR := Lib.hid hR
  rw [hR]
  clear hR
  obtain ⟨B, hB⟩ : ∃ B, mayB e = B := ⟨_, rfl⟩
  have HM := Lib.hid hB
  clear hB
  cases B with
  | false =>
    have HE : Hid (R = (0, 1)) := Lib.hid (by rw [← HR.out]; exact of_not E HM.out)
    rw [sub_nil HM.out] at HC0
    clear hS hN hT
    go_enter Tryz.func22, Tryz.ntmps22
    go_wp2_with fail
    refine HC0.out.mono ?_
    rintro r w1 ⟨ov, rfl, hown, hb1⟩
    have HB1 : Hid (Below w.heap.size w w1) := Lib.hid ((below_new w _).trans (hb1.mono (by simp)))
    obtain ⟨A1, c1, rfl, -⟩ := Nodes.of_own hown
    clear hown hb1
    go_wp2
    go_ret2
    exact two_of HE.out HB1.out
  | true =>
    have hmay := may_of HM.out
    have HMAY := Lib.hid hmay
    rw [sub_norm hmay] at HC0
    have HSH := Lib.hid (short_normM hmay hs)
    obtain ⟨l, hl⟩ : ∃ l, normM e = l := ⟨_, rfl⟩
    have HNM : Hid (Tr.May l) := Lib.hid (by rw [← hl]; exact hmay.norm)
    have hn := HNM.out.le
    have hp := HNM.out.pos
    have HBAD : Hid (∀ (V : Nat → Ty) (k : Nat) (c : Int), k < l.length → OkTo E l V k → tyT E (tree l k) = .error c → R = (0, c)) := Lib.hid (fun V k c h1 h2 h3 => by rw [← HR.out]; subst hl; exact of_bad E hmay V h1 h2 h3)
    have HGOOD : Hid (∀ (V : Nat → Ty), OkTo E l V l.length → R = ((V (l.length - 1)).1, 0)) := Lib.hid (fun V h => by rw [← HR.out]; subst hl; exact of_good E hmay V h)
    rw [hl] at HC0 HSH
    have HW : Hid (∀ W, Below w.heap.size w W → StrAt W sv n1 E.str ∧ NodAt W nv n2 E.nod ∧ ShAt W) := Lib.hid (fun W h => ⟨hS.below h, hN.below h, hT.below h hT.1⟩)
    clear hmay hl hS hN hT
    go_enter Tryz.func22, Tryz.ntmps22
    go_wp2_with fail
    refine HC0.out.mono ?_
    rintro r w1 ⟨ov, rfl, hown, hb1⟩
    have hsw := hb1.size
    simp at hsw
    have HB1 : Hid (Below w.heap.size w w1) := Lib.hid ((below_new w _).trans (hb1.mono (by simp)))
    have hX : w1.heap[w.heap.size]? = some (.cells #[sv, nv] 60 (0, 0)) := (hb1.block _ (by simp)).trans (heap_alloc_new w _)
    have HX := Lib.hid hX
    have HNV := Lib.hid (Nodes.of_own hown)
    obtain ⟨A1, c1, rfl, y1, y2, hA1⟩ := Nodes.of_own hown
    unfold maxLen at y2
    have HA1 := Lib.hid hA1
    clear hown hb1 hX hA1
    go_wp2_with (at_make; refine wpList_make_full _ rfl _ _ 72 rfl w1.heap.size 3 i0 _ 1 Tryz.underlying72 hi hz0 hz1 _ _ _ _ l.length rfl rfl rfl rfl (by rw [hz2]; omega) (by unfold maxLen; omega) (Nat.le_refl _) ?_)
    intro w2 hown hgrow
    have hb2 : Below w1.heap.size w1 w2 := (Below.refl _ _).grown hgrow (Nat.le_refl _) (fun k hk => by simp at hk)
    have hown0 : w2.ownsRow w1.heap.size 3 1 (.slice (some ⟨w1.heap.size, 0, none⟩) l.length l.length) l.length (intsOf (tyRow (fun _ => (0, [])) 0 l.length)) := by
      rw [tyRow_zero, ← made_ints]; exact hown
    have hz := (hown0.lt _ rfl).2
    have HO2 := Lib.hid hown0
    have HB2 := Lib.hid hb2
    clear hown hgrow hown0 hb2
    go_wp2
    go_loopw [25] (fun i wr => ∃ (k : Nat) (V : Nat → Ty), k ≤ l.length ∧ i = .int .i64 k ∧ wr.ownsRow w1.heap.size 3 1 (.slice (some ⟨w1.heap.size, 0, none⟩) l.length l.length) l.length (intsOf (tyRow V k l.length)) ∧ Below w1.heap.size w1 wr ∧ w1.heap.size < wr.heap.size ∧ OkTo E l V k) (fun i _ => l.length - (intOf i).toNat)
    case atStart => exact ⟨0, _, Nat.zero_le _, rfl, HO2.out, HB2.out, hz, fun j hj => by omega⟩
    case round =>
      obtain ⟨k, V, hk, rfl, hown, hb, hzr, hV⟩ := hrel
      have HV2 := Lib.hid hV
      have HBr := Lib.hid hb
      have HBw : Hid (Below w.heap.size w wr) := Lib.hid (HB1.out.trans (hb.mono HB1.out.size))
      have hXr := (hb.block _ (by omega)).trans HX.out
      have p0 : wr.cell? ⟨w.heap.size, 0, none⟩ = some sv := (cells_at hXr 0).trans rfl
      have p1 : wr.cell? ⟨w.heap.size, 1, none⟩ = some nv := (cells_at hXr 1).trans rfl
      have lX := lt_of_block hXr
      by_cases hlt : k < l.length
      · obtain ⟨x, hx⟩ : ∃ x, l[k]? = some x := ⟨_, List.getElem?_eq_getElem hlt⟩
        obtain ⟨g, o, rfl, hg, a0, a1, a2, a3, a4, a5⟩ := HA1.out k x hx
        have d0 := (hb.cell (p := ⟨g, o + k * 6, none⟩) hg).trans a0
        have d1 := (hb.cell (p := ⟨g, o + k * 6 + 1, none⟩) hg).trans a1
        have d2 := (hb.cell (p := ⟨g, o + k * 6 + 2, none⟩) hg).trans a2
        have d3 := (hb.cell (p := ⟨g, o + k * 6 + 3, none⟩) hg).trans a3
        have d4 := (hb.cell (p := ⟨g, o + k * 6 + 4, none⟩) hg).trans a4
        have d5 := (hb.cell (p := ⟨g, o + k * 6 + 5, none⟩) hg).trans a5
        have hgr : g < wr.heap.size := by have := hb.size; omega
        obtain ⟨w3, hw3⟩ : ∃ W, wr.alloc (.cells (ndC x) 70) = W := ⟨_, rfl⟩
        have hb3 : Below wr.heap.size wr w3 := hw3 ▸ below_new wr _
        have hbw3 : Below w.heap.size w w3 := HBw.out.trans (hb3.mono HBw.out.size)
        have ho3 := own_below hown hb3
        have HC := Lib.hid (node_any sv nv (.slice (some ⟨w1.heap.size, 0, none⟩) l.length l.length) (.slice (some ⟨g, o, none⟩) l.length c1) n1 n2 E l (tyRow V k l.length) k x w3 (HW.out w3 hbw3).1 (HW.out w3 hbw3).2.1 (HW.out w3 hbw3).2.2
          (HNV.out.below (hb.trans (hb3.mono hb.size)) (Nat.le_refl _)) (ints_own (tyRow_len _ _ _) ho3) hx hn (tyRow_len _ _ _) HNM.out.node (HSH.out x (List.mem_of_getElem? hx)))
        rw [node_tree E HNM.out V hx hV] at HC
        have HX3 : Hid (w3.heap[w.heap.size]? = some (.cells #[sv, nv] 60 (0, 0))) := Lib.hid ((hb3.block _ lX).trans hXr)
        have HO3 := Lib.hid ho3
        have HB3 : Hid (Below w1.heap.size w1 w3) := Lib.hid (hb.trans (hb3.mono hb.size))
        have hs3 := hb3.size
        have HW3 := Lib.hid hw3
        cases ht : tyT E (tree l k) with
        | error c0 =>
          rw [ht] at HC
          have hc0 : c0 = 8 ∨ c0 = 10 ∨ c0 = 14 := tyT_err E _ _ ht
          have hcb : (c0 != 0) = true := by simp; omega
          have HE := Lib.hid (HBAD.out V k c0 hlt hV ht)
          simp only [ansY] at HC
          clear hx a0 a1 a2 a3 a4 a5 hown hb hV hXr hw3 hb3 hbw3 ho3 ht hc0
          go_wp2_with fail
          rw [HW3.out]
          go_wp2_with fail
          refine HC.out.mono ?_
          rintro r w4 ⟨rfl, hb4⟩
          have HB4 : Hid (Below w.heap.size w w4) := Lib.hid (HB1.out.trans ((HB3.out.trans (hb4.mono HB3.out.size)).mono HB1.out.size))
          clear hb4
          go_wp2
          go_ret2
          exact two_of HE.out HB4.out
        | ok t =>
          rw [ht] at HC
          simp only [ansY] at HC
          have HVN := Lib.hid (hV.next ht)
          obtain ⟨t1, ht1⟩ : ∃ t1, t.1 = t1 := ⟨_, rfl⟩
          have HNX := Lib.hid (tyRow_next V k l.length t hlt)
          rw [ht1] at HC HNX
          clear hx a0 a1 a2 a3 a4 a5 hown hb hV hXr hw3 hb3 hbw3 ho3 ht ht1
          go_wp2_with fail
          rw [HW3.out]
          go_wp2_with fail
          refine HC.out.mono ?_
          rintro r w4 ⟨rfl, hb4⟩
          have HB4 : Hid (Below w1.heap.size w1 w4) := Lib.hid (HB3.out.trans (hb4.mono HB3.out.size))
          have ho4 := own_below HO3.out hb4
          have hs4 := hb4.size
          obtain ⟨z, hzz⟩ : ∃ z, (tyRow V k l.length)[k]? = some z := ⟨_, tyRow_get hlt⟩
          have e1 := (ho4.cellAt k (by omega)).trans (intsOf_get _ k z hzz)
          have f1 := ho4.frozenAt k
          have HO4 : Hid ((w4.setCell ⟨w1.heap.size, k, none⟩ (.int .i64 t1)).ownsRow w1.heap.size 3 1 (.slice (some ⟨w1.heap.size, 0, none⟩) l.length l.length) l.length (intsOf (tyRow (upd V k t) (k + 1) l.length))) := Lib.hid (by
            rw [← HNX.out, intsOf_set]
            exact (ho4.stored k (.int .i64 t1)).1)
          clear hb4 ho4 hzz
          go_wp2
          refine ⟨⟨k + 1, upd V k t, by omega, by go_num, HO4.out, HB4.out.setCell (by simp) _, by simp [World.setCell]; omega, HVN.out⟩, by simp [intOf]; omega⟩
      · have hkl : k = l.length := by omega
        subst hkl
        have hll : l.length - 1 < l.length := by omega
        have hget : (tyRow V l.length l.length)[l.length - 1]? = some (V (l.length - 1)).1 := by rw [tyRow_get hll, if_pos hll]
        obtain ⟨u, hu⟩ : ∃ u, (V (l.length - 1)).1 = u := ⟨_, rfl⟩
        rw [hu] at hget
        have e1 := (hown.cellAt (l.length - 1) (by omega)).trans (intsOf_get _ _ u hget)
        have HE : Hid (R = (u, 0)) := Lib.hid (by rw [← hu]; exact HGOOD.out V hV)
        have e2 : (l.length : Int) - 1 = ((l.length - 1 : Nat) : Int) := by omega
        clear hV hown hb hXr hu hget
        go_wp2
        go_ret2
        exact two_of HE.out HBw.out
end Go.Proofs.YtobkcdkffcenbaaGreatDoor.Ty

/- Layer types: a unit more in the map of nodes. Conditions: the map lies in memory. -/
namespace Go.Proofs.YtobkcdkffcenbaaGreatDoor.Ty
open Go.ChangeShapes Go.WideShapes Go.ChangeAt Go.RowKit Go.Maps
open Go.Proofs.YtobkcdkffcenbaaGreatDoor.Tr
open Go.Proofs.YtobkcdkffcenbaaGreatDoor.Pg (Prm Unt)
open Go.Proofs.YtobkcdkffcenbaaGreatDoor.Ow (PrmN UntN RowN rown_at rown_form)
def addN (g : Bytes → Option (List Int × Int)) (u : Unt) : Bytes → Option (List Int × Int) := fun s => if s = u.name ∧ (g s).isNone = true ∧ u.contract = false then some (u.ins.map (·.ty), u.out.ty) else g s
def AddUPost (w0 w : World) (b n : Nat) (g : Bytes → Option (List Int × Int)) (u : Unt) (e : Ending) (w' : World) : Prop :=
  e = .returned (.tuple #[]) ∧ NodIn w0 w' b (n + 1) (addN g u) ∧ w.heap.size ≤ w'.heap.size ∧ w.grownBy w' (some b)
theorem addN_same {g : Bytes → Option (List Int × Int)} {u : Unt} (h : (g u.name).isNone = false ∨ u.contract = true) : addN g u = g := by
  funext s
  unfold addN
  rw [if_neg]
  rintro ⟨rfl, h1, h2⟩
  rcases h with h | h
  · rw [h1] at h; cases h
  · rw [h2] at h; cases h
theorem grown_two (w : World) (o o' o'' : Obj) (b : Nat) : w.grownBy (((w.alloc o).alloc o').alloc o'') (some b) :=
  ⟨rfl, rfl, rfl, by simp; omega, fun i hi _ => (Below.heap_alloc _ _ _ (by simp; omega)).trans ((Below.heap_alloc _ _ _ (by simp; omega)).trans (Below.heap_alloc _ _ _ hi))⟩
theorem below_three (w : World) (o o' o'' : Obj) : Below w.heap.size w (((w.alloc o).alloc o').alloc o'') := (((Below.refl _ _).alloc (Nat.le_refl _) _).alloc (by simp) _).alloc (by simp; omega) _
theorem NodIn.mono {w0 w : World} {b n m : Nat} {g : Bytes → Option (List Int × Int)} (h : NodIn w0 w b n g) (hn : n ≤ m) : NodIn w0 w b m g := by
  obtain ⟨h1, h2, G, h3, h4⟩ := h
  exact ⟨h1, h2, G, h3.mono hn, h4⟩
set_option maxRecDepth 100000 in
set_option maxHeartbeats 4000000 in
theorem addU_any (w0 : World) (sv : Value) (b n : Nat) (g : Bytes → Option (List Int × Int)) (u : Unt) (x : List Value) (w : World) (hm : NodIn w0 w b n g) (hu : UntN w0 u x) (hn : n < maxLen) :
    Calls Tryz.prog 16 #[.agg #[sv, .map (some b)], .agg x.toArray] w (AddUPost w0 w b n g u) := by
  have HM := Lib.hid hm
  have HU := Lib.hid hu
  have hbl := hm.lt
  obtain ⟨iv, vv, qv, lv, rfl, u1, u2, u3, u4, hs, -⟩ := hu
  obtain ⟨Ai, ci, rfl, i1, i2, -⟩ := rown_form u1
  obtain ⟨Av, cv, rfl, -, -, -⟩ := rown_form u2
  obtain ⟨Aq, cq, rfl, -, -, -⟩ := rown_form u3
  obtain ⟨Al, cl, rfl, -, -, -⟩ := rown_form u4
  have hat : NodAt w (.map (some b)) n g := .inr ⟨w0, b, rfl, hm⟩
  obtain ⟨V, B, hlk, hd⟩ := hat.look u.name hs
  have hl : ∀ o o', (Instr.lookup 57 (.map (some b)) (.string (str u.name)) true).run Tryz.prog ((w.alloc o).alloc o') = .ok (.tuple #[V, .bool B]) ((w.alloc o).alloc o') := fun o o' => hlk _ (news_two w o o').1
  clear u1 u2 u3 u4 hat
  have hend : ∀ w', w' = ((w.alloc (.cells #[sv, .map (some b)] 60)).alloc (.cells #[.bool u.contract, .string (str u.name), .slice Ai u.ins.length ci, .string (str u.out.name), .int .i64 u.out.ty, .slice Av u.vars.length cv, .slice Aq u.eqs.length cq, .slice Al u.items.length cl] 49)) → True := fun _ _ => trivial
  clear hend
  rcases hd with ⟨hg, rfl, rfl⟩ | ⟨u', x', hu', rfl, rfl, hg⟩
  · cases hc : u.contract with
    | true =>
      have HS := Lib.hid (addN_same (g := g) (u := u) (.inr hc))
      rw [hc] at *
      clear hg hm hlk
      go_enter Tryz.func16, Tryz.ntmps16
      go_wp2
      go_end0
      exact ⟨rfl, by rw [HS.out]; exact (HM.out.below (below_three w _ _ _)).mono (Nat.le_succ _), by simp; omega, grown_two w _ _ _ b⟩
    | false =>
      obtain ⟨hw0, hb0, G, hG1, hG2⟩ := hm
      obtain ⟨w3, hrun, hm3, hg3⟩ := (((hG1.alloc (.cells #[sv, .map (some b)] 60)).alloc (.cells #[.bool u.contract, .string (str u.name), .slice Ai u.ins.length ci, .string (str u.out.name), .int .i64 u.out.ty, .slice Av u.vars.length cv, .slice Aq u.eqs.length cq, .slice Al u.items.length cl] 49)).alloc (.cells #[.bool false, .string ⟨#[]⟩, .slice none 0 0, .string ⟨#[]⟩, .int .i64 0, .slice none 0 0, .slice none 0 0, .slice none 0 0] 49)).put Tryz.underlying57 hn u.name hs
        (.agg #[.bool u.contract, .string (str u.name), .slice Ai u.ins.length ci, .string (str u.out.name), .int .i64 u.out.ty, .slice Av u.vars.length cv, .slice Aq u.eqs.length cq, .slice Al u.items.length cl])
      have hg4 : w.grownBy w3 (some b) := ⟨hg3.os, hg3.tape, hg3.output, by have := hg3.size; simp at this; omega, fun i hi hne => (hg3.block i (by simp; omega) hne).trans ((grown_two w _ _ _ b).block i hi hne)⟩
      have HG4 := Lib.hid hg4
      have HEND : Hid (NodIn w0 w3 b (n + 1) (addN g u)) := Lib.hid ⟨hw0.grown hg4 hw0.size (fun k hk => by cases hk; exact hb0), hb0,
        fun s => if s = u.name then some (u, [.bool u.contract, .string (str u.name), .slice Ai u.ins.length ci, .string (str u.out.name), .int .i64 u.out.ty, .slice Av u.vars.length cv, .slice Aq u.eqs.length cq, .slice Al u.items.length cl]) else G s, by
          have : (fun s => ((if s = u.name then some (u, [Value.bool u.contract, .string (str u.name), .slice Ai u.ins.length ci, .string (str u.out.name), .int .i64 u.out.ty, .slice Av u.vars.length cv, .slice Aq u.eqs.length cq, .slice Al u.items.length cl]) else G s : Option (Unt × List Value))).map (fun p => Value.agg p.2.toArray)) =
              (fun s => if s = u.name then some (Value.agg #[.bool u.contract, .string (str u.name), .slice Ai u.ins.length ci, .string (str u.out.name), .int .i64 u.out.ty, .slice Av u.vars.length cv, .slice Aq u.eqs.length cq, .slice Al u.items.length cl]) else (G s).map (fun p => Value.agg p.2.toArray)) := by
            funext s
            by_cases h : s = u.name <;> simp [h]
          rw [this]; exact hm3, fun s => by
          by_cases h : s = u.name
          · subst h
            refine ⟨fun h0 => by simp at h0, fun p hp => ?_⟩
            have hp' := (if_pos rfl).symm.trans hp
            injection hp' with hp'
            subst hp'
            exact ⟨HU.out, by unfold addN; rw [if_pos ⟨rfl, by rw [hg]; rfl, hc⟩]⟩
          · have e1 : addN g u s = g s := by unfold addN; rw [if_neg (fun hh => h hh.1)]
            simp only [if_neg h, e1]
            exact hG2 s⟩
      have hs4 := hg4.size
      clear hg hlk hG1 hG2 hm3 hg3 hg4 hw0 hb0
      rw [hc] at hrun
      clear hc
      go_enter Tryz.func16, Tryz.ntmps16
      go_wp2
      go_end0
      exact ⟨rfl, HEND.out, hs4, HG4.out⟩
  · have HS := Lib.hid (addN_same (g := g) (u := u) (.inl (by rw [hg]; rfl)))
    obtain ⟨iv', vv', qv', lv', rfl, u1, u2, u3, u4, -, -⟩ := hu'
    obtain ⟨Bi, di, rfl, -, -, -⟩ := rown_form u1
    obtain ⟨Bv, dv, rfl, -, -, -⟩ := rown_form u2
    obtain ⟨Bq, dq, rfl, -, -, -⟩ := rown_form u3
    obtain ⟨Bl, dl, rfl, -, -, -⟩ := rown_form u4
    clear hg hm hlk u1 u2 u3 u4
    go_enter Tryz.func16, Tryz.ntmps16
    go_wp2
    go_end0
    exact ⟨rfl, by rw [HS.out]; exact (HM.out.below (below_three w _ _ _)).mono (Nat.le_succ _), by simp; omega, grown_two w _ _ _ b⟩
end Go.Proofs.YtobkcdkffcenbaaGreatDoor.Ty

