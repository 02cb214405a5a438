/- The closure of Sub lays the nodes of which a node is made, in order. Conditions: the expression may be. -/
import Derived.Test.YtdebhngpgabglaaGreatRa02
import Derived.Test.YtdebhngpgabglaaGreatKa10
import Derived.Deep.OwnRows
import Derived.Laws.EntriesVeiled
import Derived.Test.YtdebhngpgabglaaGreatKa01
import Derived.Test.YtdebhngpgabglaaGreatKb16
import Derived.Test.YtdebhngpgabglaaGreatRa01
import Derived.Maps.OwnSet
import Derived.Maps.AppendAt
set_option linter.unusedVariables false
set_option linter.unusedSimpArgs false
namespace Go.Proofs.YtdebhngpgabglaaGreat.Tr
open Go.ChangeShapes Go.WideShapes Go.ChangeAt Go.RowKit
set_option maxRecDepth 100000 in
set_option maxHeartbeats 4000000 in
theorem lay_any (W0 : World) (ev : Value) (e : List Nd) (E X : Nat) (hm : May e) (hv : Nodes W0 ev e) : ∀ (f i : Nat) (w : World) (ov : Value) (out : List Nd) (pos : List Int), i < f → i < e.length →
 Lay W0 ev e E X w ov out pos → out.length + (tree e i).size ≤ 100000 →
 Calls Tryz.prog 39 #[.int .i64 i, .pointer (some ⟨X, 0, none⟩), .pointer (some ⟨E + 4, 0, none⟩), .pointer (some ⟨E + 1, 0, none⟩), .pointer (some ⟨E + 3, 0, none⟩)] w (LayPost W0 ev e E X w ov out pos i) := by
 intro f
 induction f with
 | zero => intro i w ov out pos h; omega
 | succ f ih =>
  intro i w ov out pos hif hie hlay hsz
  have IH := Lib.hid ih
  clear ih
  obtain ⟨A, c, rfl, h1, h2, hA⟩ := hv
  unfold maxLen at h2
  obtain ⟨x, hx⟩ : ∃ x, e[i]? = some x := ⟨_, List.getElem?_eq_getElem hie⟩
  obtain ⟨g, o, rfl, hg, a0, a1, a2, a3, a4, a5⟩ := hA i x hx
  have HA := Lib.hid hA
  have HM := Lib.hid hm
  have HY := Lib.hid hlay
  have HX := Lib.hid hx
  have hbase := hlay.base
  have hgE : g < W0.heap.size := hg
  have hXE := hlay.hX
  have q0 := cell_of_one hlay.exp
  have q1 := cell_of_one hlay.res
  have q3 := cell_of_one hlay.lst
  have q4 := cell_of_one hlay.fn
  have b0 := (hlay.below.cell (p := ⟨g, o + i * 6, none⟩) hgE).trans a0
  have b1 := (hlay.below.cell (p := ⟨g, o + i * 6 + 1, none⟩) hgE).trans a1
  have b2 := (hlay.below.cell (p := ⟨g, o + i * 6 + 2, none⟩) hgE).trans a2
  have b3 := (hlay.below.cell (p := ⟨g, o + i * 6 + 3, none⟩) hgE).trans a3
  have b4 := (hlay.below.cell (p := ⟨g, o + i * 6 + 4, none⟩) hgE).trans a4
  have b5 := (hlay.below.cell (p := ⟨g, o + i * 6 + 5, none⟩) hgE).trans a5
  have hE4 := lt_of_block hlay.fn
  have HBASE := Lib.hid hbase
  have HC := Lib.hid (And.intro a0 (And.intro a1 (And.intro a2 (And.intro a3 (And.intro a4 a5)))))
  clear hA hx hlay hm a0 a1 a2 a3 a4 a5 hbase
  have hbE := HBASE.out
  obtain ⟨L, hL⟩ : ∃ L, kidsM x = L := ⟨_, rfl⟩
  have HL := Lib.hid hL
  have hLs : L.length ≤ 3 := by rw [← hL]; exact kids_small x
  have HIN := Lib.hid (show ∀ q ∈ L, 0 ≤ q ∧ q < (i : Int) by rw [← hL]; exact HM.out.ahead i x HX.out)
  clear hL
  go_enter Tryz.func39, Tryz.ntmps39
  go_wp2_with fail
  refine (kids_any x _).mono ?_
  rintro r w2 ⟨kv, rfl, hok, hb2⟩
  rw [HL.out] at hok
  obtain ⟨A2, c2, rfl, y1, y2, hA2⟩ := Ints.of_own hok
  have HA2 := Lib.hid hA2
  have HY2 := Lib.hid (HY.out.kept hb2)
  have hz2 := hb2.size
  have HW2 := Lib.hid hz2
  have HKEEP := Lib.hid (show ∀ p : Addr, p.block < w.heap.size → w2.cell? p = w.cell? p from fun p hp => hb2.cell hp)
  have HKO := Lib.hid (show ∀ g2 o2, A2 = some ⟨g2, o2, none⟩ → w.heap.size ≤ g2 from fun g2 o2 h => by subst h; have := hok.lt g2 rfl; omega)
  clear hok hA2 hb2 q0 q1 q3 q4 b0 b1 b2 b3 b4 b5
  unfold maxLen at y2
  have hblk0 : ∀ b, ov.ownBlock = some b → b < w.heap.size := fun b hb => (HY.out.own.lt b hb).2
  have HSZ := Lib.hid (tree_size e HM.out.ahead i x HX.out)
  have HREL0 : Hid (LayRel W0 (.slice (some ⟨g, o, none⟩) e.length c) e E X w w2 ov out pos L 0 w2 ov pos) := Lib.hid
   { le := Nat.zero_le _, lay := by have := HY2.out; simpa [flats] using this, at_ := fun t q ht => absurd ht (by omega), same := fun m _ => rfl, size := Nat.le_refl _, keep := fun p _ _ => rfl,
     blk := fun b hb => .inl (hblk0 b hb), blk0 := fun b hb => .inl hb, frame := fun p h1 _ _ _ => HKEEP.out p h1 }
  clear hblk0
  go_wp2
  go_loopw [14] (fun cv wr => ∃ j : Nat, cv = .int .i64 j ∧ ∃ ov' pos', LayRel W0 (.slice (some ⟨g, o, none⟩) e.length c) e E X w w2 ov out pos L j wr ov' pos') (fun cv _ => L.length - (intOf cv).toNat)
  case atStart => exact ⟨0, rfl, ov, pos, HREL0.out⟩
  case round =>
   obtain ⟨j, rfl, ov', pos', hrel⟩ := hrel
   have hj := hrel.le
   have HREL := Lib.hid hrel
   have q0 := cell_of_one hrel.lay.exp
   have q1 := cell_of_one hrel.lay.res
   have q3 := cell_of_one hrel.lay.lst
   have q4 := cell_of_one hrel.lay.fn
   have hE4' := lt_of_block hrel.lay.fn
   have hs2 := hrel.size
   clear hrel
   by_cases hlj : j < L.length
   · obtain ⟨q, hq⟩ : ∃ q, L[j]? = some q := ⟨_, List.getElem?_eq_getElem hlj⟩
     obtain ⟨g2, o2, rfl, hg2, d0'⟩ := HA2.out j q hq
     have hgb := HKO.out g2 o2 rfl
     have d0 := (HREL.out.keep ⟨g2, o2 + j, none⟩ (by simp; omega) (by simp; omega)).trans d0'
     obtain ⟨hq0, hqi⟩ := HIN.out q (List.mem_of_getElem? hq)
     obtain ⟨m, rfl⟩ := Int.eq_ofNat_of_zero_le hq0
     have HQ := Lib.hid hq
     have hup := upTo_le e L (j + 1)
     have HUP := Lib.hid (show out.length + upTo e (L.take j) + (tree e m).size ≤ 100000 by
      rw [List.take_add_one, hq] at hup
      have h3 := upTo_snoc e (L.take j) (m : Int)
      simp only [Option.toList] at hup
      rw [h3, Int.toNat_natCast] at hup
      have h4 := HSZ.out
      rw [HL.out] at h4
      omega)
     clear hq d0' hup
     go_wp2_with fail
     refine (IH.out m _ ov' _ pos' (by omega) (by omega) HREL.out.lay (by rw [List.length_append, flats_len]; exact HUP.out)).mono ?_
     intro r w' hp
     obtain ⟨ov'', pos'', rfl, hrel2⟩ := rel_step HM.out HX.out HL.out HQ.out hE4 HW2.out HREL.out hp
     have HREL2 := Lib.hid hrel2
     clear hp hrel2
     go_wp2
     refine ⟨⟨j + 1, by go_num, ov'', pos'', HREL2.out⟩, by simp [intOf]; omega⟩
   · have hjl : j = L.length := by omega
     subst hjl
     have hrel := HREL.out
     have htk : L.take L.length = L := List.take_length
     have hlay := hrel.lay
     rw [htk] at hlay
     obtain ⟨A3, c3, rfl, z1, z2, _⟩ := Nodes.of_own hlay.own
     have hN : (out ++ flats e out.length L).length = out.length + upTo e L := by rw [List.length_append, flats_len]
     obtain ⟨N, hNN⟩ : ∃ N, (out ++ flats e out.length L).length = N := ⟨_, rfl⟩
     have HN := Lib.hid hNN
     have hNle : N ≤ 100000 := by
      have h4 := HSZ.out
      rw [HL.out] at h4
      omega
     have HNU := Lib.hid (show N = out.length + upTo e L by omega)
     obtain ⟨pv, hpv⟩ : ∃ pv, pos'[i]? = some pv := ⟨_, List.getElem?_eq_getElem (by rw [hlay.len]; exact hie)⟩
     have ci := (hlay.row.cellAt i (by omega)).trans (intsOf_get _ _ _ hpv)
     have fi := hlay.row.frozenAt i
     have HLAY := Lib.hid hlay
     have b0 := (hlay.below.cell (p := ⟨g, o + i * 6, none⟩) hgE).trans (HC.out.1)
     have b1 := (hlay.below.cell (p := ⟨g, o + i * 6 + 1, none⟩) hgE).trans (HC.out.2.1)
     have b2 := (hlay.below.cell (p := ⟨g, o + i * 6 + 2, none⟩) hgE).trans (HC.out.2.2.1)
     have b3 := (hlay.below.cell (p := ⟨g, o + i * 6 + 3, none⟩) hgE).trans (HC.out.2.2.2.1)
     have b4 := (hlay.below.cell (p := ⟨g, o + i * 6 + 4, none⟩) hgE).trans (HC.out.2.2.2.2.1)
     have b5 := (hlay.below.cell (p := ⟨g, o + i * 6 + 5, none⟩) hgE).trans (HC.out.2.2.2.2.2)
     have hgz : g < wr.heap.size := by omega
     have hgn : E + 2 ≠ g := by omega
     clear hrel htk hlay hN hpv
     rw [hNN] at z1 q1
     clear hNN
     unfold maxLen at z2
     have HPUT := Lib.hid (HLAY.out.put i ((N : Nat) : Int))
     obtain ⟨tf, htf⟩ : ∃ tf : Int → Int, tf = fun k => (pos'.set i ((N : Nat) : Int))[k.toNat]?.getD 0 := ⟨_, rfl⟩
     have HTF := Lib.hid htf
     clear htf
     have HAA := Lib.hid (show ∀ k ∈ L, (pos'.set i ((N : Nat) : Int))[k.toNat]? = some (tf k) from fun k hk => by
      have := HIN.out k hk
      rw [HTF.out]
      have hl : k.toNat < (pos'.set i ((N : Nat) : Int)).length := by rw [List.length_set, HLAY.out.len]; omega
      simp [List.getElem?_eq_getElem hl])
     have HFI := Lib.hid (fields_in x L (by rw [← HL.out]; exact (HM.out.node i x HX.out).bare))
     go_wp2
     obtain ⟨w3, hw3⟩ : ∃ w3, w3 = wr.setCell ⟨E + 2, i, none⟩ (.int .i64 (N : Int)) := ⟨_, rfl⟩
     rw [← hw3]
     rw [← hw3] at HPUT
     have q0 := cell_of_one HPUT.out.exp
     have q1 := cell_of_one HPUT.out.res
     rw [HN.out] at q1
     have q3 := cell_of_one HPUT.out.lst
     have hE3 := lt_of_block HPUT.out.fn
     have b0 := (HPUT.out.below.cell (p := ⟨g, o + i * 6, none⟩) hgE).trans (HC.out.1)
     have b1 := (HPUT.out.below.cell (p := ⟨g, o + i * 6 + 1, none⟩) hgE).trans (HC.out.2.1)
     have b2 := (HPUT.out.below.cell (p := ⟨g, o + i * 6 + 2, none⟩) hgE).trans (HC.out.2.2.1)
     have b3 := (HPUT.out.below.cell (p := ⟨g, o + i * 6 + 3, none⟩) hgE).trans (HC.out.2.2.2.1)
     have b4 := (HPUT.out.below.cell (p := ⟨g, o + i * 6 + 4, none⟩) hgE).trans (HC.out.2.2.2.2.1)
     have b5 := (HPUT.out.below.cell (p := ⟨g, o + i * 6 + 5, none⟩) hgE).trans (HC.out.2.2.2.2.2)
     have HW3 := Lib.hid hw3
     have hie0 : (0 : Int) ≤ (i : Int) := by omega
     have hie1 : (i : Int) < (e.length : Int) := by omega
     clear hw3 ci fi
     obtain ⟨i1, hi, hz0, hz1, hz2⟩ := info_parts info30
     go_region_law (first
      | (go_simp; go_at_call 40; refine (moved40 _ _ _ _ _ _ ⟨E + 3, 0, none⟩ _ (pos'.set i ((N : Nat) : Int)) tf _ (by exact q3) (by exact HPUT.out.ints) (by intro h0; exact HAA.out _ (HFI.out.1 (by omega))) (by intro h0; exact HAA.out _ (HFI.out.2.1 (by omega))) (by intro h0; exact HAA.out _ (HFI.out.2.2 (by omega)))).mono ?_; rintro r w4 ⟨rfl, hb4⟩; obtain ⟨hz4, c4, r4, own4, hz5⟩ := HPUT.out.moved hb4; rw [HN.out] at c4 r4 own4; have hne4 : E + 1 ≠ w4.heap.size := (by omega); have hlt4 : E + 1 < w4.heap.size := (by omega))
      | (refine step_append_lies _ (by rfl) _ _ _ (by rfl) (E + 5) 59 i1 _ 6 56 Tryz.underlying23 hi hz0 hz1 hz2 rfl (by omega) (.slice A3 N c3) N (ndsOf (out ++ flats e out.length L)) (by rfl) (by exact own4.alloc _) ⟨w4.heap.size, 0, none⟩ 1 1 (ndCells ⟨x.op, toM tf x.a, toM tf x.b, toM tf x.c, x.n, x.name⟩) (by rfl) (by rfl) (World.news_of_block (t := 59) (fr := (0, 0)) (heap_alloc_new _ _)) (by simp [ndCells, Value.oneCell']) (by omega) (by unfold maxLen; omega) (by omega) (by simp; omega) (w4.heap.size + 1) (by simp) ?_; intro gg cap w5 hown5 hgrow hat hlt; have r5 := grown_one own4 r4 hz5 hgrow; have c5 := cell_of_one r5; have f5 := free_of_one r5))
     all_goals refine bodyPost_ret (v := .tuple #[]) (by simp [results, Tryz.results39, go_sem]) rfl ?_
     all_goals exact lay_end HM.out HX.out HL.out hE4 HW2.out HREL.out HN.out HPUT.out HW3.out HAA.out hb4 (by cases A3 <;> rfl) hgrow hown5 hat
end Go.Proofs.YtdebhngpgabglaaGreat.Tr
/- The function Sub returns the nodes of which a node is made, in order, or nothing. Conditions: the slice is read as a list of nodes. -/
namespace Go.Proofs.YtdebhngpgabglaaGreat.Tr
open Go.ChangeShapes Go.WideShapes Go.ChangeAt Go.RowKit
theorem may_lit (v : Value) (e : List Nd) (b : Bool) (w : World) (hv : Nodes w v e) (h : mayB e = b) : Calls Tryz.prog 38 #[v] w fun r w' => r = .returned (.bool b) ∧ Below w.heap.size w w' := by rw [← h]; exact may_any v e w hv
theorem alloc_at0 (w : World) (o : Obj) (k : Nat) (h : k = w.heap.size) : (w.alloc o).heap[k]? = some o := by subst h; exact heap_alloc_new w o
theorem sub_blocks (w2 Wn : World) (o0 o1 o2 o3 : Obj) (h : Wn = (((w2.alloc o0).alloc o1).alloc o2).alloc o3) :
 Wn.heap.size = w2.heap.size + 4 ∧ Wn.heap[w2.heap.size]? = some o0 ∧ Wn.heap[w2.heap.size + 1]? = some o1 ∧ Wn.heap[w2.heap.size + 1 + 1]? = some o2 ∧ Wn.heap[w2.heap.size + 1 + 1 + 1]? = some o3 ∧ Below w2.heap.size w2 Wn := by
 subst h
 refine ⟨by simp, ?_, ?_, ?_, alloc_at0 _ _ _ (by simp), (((below_new w2 _).alloc (by simp) _).alloc (by simp <;> omega) _).alloc (by simp <;> omega) _⟩
 · rw [Below.heap_alloc _ _ _ (by simp <;> omega), Below.heap_alloc _ _ _ (by simp <;> omega), Below.heap_alloc _ _ _ (by simp)]; exact alloc_at0 _ _ _ rfl
 · rw [Below.heap_alloc _ _ _ (by simp <;> omega), Below.heap_alloc _ _ _ (by simp)]; exact alloc_at0 _ _ _ (by simp)
 · rw [Below.heap_alloc _ _ _ (by simp)]; exact alloc_at0 _ _ _ (by simp)
def layFn (X s : Nat) : Value := .func (.func 39) #[] #[.pointer (some ⟨X, 0, none⟩), .pointer (some ⟨s + 1 + 1 + 1, 0, none⟩), .pointer (some ⟨s, 0, none⟩), .pointer (some ⟨s + 1 + 1, 0, none⟩)]
theorem lay_start {w w2 Wn : World} {ev : Value} {e : List Nd} {E : Nat} (hE : w2.heap.size = E + 1) (hw : w.heap.size ≤ E) (hn : e.length ≤ 5000) (hb2 : Below w.heap.size w w2) (q0 : w2.heap[w.heap.size]? = some (.cells #[ev] 23 (0, 0)))
 (hs : Wn.heap.size = w2.heap.size + 4) (b0 : Wn.heap[w2.heap.size]? = some (.cells #[.slice none 0 0] 23 (0, 0))) (b1 : Wn.heap[w2.heap.size + 1]? = some (.cells (madeCells #[.int .i64 0] e.length) 3 (0, 0)))
 (b2 : Wn.heap[w2.heap.size + 1 + 1]? = some (.cells #[.slice (some ⟨w2.heap.size + 1, 0, none⟩) e.length e.length] 31 (0, 0))) (b3 : Wn.heap[w2.heap.size + 1 + 1 + 1]? = some (.cells #[layFn w.heap.size w2.heap.size] 90 (0, 0))) (hb : Below w2.heap.size w2 Wn) :
 Lay w ev e E w.heap.size Wn (.slice none 0 0) [] (List.replicate e.length 0) := by
 have hs2 := hb2.size
 rw [hE] at b0 b1 b2 b3 hs
 refine ⟨hw, hw, hb2.trans (hb.mono (by omega)), ?_, b0, ?_, b2, b3, World.ownsRow_nil _ _ _ _, by simp⟩
 · rw [hb.block _ (by omega)]; exact q0
 · refine ⟨by simp [intsOf], .inr ⟨E + 2, e.length, madeCells #[.int .i64 0] e.length, rfl, Nat.le_refl _, b1, Nat.le_refl _, by unfold maxLen; omega, ?_, ?_⟩⟩
   · have := congrArg List.length (made_ints e.length); simp [intsOf] at this ⊢; exact this
   · rw [made_ints]; simp [intsOf]
set_option maxRecDepth 100000 in
set_option maxHeartbeats 1000000 in
theorem sub_any (v : Value) (e : List Nd) (i : Int) (w : World) (hv : Nodes w v e) : Calls Tryz.prog 18 #[v, .int .i64 i] w (NodesPost w (subM e i)) := by
 have HV := Lib.hid hv
 obtain ⟨A, c, rfl, h1, h2, hA⟩ := hv
 clear hA
 unfold maxLen at h2
 obtain ⟨i0, hi, hz0, hz1, hz2⟩ := info_parts info3
 by_cases h0 : i < 0
 · have HR := Lib.hid (show subM e i = [] by unfold subM; rw [if_neg (by omega)])
   rw [HR.out]
   go_enter Tryz.func18, Tryz.ntmps18
   go_wp2
   go_ret
   exact nodes_none _ _ ((Below.refl _ _).alloc (Nat.le_refl _) _)
 have h0' : 0 ≤ i := by omega
 by_cases hl : (e.length : Int) ≤ i
 · have HR := Lib.hid (show subM e i = [] by unfold subM; rw [if_neg (by omega)])
   rw [HR.out]
   clear h0
   go_enter Tryz.func18, Tryz.ntmps18
   go_wp2
   go_ret
   exact nodes_none _ _ ((Below.refl _ _).alloc (Nat.le_refl _) _)
 obtain ⟨m, rfl⟩ := Int.eq_ofNat_of_zero_le h0'
 have hml : m < e.length := by omega
 have hd : decide (e.length ≤ m) = false := by simp; omega
 clear h0 hl
 have NW := Lib.hid (HV.out.below (below_new w (.cells #[.slice A e.length c] 23)) (Nat.le_refl _))
 rcases Bool.eq_false_or_eq_true (mayB e) with hm | hm
 rotate_left
 · have HR := Lib.hid (show subM e (m : Int) = [] by unfold subM; rw [if_neg (by rw [hm]; simp)])
   have HMM := Lib.hid hm
   clear hm
   rw [HR.out]
   go_enter Tryz.func18, Tryz.ntmps18
   go_wp2_with fail
   refine (may_lit _ e _ _ (by exact NW.out) HMM.out).mono ?_
   rintro r w2 ⟨rfl, hb2⟩
   go_wp2
   go_ret
   exact nodes_none _ _ ((below_new w _).trans (hb2.mono (by simp)))
 have HM := Lib.hid (may_of hm)
 have HMM := Lib.hid hm
 have HR := Lib.hid (show subM e (m : Int) = (tree e m).flat 0 by unfold subM; rw [if_pos ⟨hm, h0', by omega⟩, Int.toNat_natCast])
 clear hm
 rw [HR.out]
 go_enter Tryz.func18, Tryz.ntmps18
 go_wp2_with fail
 refine (may_lit _ e _ _ (by exact NW.out) HMM.out).mono ?_
 rintro r w2 ⟨rfl, hb2⟩
 have hs2 := hb2.size
 simp at hs2
 have q0 : w2.heap[w.heap.size]? = some (.cells #[.slice A e.length c] 23 (0, 0)) := (hb2.block _ (by simp)).trans (heap_alloc_new w _)
 have c0 := cell_of_one q0
 have HB2 := Lib.hid ((below_new w (.cells #[.slice A e.length c] 23)).trans (hb2.mono (by simp)))
 have HQ0 := Lib.hid q0
 clear hb2 q0
 have hle := HM.out.le
 have hmk := run_make_row' (P := Tryz.prog) 31 3 (.int .i64 0) 8 Tryz.underlying31 info3 rfl .i64 .i64 e.length (by omega) (by omega)
 have hne : w.heap.size ≠ w2.heap.size := by omega
 have hne1 : w.heap.size < w2.heap.size := by omega
 go_wp2_with fail
 obtain ⟨Wn, hWn⟩ : ∃ Wn, Wn = (((w2.alloc (.cells #[.slice none 0 0] 23)).alloc (.cells (madeCells #[.int .i64 0] e.length) 3)).alloc (.cells #[.slice (some ⟨w2.heap.size + 1, 0, none⟩) e.length e.length] 31)).alloc (.cells #[layFn w.heap.size w2.heap.size] 90) := ⟨_, rfl⟩
 show Calls Tryz.prog 39 _ ((((w2.alloc (.cells #[.slice none 0 0] 23)).alloc (.cells (madeCells #[.int .i64 0] e.length) 3)).alloc (.cells #[.slice (some ⟨w2.heap.size + 1, 0, none⟩) e.length e.length] 31)).alloc (.cells #[layFn w.heap.size w2.heap.size] 90)) _
 rw [← hWn]
 obtain ⟨k0, k1, k2, k3, k4, k5⟩ := sub_blocks w2 Wn _ _ _ _ hWn
 obtain ⟨E, hE⟩ : ∃ E, w2.heap.size = E + 1 := ⟨w2.heap.size - 1, by omega⟩
 have HE := Lib.hid hE
 have hLay := lay_start (e := e) hE (by omega) hle HB2.out HQ0.out k0 k1 k2 k3 k4 k5
 have HL := Lib.hid hLay
 clear hWn k1 k2 k3 k4 k5 hLay hE
 have hcall := lay_any w (.slice A e.length c) e E w.heap.size HM.out HV.out (m + 1) m _ _ [] _ (by omega) hml HL.out (by have := size_le e HM.out m hml; simp; omega)
 have hE' := HE.out
 rw [show E + 4 = w2.heap.size + 1 + 1 + 1 by omega, show E + 1 = w2.heap.size by omega, show E + 3 = w2.heap.size + 1 + 1 by omega] at hcall
 have HCALL := Lib.hid hcall
 clear hcall hE'
 refine HCALL.out.mono ?_
 rintro r w3 ⟨ov', pos', rfl, hlay, -, -, -, -, -⟩
 have c5 := cell_of_one hlay.res
 rw [show E + 1 = w2.heap.size from HE.out.symm] at c5
 have HLY := Lib.hid hlay
 clear hlay
 go_wp2
 go_ret
 refine ⟨_, rfl, ?_, HLY.out.below⟩
 have h5 := HLY.out.own
 have h6 := HLY.out.base
 rw [List.nil_append] at h5
 exact own_base h5 (by omega)
end Go.Proofs.YtdebhngpgabglaaGreat.Tr
/- Lists of texts in memory: whether two are the same, whether and where a text stands, how often. Conditions: slices are read as lists. -/
namespace Go.Proofs.YtdebhngpgabglaaGreat.Tr
open Go.ChangeShapes Go.WideShapes Go.ChangeAt Go.RowKit
theorem take_next {α : Type} {l m : List α} {k : Nat} {a : α} (h : l.take k = m.take k) (h1 : l[k]? = some a) (h2 : m[k]? = some a) : l.take (k + 1) = m.take (k + 1) := by
 rw [List.take_add_one, List.take_add_one, h, h1, h2]
set_option maxHeartbeats 800000 in
theorem ints_any (u v : Value) (l m : List Int) (w : World) (hu : Ints w u l) (hv : Ints w v m) :
 Calls Tryz.prog 12 #[u, v] w fun e w' => e = .returned (.bool (decide (l = m))) ∧ ∃ n, w' = w.drewN n := by
 obtain ⟨A, c, rfl, h1, h2, hA⟩ := hu
 obtain ⟨B, d, rfl, h3, h4, hB⟩ := hv
 unfold maxLen at h2 h4
 have HA := Lib.hid hA
 have HB := Lib.hid hB
 clear hA hB
 by_cases hlm : l.length = m.length
 · have hE : ((l.length : Int) != (m.length : Int)) = false := by simp [hlm]
   have HLM := Lib.hid hlm
   clear hlm
   go_enter Tryz.func12, Tryz.ntmps12
   go_wp2
   go_loopw [5] (fun i wr => ∃ k n : Nat, k ≤ l.length ∧ i = .int .i64 k ∧ wr = w.drewN n ∧ l.take k = m.take k) (fun i _ => l.length - (intOf i).toNat)
   case atStart => exact ⟨0, 0, Nat.zero_le _, rfl, rfl, by simp⟩
   case round =>
    obtain ⟨k, n, hk, rfl, rfl, ht⟩ := hrel
    have HT := Lib.hid ht
    clear ht
    by_cases hlt : k < l.length
    · have hlt2 : k < m.length := by rw [← HLM.out]; exact hlt
      obtain ⟨t1, ht1⟩ : ∃ t, l[k]? = some t := ⟨_, List.getElem?_eq_getElem hlt⟩
      obtain ⟨t2, ht2⟩ : ∃ t, m[k]? = some t := ⟨_, List.getElem?_eq_getElem hlt2⟩
      obtain ⟨g, o, rfl, hg, a0⟩ := HA.out k t1 ht1
      obtain ⟨g', o', rfl, hg', b0⟩ := HB.out k t2 ht2
      have H1 := Lib.hid ht1
      have H2 := Lib.hid ht2
      clear ht1 ht2
      by_cases hq : t1 = t2
      · have HQ := Lib.hid (show l.take (k + 1) = m.take (k + 1) from take_next HT.out H1.out (by rw [hq]; exact H2.out))
        have hb : (t1 != t2) = false := by simp [hq]
        clear hq
        go_wp2
        go_quiet (fail)
        go_wp2
        go_roundw
        case rel => exact ⟨k + 1, _, by omega, by go_num, rfl, HQ.out⟩
        case measure => simp [intOf]; omega
      · have HQ := Lib.hid (show decide (l = m) = false from decide_eq_false (by
         rintro rfl
         exact hq (Option.some.inj (H1.out.symm.trans H2.out))))
        have hb : (t1 != t2) = true := by simp [hq]
        clear hq
        go_wp2
        go_quiet (fail)
        go_wp2
        go_ret
        exact ⟨ret_bool HQ.out.symm, n + nq, by rw [World.drewN_drewN]⟩
    · have HQ := Lib.hid (show decide (l = m) = true from decide_eq_true (by
       have := HT.out
       rw [List.take_of_length_le (by omega), List.take_of_length_le (by rw [← HLM.out]; omega)] at this
       exact this))
      go_wp2
      go_ret
      exact ⟨ret_bool HQ.out.symm, n, rfl⟩
 · have hE : ((l.length : Int) != (m.length : Int)) = true := by rw [bne_iff_ne]; omega
   have e : decide (l = m) = false := decide_eq_false (by rintro rfl; exact hlm rfl)
   rw [e]
   go_enter Tryz.func12, Tryz.ntmps12
   go_wp2
   go_ret
   exact ⟨rfl, 0, rfl⟩
theorem strs_snoc (l : List Bytes) (x : Bytes) : strsOf (l ++ [x]) = strsOf l ++ [.string (str x)] := by simp [strsOf]
theorem str_beq (a b : Bytes) : ((str a).toList == (str b).toList) = (a == b) := by rw [str_toList, str_toList]
set_option maxHeartbeats 800000 in
theorem texts_any (u v : Value) (l m : List Bytes) (w : World) (hu : Strs w u l) (hv : Strs w v m) :
 Calls Tryz.prog 6 #[u, v] w fun e w' => e = .returned (.bool (decide (l = m))) ∧ ∃ n, w' = w.drewN n := by
 obtain ⟨A, c, rfl, h1, h2, hA⟩ := hu
 obtain ⟨B, d, rfl, h3, h4, hB⟩ := hv
 unfold maxLen at h2 h4
 have HA := Lib.hid hA
 have HB := Lib.hid hB
 clear hA hB
 by_cases hlm : l.length = m.length
 · have hE : ((l.length : Int) != (m.length : Int)) = false := by simp [hlm]
   have HLM := Lib.hid hlm
   clear hlm
   go_enter Tryz.func6, Tryz.ntmps6
   go_wp2
   go_loopw [5] (fun i wr => ∃ k n : Nat, k ≤ l.length ∧ i = .int .i64 k ∧ wr = w.drewN n ∧ l.take k = m.take k) (fun i _ => l.length - (intOf i).toNat)
   case atStart => exact ⟨0, 0, Nat.zero_le _, rfl, rfl, by simp⟩
   case round =>
    obtain ⟨k, n, hk, rfl, rfl, ht⟩ := hrel
    have HT := Lib.hid ht
    clear ht
    by_cases hlt : k < l.length
    · have hlt2 : k < m.length := by rw [← HLM.out]; exact hlt
      obtain ⟨t1, ht1⟩ : ∃ t, l[k]? = some t := ⟨_, List.getElem?_eq_getElem hlt⟩
      obtain ⟨t2, ht2⟩ : ∃ t, m[k]? = some t := ⟨_, List.getElem?_eq_getElem hlt2⟩
      obtain ⟨g, o, rfl, hg, a0⟩ := HA.out k t1 ht1
      obtain ⟨g', o', rfl, hg', b0⟩ := HB.out k t2 ht2
      have H1 := Lib.hid ht1
      have H2 := Lib.hid ht2
      clear ht1 ht2
      by_cases hq : t1 = t2
      · have HQ := Lib.hid (show l.take (k + 1) = m.take (k + 1) from take_next HT.out H1.out (by rw [hq]; exact H2.out))
        have hb : ((str t1).toList == (str t2).toList) = true := by rw [str_beq]; simp [hq]
        clear hq
        go_wp2
        go_quiet (fail)
        go_wp2
        go_roundw
        case rel => exact ⟨k + 1, _, by omega, by go_num, rfl, HQ.out⟩
        case measure => simp [intOf]; omega
      · have HQ := Lib.hid (show decide (l = m) = false from decide_eq_false (by
         rintro rfl
         exact hq (Option.some.inj (H1.out.symm.trans H2.out))))
        have hb : ((str t1).toList == (str t2).toList) = false := by rw [str_beq]; simp [hq]
        clear hq
        go_wp2
        go_quiet (fail)
        go_wp2
        go_ret
        exact ⟨ret_bool HQ.out.symm, n + nq, by rw [World.drewN_drewN]⟩
    · have HQ := Lib.hid (show decide (l = m) = true from decide_eq_true (by
       have := HT.out
       rw [List.take_of_length_le (by omega), List.take_of_length_le (by rw [← HLM.out]; omega)] at this
       exact this))
      go_wp2
      go_ret
      exact ⟨ret_bool HQ.out.symm, n, rfl⟩
 · have hE : ((l.length : Int) != (m.length : Int)) = true := by rw [bne_iff_ne]; omega
   have e : decide (l = m) = false := decide_eq_false (by rintro rfl; exact hlm rfl)
   rw [e]
   go_enter Tryz.func6, Tryz.ntmps6
   go_wp2
   go_ret
   exact ⟨rfl, 0, rfl⟩
end Go.Proofs.YtdebhngpgabglaaGreat.Tr
/- What the function Needs keeps while it runs: which nodes are later; the names so far. Conditions: none. -/
namespace Go.Proofs.YtdebhngpgabglaaGreat.Ca
open Go.ChangeShapes Go.WideShapes Go.ChangeAt Go.RowKit Go.Maps Go.WideMaps Go.Proofs.YtdebhngpgabglaaGreat.Tr
noncomputable def needsM (e : List Nd) : List Bytes := if mayB e = true then needT (root e) else []
theorem norm_yes {e : List Nd} (h : mayB e = true) : normB e = (root e).flat 0 := by
 have hm := may_of h
 have := hm.pos
 unfold normB subM
 rw [if_pos ⟨h, by omega, by omega⟩, show ((e.length : Int) - 1).toNat = e.length - 1 by omega]; rfl
theorem norm_no {e : List Nd} (h : mayB e = false) : normB e = [] := by
 unfold normB subM
 rw [if_neg (by rw [h]; simp)]
noncomputable def lateM (e : List Nd) : List Bool := if mayB e = true then laterT (root e) false else []
theorem late_len (e : List Nd) : (lateM e).length = (normB e).length := by
 unfold lateM
 cases h : mayB e with
 | true => rw [norm_yes h, if_pos rfl, later_len, T.flat_len]
 | false => rw [norm_no h, if_neg (by simp)]; rfl
theorem late_kid (e : List Nd) {i : Nat} {x : Nd} {k : Int} {d : Bool} (hx : (normB e)[i]? = some x) (hk : k ∈ kidsM x) (hd : (lateM e)[i]? = some d) : 0 ≤ k ∧ k.toNat < (normB e).length ∧ k.toNat < i ∧ (lateM e)[k.toNat]? = some (d || endB x.op) := by
 cases h : mayB e with
 | false => rw [norm_no h] at hx; simp at hx
 | true =>
  have ok := (may_of h).root_ok
  unfold lateM at hd ⊢
  rw [if_pos h] at hd ⊢
  rw [norm_yes h] at hx ⊢
  have h1 := later_kd (root e) 0 false ok i x k hx hk
  have h2 := (good_flat (root e) 0 ok (Seg.self _) i x hx).ahead k hk
  have h3 := h1.2.2 d hd
  rw [Nat.sub_zero] at h3
  refine ⟨by omega, by have := h1.2.1; omega, by omega, h3⟩
theorem late_last (e : List Nd) (h : 0 < (normB e).length) : (lateM e)[(normB e).length - 1]? = some false := by
 cases hm : mayB e with
 | false => rw [norm_no hm] at h; simp at h
 | true => unfold lateM; rw [if_pos hm, norm_yes hm, T.flat_len]; exact later_last _ _
theorem late_parent (e : List Nd) {j : Nat} (h : j + 1 < (normB e).length) : ∃ p x, (normB e)[p]? = some x ∧ (j : Int) ∈ kidsM x ∧ j < p := by
 cases hm : mayB e with
 | false => rw [norm_no hm] at h; simp at h
 | true =>
  rw [norm_yes hm] at h ⊢
  rw [T.flat_len] at h
  exact parent_of _ (may_of hm).root_ok h
theorem needs_vis (e : List Nd) : needsM e = ddp (visL (normB e) (lateM e)) := by
 unfold needsM lateM
 cases h : mayB e with
 | true => rw [if_pos rfl, if_pos rfl, norm_yes h, vis_flat]; rfl
 | false => rw [if_neg (by simp), if_neg (by simp), norm_no h]; rfl
theorem needs_nodup (e : List Nd) : (needsM e).Nodup := by
 unfold needsM; split
 · exact need_nodup _
 · exact List.nodup_nil
theorem short_norm {e : List Nd} (h : Short e) : Short (normB e) := by
 cases hm : mayB e with
 | false => rw [norm_no hm]; intro x hx; simp at hx
 | true =>
  rw [norm_yes hm]
  intro x hx
  have hmay := may_of hm
  have key : ∀ (i : Nat) (b : Nat), i < e.length → ∀ x ∈ (tree e i).flat b, x.name.length ≤ maxLen := by
   intro i
   induction i using Nat.strongRecOn with
   | ind i ih =>
    intro b hi x hx
    have hn := of_getD hi
    have hl : (e.getD i default).name.length ≤ maxLen := h _ (List.mem_of_getElem? hn)
    have ha := hmay.ahead i _ hn
    rw [tree_eq hmay.ahead hn] at hx
    have hk : ∀ t ∈ (kidsM (e.getD i default)).map (fun k => tree e k.toNat), ∀ b, ∀ x ∈ t.flat b, x.name.length ≤ maxLen := by
     intro t ht b x hx
     obtain ⟨k, hk, rfl⟩ := List.mem_map.1 ht
     have := ha k hk
     exact ih k.toNat (by omega) b (by omega) x hx
    have one : ∀ l : List Int, (mkL (e.getD i default).lab l).name.length ≤ maxLen := fun l => by rw [mkL_name]; exact hl
    generalize (kidsM (e.getD i default)).map (fun k => tree e k.toNat) = l at hx hk
    match l with
    | [] => simp only [mkT, T.flat, List.mem_singleton] at hx; rw [hx]; exact one _
    | [p] =>
     simp only [mkT, T.flat, List.mem_append, List.mem_singleton] at hx
     rcases hx with hx | hx
     · exact hk p (by simp) _ x hx
     · rw [hx]; exact one _
    | [p, q] =>
     simp only [mkT, T.flat, List.mem_append, List.mem_singleton] at hx
     rcases hx with (hx | hx) | hx
     · exact hk p (by simp) _ x hx
     · exact hk q (by simp) _ x hx
     · rw [hx]; exact one _
    | p :: q :: r :: _ =>
     simp only [mkT, T.flat, List.mem_append, List.mem_singleton] at hx
     rcases hx with ((hx | hx) | hx) | hx
     · exact hk p (by simp) _ x hx
     · exact hk q (by simp) _ x hx
     · exact hk r (by simp) _ x hx
     · rw [hx]; exact one _
  exact key (e.length - 1) 0 (by have := hmay.pos; omega) x hx
structure Bf (D V : List Bool) (S : Nat → Prop) : Prop where
 len : V.length = D.length
 eq : ∀ j, S j → V[j]? = D[j]?
theorem Bf.put {D V : List Bool} {S : Nat → Prop} (h : Bf D V S) {k : Nat} {b : Bool} (hb : D[k]? = some b) : Bf D (V.set k b) (fun j => S j ∨ j = k) := by
 have hk : k < D.length := (List.getElem?_eq_some_iff.1 hb).1
 refine ⟨by rw [List.length_set]; exact h.len, fun j hj => ?_⟩
 rw [List.getElem?_set]
 by_cases e : k = j
 · subst e; rw [if_pos rfl, if_pos (by rw [h.len]; exact hk)]; exact hb.symm
 · rw [if_neg e]
   rcases hj with hj | hj
   · exact h.eq j hj
   · exact absurd hj.symm e
theorem Bf.sub {D V : List Bool} {S S' : Nat → Prop} (h : Bf D V S) (hs : ∀ j, S' j → S j) : Bf D V S' := ⟨h.len, fun j hj => h.eq j (hs j hj)⟩
def Sm (L : List Nd) (m : Nat) (j : Nat) : Prop := j + 1 = L.length ∨ ∃ p x, m ≤ p ∧ L[p]? = some x ∧ (j : Int) ∈ kidsM x
def Sq (L : List Nd) (m : Nat) (K : List Int) (q : Nat) (j : Nat) : Prop := Sm L m j ∨ ∃ r, r < q ∧ K[r]? = some (j : Int)
theorem bf_start (e : List Nd) : Bf (lateM e) (List.replicate (normB e).length false) (Sm (normB e) (normB e).length) := by
 refine ⟨by rw [List.length_replicate, late_len], fun j hj => ?_⟩
 rcases hj with hj | ⟨p, x, hp, hx, _⟩
 · have := late_last e (by omega)
   rw [show j = (normB e).length - 1 by omega, this, List.getElem?_replicate, if_pos (by omega)]
 · have := (List.getElem?_eq_some_iff.1 hx).1
   omega
theorem bf_next {e : List Nd} {V : List Bool} {m : Nat} {x : Nd} (hx : (normB e)[m]? = some x) {q : Nat} (hq : (kidsM x).length ≤ q) (h : Bf (lateM e) V (Sq (normB e) (m + 1) (kidsM x) q)) : Bf (lateM e) V (Sm (normB e) m) := by
 refine h.sub (fun j hj => ?_)
 rcases hj with hj | ⟨p, y, hp, hy, hk⟩
 · exact .inl (.inl hj)
 · by_cases e0 : p = m
   · subst e0
     rw [hx] at hy; injection hy with hy; subst hy
     obtain ⟨r, hr, he⟩ := List.mem_iff_getElem.1 hk
     exact .inr ⟨r, by omega, by rw [List.getElem?_eq_getElem hr, he]⟩
   · exact .inl (.inr ⟨p, y, by omega, hy, hk⟩)
theorem bf_at {e : List Nd} {V : List Bool} {m : Nat} {S : Nat → Prop} (h : Bf (lateM e) V S) (hs : ∀ j, Sm (normB e) (m + 1) j → S j) (hm : m < (normB e).length) : V[m]? = (lateM e)[m]? := by
 refine h.eq m (hs m ?_)
 by_cases e0 : m + 1 = (normB e).length
 · exact .inl e0
 · obtain ⟨p, x, hx, hk, hp⟩ := late_parent e (j := m) (by omega)
   exact .inr ⟨p, x, by omega, hx, hk⟩
theorem bf_put {e : List Nd} {V : List Bool} {m q : Nat} {K : List Int} {k : Int} {b : Bool} (hk : K[q]? = some k) (h0 : 0 ≤ k) (h : Bf (lateM e) V (Sq (normB e) (m + 1) K q)) (hb : (lateM e)[k.toNat]? = some b) : Bf (lateM e) (V.set k.toNat b) (Sq (normB e) (m + 1) K (q + 1)) := by
 refine (h.put hb).sub (fun j hj => ?_)
 rcases hj with hj | ⟨r, hr, he⟩
 · exact .inl (.inl hj)
 · by_cases e0 : r = q
   · subst e0
     rw [hk] at he; injection he with he
     exact .inr (by omega)
   · exact .inl (.inr ⟨r, by omega, he⟩)
theorem bf_all {e : List Nd} {V : List Bool} (h : Bf (lateM e) V (Sm (normB e) 0)) : V = lateM e := by
 apply List.ext_getElem?
 intro j
 by_cases hj : j < (normB e).length
 · exact bf_at (m := j) h (fun i hi => by
    rcases hi with hi | ⟨p, x, hp, hx⟩
    · exact .inl hi
    · exact .inr ⟨p, x, by omega, hx⟩) hj
 · have := late_len e
   rw [List.getElem?_eq_none_iff.2 (by rw [h.len]; omega), List.getElem?_eq_none_iff.2 (by omega)]
def boolsOf (l : List Bool) : List Value := l.map .bool
theorem bools_set (l : List Bool) (k : Nat) (b : Bool) : boolsOf (l.set k b) = (boolsOf l).set k (.bool b) := by unfold boolsOf; rw [List.map_set]
theorem bools_get {l : List Bool} {k : Nat} {b : Bool} (h : l[k]? = some b) : (boolsOf l)[k]? = some (.bool b) := by unfold boolsOf; rw [List.getElem?_map, h]; rfl
theorem made_bools (n : Nat) : (madeCells #[Value.bool false] n).toList = boolsOf (List.replicate n false) := by
 rw [toList_madeCells_one]; simp [boolsOf]
theorem info4 : (Tryz.prog.info? 4).map (fun i => (i.zero, i.size, i.bytes)) = some (some (.bool false), 1, 1) := by kernel_rfl
structure NR (w : World) (ov : Value) (g c : Nat) (L : List Nd) (V : List Bool) (wr : World) : Prop where
 nds : wr.ownsRow w.heap.size 59 6 ov L.length (ndsOf L)
 bef : wr.ownsRow w.heap.size 4 1 (.slice (some ⟨g, 0, none⟩) V.length c) V.length (boolsOf V)
 below : Below w.heap.size w wr
theorem NR.turn {w wr wr' : World} {ov : Value} {g c : Nat} {L : List Nd} {V : List Bool} (h : NR w ov g c L V wr) (hb : Below wr.heap.size wr wr') : NR w ov g c L V wr' :=
 ⟨own_below h.nds hb, own_below h.bef hb, h.below.trans (hb.mono h.below.size)⟩
theorem NR.lt {w wr : World} {ov : Value} {g c : Nat} {L : List Nd} {V : List Bool} (h : NR w ov g c L V wr) : w.heap.size ≤ g ∧ g < wr.heap.size := h.bef.lt g rfl
theorem NR.other {w wr : World} {ov : Value} {g c : Nat} {L : List Nd} {V : List Bool} (h : NR w ov g c L V wr) {b T s n : Nat} {v : Value} {xs : List Value} (ho : wr.ownsRow b T s v n xs) (hT : T ≠ 4) (k : Nat) (u : Value) : (wr.setCell ⟨g, k, none⟩ u).ownsRow b T s v n xs :=
 own_block ho (fun j hj => Below.heap_setCell _ _ _ _ (fun e => own_ne ho h.bef hT j hj (by rw [e]; rfl)))
theorem NR.set {w wr : World} {ov : Value} {g c : Nat} {L : List Nd} {V : List Bool} (h : NR w ov g c L V wr) (k : Nat) (b : Bool) : NR w ov g c L (V.set k b) (wr.setCell ⟨g, k, none⟩ (.bool b)) := by
 have := h.lt
 refine ⟨h.other h.nds (by decide) k _, ?_, h.below.setCell (p := ⟨g, k, none⟩) (by show w.heap.size ≤ g; omega) _⟩
 rw [List.length_set, bools_set]
 exact (h.bef.stored k (.bool b)).1
end Go.Proofs.YtdebhngpgabglaaGreat.Ca
/- The function Needs answers what the plain function answers. Conditions: the slice is read as a list of nodes; each name is as long as a text may be. -/
namespace Go.Proofs.YtdebhngpgabglaaGreat.Ca
open Go.ChangeShapes Go.WideShapes Go.ChangeAt Go.RowKit Go.Maps Go.WideMaps Go.Proofs.YtdebhngpgabglaaGreat.Tr
theorem lawT : Keyed Tryz.prog 9 := string_keyed Tryz.underlying9
theorem zeroU (w : World) : (zeroValue 62).run Tryz.prog w = .ok (.agg #[]) w := by kernel_rfl
theorem infoS : (Tryz.prog.info? 9).map (fun i => (i.zero, i.size, i.bytes)) = some (some (.string ⟨#[]⟩), 1, 16) := by kernel_rfl
def setN (l : List Bytes) : DataW Unit := setOf (.agg []) (l.map Lit.string)
theorem has_setN (l : List Bytes) (s : Bytes) : Maps.has (setN l) (.string s) = l.contains s := by
 unfold setN
 rw [has_setOf _ _ _ (fun y hy => by obtain ⟨_, _, rfl⟩ := List.mem_map.1 hy; trivial), List.any_map]
 induction l with
 | nil => rfl
 | cons a r ih =>
  rw [List.any_cons, List.contains_cons, ih]
  congr 1
  show (a == s) = (s == a)
  exact Bool.eq_iff_iff.2 ⟨fun h => by simp at h ⊢; exact h.symm, fun h => by simp at h ⊢; exact h.symm⟩
theorem keyName (s : Bytes) (h : s.length ≤ maxLen) : keyOf Tryz.prog 9 (.string (str s)) = some (.string s) := by
 rw [keyOf_string_mk Tryz.underlying9 (by rw [str_size]; exact h)]
 simp [str]
def StrsPost (w : World) (l : List Bytes) (r : Ending) (w' : World) : Prop :=
 ∃ v, r = .returned v ∧ w'.ownsRow w.heap.size 9 1 v l.length (strsOf l) ∧ Below w.heap.size w w'
def nmK (L : List Nd) (D : List Bool) (k : Nat) : List Bytes := ddp (visL (L.take k) (D.take k))
theorem nmK_next {L : List Nd} {D : List Bool} {k : Nat} {x : Nd} {d : Bool} (hx : L[k]? = some x) (hd : D[k]? = some d) : nmK L D (k + 1) = if x.op = 3 ∧ d = false then addT (nmK L D k) x.name else nmK L D k := by
 have h1 := (List.getElem?_eq_some_iff.1 hx).1
 have h2 := (List.getElem?_eq_some_iff.1 hd).1
 unfold nmK
 rw [List.take_add_one, List.take_add_one, hx, hd, vis_two _ _ _ _ (by rw [List.length_take, List.length_take]; omega)]
 have e : visL [x] [d] = if x.op = 3 ∧ d = false then [x.name] else [] := by
  unfold visL
  simp only [List.zip_cons_cons, List.zip_nil_right, List.filterMap_cons, List.filterMap_nil]
  split <;> simp_all
 show ddp (_ ++ visL [x] [d]) = _
 rw [e]
 by_cases h : x.op = 3 ∧ d = false
 · rw [if_pos h, if_pos h]; unfold ddp; rw [List.foldl_append]; rfl
 · rw [if_neg h, if_neg h, List.append_nil]
theorem nmK_all {L : List Nd} {D : List Bool} {k : Nat} (h1 : L.length ≤ k) (h2 : D.length ≤ k) : nmK L D k = ddp (visL L D) := by
 unfold nmK; rw [List.take_of_length_le h1, List.take_of_length_le h2]
theorem ddp_len (l : List Bytes) : (ddp l).length ≤ l.length := by
 have key : ∀ (l : List Bytes) (acc : List Bytes), (l.foldl addT acc).length ≤ acc.length + l.length := by
  intro l
  induction l with
  | nil => intro acc; simp
  | cons a r ih =>
   intro acc
   rw [List.foldl_cons, List.length_cons]
   have h1 := ih (addT acc a)
   have h2 : (addT acc a).length ≤ acc.length + 1 := by unfold addT; split <;> simp
   omega
 have := key l []
 unfold ddp; simpa using this
theorem nmK_len (L : List Nd) (D : List Bool) (k : Nat) : (nmK L D k).length ≤ k := by
 unfold nmK
 refine Nat.le_trans (ddp_len _) ?_
 unfold visL
 refine Nat.le_trans (List.length_filterMap_le _ _) ?_
 rw [List.length_zip, List.length_take, List.length_take]; omega
structure NeR (w wm : World) (ov : Value) (g c : Nat) (L : List Nd) (D : List Bool) (k : Nat) (wr : World) (nv : Value) : Prop where
 le : k ≤ L.length
 map : wr.ownsMap Tryz.prog 9 (unitElem (H := Unit)) wm.heap.size k (setN (nmK L D k))
 row : wr.ownsRow (wm.heap.size + 1) 9 1 nv (nmK L D k).length (strsOf (nmK L D k))
 nr : NR w ov g c L D wr
 size : wm.heap.size + 1 ≤ wr.heap.size
 lo : w.heap.size ≤ wm.heap.size
 far : (∀ j, ov.ownBlock = some j → j < wm.heap.size) ∧ g < wm.heap.size
theorem NeR.alloc {w wm wr : World} {ov nv : Value} {g c k : Nat} {L : List Nd} {D : List Bool} (h : NeR w wm ov g c L D k wr nv) (o : Obj) : NeR w wm ov g c L D k (wr.alloc o) nv :=
 ⟨h.le, h.map.alloc _, h.row.alloc _, h.nr.turn (below_new _ _), by have := h.size; simp; omega, h.lo, h.far⟩
theorem NeR.skip {w wm wr : World} {ov nv : Value} {g c k : Nat} {L : List Nd} {D : List Bool} (h : NeR w wm ov g c L D k wr nv) (hk : k < L.length) (he : nmK L D (k + 1) = nmK L D k) : NeR w wm ov g c L D (k + 1) wr nv :=
 ⟨hk, by rw [he]; exact h.map.mono (Nat.le_succ _), by rw [he]; exact h.row, h.nr, h.size, h.lo, h.far⟩
theorem NeR.row1 {w wm wr w1 : World} {ov nv : Value} {g c k : Nat} {L : List Nd} {D : List Bool} (h : NeR w wm ov g c L D k wr nv) (hg1 : wr.grownBy w1 (some wm.heap.size)) : w1.ownsRow (wm.heap.size + 1) 9 1 nv (nmK L D k).length (strsOf (nmK L D k)) :=
 h.row.kept hg1 (Or.inr (fun h' => by have := (h.row.lt _ h').1; omega))
theorem NeR.step {w wm wr w1 w2 : World} {ov nv nv' : Value} {g c k : Nat} {L : List Nd} {D : List Bool} {s : Bytes} {o : Obj} (h : NeR w wm ov g c L D k wr nv) (hk : k < L.length) (he : nmK L D (k + 1) = addT (nmK L D k) s) (hc : (nmK L D k).contains s = false)
 (hm : w1.ownsMap Tryz.prog 9 (unitElem (H := Unit)) wm.heap.size (k + 1) ((setN (nmK L D k)).put (.string s) (.agg []))) (hg1 : wr.grownBy w1 (some wm.heap.size))
 (hrow : w2.ownsRow (wm.heap.size + 1) 9 1 nv' ((nmK L D k).length + 1) (strsOf (nmK L D k) ++ [.string (str s)])) (hg2 : (w1.alloc o).grownBy w2 nv.ownBlock) : NeR w wm ov g c L D (k + 1) w2 nv' := by
 have e : nmK L D (k + 1) = nmK L D k ++ [s] := by rw [he]; unfold addT; rw [if_neg (by rw [hc]; simp)]
 have s1 := hg1.size
 have s2 := hg2.size
 simp at s2
 have hsz := h.size
 have nb : ∀ j, nv.ownBlock = some j → wm.heap.size + 1 ≤ j := fun j hj => (h.row.lt j hj).1
 have stay : ∀ j, j < wm.heap.size → w2.heap[j]? = wr.heap[j]? := fun j hj =>
  (hg2.block j (by simp; omega) (fun x => by have := nb j x.symm; omega)).trans ((Below.heap_alloc _ _ _ (by omega)).trans (hg1.block j (by omega) (fun x => by injection x with x; omega)))
 have hb : Below w.heap.size w w2 := ⟨hg2.os.trans (hg1.os.trans h.nr.below.os), hg2.tape.trans (hg1.tape.trans h.nr.below.tape), hg2.output.trans (hg1.output.trans h.nr.below.output), by have := h.nr.below.size; omega, fun j hj => (stay j (by have := h.lo; omega)).trans (h.nr.below.block j hj)⟩
 refine ⟨by omega, ?_, ?_, ⟨own_block h.nr.nds (fun j hj => stay j (h.far.1 j hj)), own_block h.nr.bef (fun j hj => ?_), hb⟩, by omega, h.lo, h.far⟩
 · have e2 : setN (nmK L D k ++ [s]) = (setN (nmK L D k)).put (.string s) (.agg []) := by
    unfold setN; rw [List.map_append, List.map_singleton, setOf_snoc]
   rw [e, e2]
   exact (hm.alloc _).kept hg2 (fun h' => by have := nb _ h'.symm; omega)
 · rw [e, strs_snoc, List.length_append]; exact hrow
 · have : some g = some j := hj
   injection this with this
   subst this
   exact stay g h.far.2
theorem cellGrown {wr w1 : World} {b t k : Nat} {cs : Array Value} {o : Obj} (hg : ((wr.alloc (.cells cs t)).alloc o).grownBy w1 (some b)) (hb : b < wr.heap.size) : w1.cell? ⟨wr.heap.size, k, none⟩ = cs[k]? := by
 have h := hg.block wr.heap.size (by simp; omega) (fun h => by injection h with h; omega)
 rw [Below.heap_alloc _ _ _ (by simp), heap_alloc_new] at h
 unfold World.cell?
 rw [h]; rfl
end Go.Proofs.YtdebhngpgabglaaGreat.Ca
