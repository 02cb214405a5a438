/- The document's Join puts expressions together under an operator. Conditions: the slices are read as lists; what is put together is not too long. -/
import Derived.Test.YtmggedjolocgdaaTreeJn
namespace Go.Proofs.Ytmggedjolocgdaa.Tr
open Go.ChangeShapes Go.WideShapes Go.ChangeAt Go.RowKit
set_option linter.unusedVariables false
set_option linter.unusedSimpArgs false

theorem aim_over (o n : Int) (s : Bytes) (l : List Int) (h : l.length ≤ 3) (h28 : o ≠ 28) : aimM (overM o n s []) l = overM o n s l := by
  match l, h with
  | [], _ => rfl
  | [i], _ => rfl
  | [i, j], _ => simp [aimM, overM, h28]
  | [i, j, k], _ => rfl

set_option maxRecDepth 100000 in
set_option maxHeartbeats 2000000 in
theorem rjoin_any (pv : Value) (ls : List (List Nd)) (o n : Int) (s : Bytes) (w : World) (hp : Parts w w.heap.size pv ls) (hn : roomM ls ≤ 80000) (h27 : o ≠ 27) :
    Calls Try.prog 28 #[.int .i64 o, .int .i64 n, .string (str s), pv] w (NodesPost w (joinM o n s ls)) := by
  have HPV := Lib.hid hp
  obtain ⟨A, c, rfl, h1, h2, hA⟩ := hp
  unfold maxLen at h2
  have HA := Lib.hid hA
  have HSM := Lib.hid (sumM_le ls)
  have hll : ls.length ≤ 80000 := by have := HSM.out 0; omega
  obtain ⟨i0, hi, hz0, hz1, hz2⟩ := info_parts info3
  obtain ⟨i1, hi', hz0', hz1', hz2'⟩ := info_parts info30
  obtain ⟨K, hK⟩ : ∃ K, kidsM (overM o n s []) = K := ⟨_, rfl⟩
  have HK := Lib.hid hK
  have hK3 : K.length ≤ 3 := by rw [← hK]; exact kids_small _
  have h27' : (o == 27) = false := by rw [beq_eq_false_iff_ne]; exact h27
  have h27n : (o != 27) = true := by rw [bne_iff_ne]; exact h27
  have HJ := Lib.hid (show joinM o n s ls = if ls.any List.isEmpty = true then [] else if o = 28 then [] else if K.length = ls.length then (layF ls).1 ++ [overM o n s (layF ls).2] else [] by unfold joinM; rw [if_neg h27, hK])
  clear hA h27 hK
  go_enter Try.func28, Try.ntmps28
  go_wp2_with fail
  refine (leaf_any o n (str s) _).mono ?_
  rintro r w1 ⟨rfl, hb1⟩
  have hs1 := hb1.size
  have HB1 := Lib.hid (hb1.alloc hs1 (.cells #[.int .i64 o, .int .i64 (-1), .int .i64 (-1), .int .i64 (-1), .int .i64 n, .string (str s)] 30))
  clear hb1
  go_wp2_with fail
  refine (rkids_any (overM o n s []) _).mono ?_
  rintro r w2 ⟨kv, rfl, hok, hb2⟩
  rw [HK.out] at hok
  obtain ⟨A2, c2, rfl, y1, y2, _⟩ := Ints.of_own hok
  unfold maxLen at y2
  have hs2 := hb2.size
  simp at hs2
  have X : ∀ k, w2.cell? ⟨w1.heap.size, k, none⟩ = (#[Value.int .i64 o, .int .i64 (-1), .int .i64 (-1), .int .i64 (-1), .int .i64 n, .string (str s)] : Array Value)[k]? := fun k => by
    rw [hb2.cell (p := ⟨w1.heap.size, k, none⟩) (by simp)]
    have h := heap_alloc_new w1 (.cells #[Value.int .i64 o, .int .i64 (-1), .int .i64 (-1), .int .i64 (-1), .int .i64 n, .string (str s)] 30)
    unfold World.cell?; rw [h]; rfl
  have HXC := Lib.hid X
  have HXB := Lib.hid ((hb2.block w1.heap.size (by simp)).trans (heap_alloc_new w1 _))
  have HB2 := Lib.hid (HB1.out.trans (hb2.mono (by simp; omega)))
  clear hok hb2 X
  by_cases h28 : o = 28
  · have HJ2 := Lib.hid (show joinM o n s ls = [] by rw [HJ.out, if_pos h28]; split <;> rfl)
    have h28' : (o == 28) = true := by rw [beq_iff_eq]; exact h28
    clear h28
    go_wp2
    go_ret
    rw [HJ2.out]
    exact nodes_none _ _ HB2.out
  have h28' : (o == 28) = false := by rw [beq_eq_false_iff_ne]; exact h28
  have H28 := Lib.hid h28
  clear h28
  by_cases hlen : K.length = ls.length
  rotate_left
  · have HJ2 := Lib.hid (show joinM o n s ls = [] by rw [HJ.out, if_neg H28.out, if_neg hlen]; split <;> rfl)
    have hl' : ((K.length : Int) != (ls.length : Int)) = true := by rw [bne_iff_ne]; omega
    clear hlen
    go_wp2
    go_ret
    rw [HJ2.out]
    exact nodes_none _ _ HB2.out
  have HJ2 := Lib.hid (show joinM o n s ls = if ls.any List.isEmpty = true then [] else (layF ls).1 ++ [overM o n s (layF ls).2] by rw [HJ.out, if_neg H28.out, if_pos hlen])
  have hl' : ((K.length : Int) != (ls.length : Int)) = false := by simp [hlen]
  have hl3 : ls.length ≤ 3 := by omega
  have HREL0 : Hid (JoinRel w w2.heap.size ls 0 w2 (.slice none 0 0) (.slice none 0 0)) := Lib.hid ⟨Nat.zero_le _, HB2.out.size, by simpa [layF, ndsOf] using World.ownsRow_nil _ _ _ _, World.ownsRow_nil _ _ _ _, HB2.out⟩
  have hsw : w.heap.size ≤ w1.heap.size := hs1
  clear hlen
  go_wp2
  go_loopw [11, 12, 14] (fun s1 s2 i wr => ∃ (k : Nat) (ov tv : Value), ov = s1 ∧ tv = s2 ∧ i = .int .i64 k ∧ JoinRel w w2.heap.size ls k wr ov tv ∧ wr.heap[w1.heap.size]? = w2.heap[w1.heap.size]? ∧ w2.heap.size ≤ wr.heap.size ∧ Hid (∀ j p, j < k → ls[j]? = some p → p.length ≠ 0)) (fun _ _ i _ => ls.length - (intOf i).toNat)
  case atStart => exact ⟨0, _, _, rfl, rfl, rfl, HREL0.out, rfl, Nat.le_refl _, fun j p h => by omega⟩
  case round =>
    obtain ⟨k, ov, tv, rfl, rfl, rfl, hrel, hxb, hsz, hne⟩ := hrel
    have hk := hrel.le
    have HREL := Lib.hid hrel
    have hs := hrel.below.size
    have HXR := Lib.hid hxb
    have HW := Lib.hid (show ∀ g, g < w.heap.size → wr.heap[g]? = w.heap[g]? from fun g hg => hrel.below.block g hg)
    clear hrel hxb
    by_cases hlt : k < ls.length
    · obtain ⟨p, hpk⟩ : ∃ p, ls[k]? = some p := ⟨_, List.getElem?_eq_getElem hlt⟩
      obtain ⟨g, o', u, rfl, hgb, hg, d0, hu, hul⟩ := HA.out k p hpk
      have c0 := (World.cell?_of_block (w := w) (a := ⟨g, o' + k, none⟩) (HW.out g hg)).trans d0
      have HU := Lib.hid (hu.low hul hs (fun g h _ => HW.out g h))
      have HUL := Lib.hid hul
      have HPK := Lib.hid hpk
      have hlk : (layF (ls.take k)).1.length = sumM ls k := (layF_lens _).1
      have hnx2 := sumM_next ls k p hpk
      have hsl := HSM.out (k + 1)
      have hln : (layF (ls.take k)).1.length + p.length ≤ 80000 := by omega
      obtain ⟨A', c', rfl, y3, y4, _⟩ := hu
      unfold maxLen at y4
      clear hpk d0 hul hlk hnx2 hsl
      by_cases hp0 : p.length = 0
      · have HR := Lib.hid (show joinM o n s ls = [] by rw [HJ2.out, any_empty ls k p HPK.out hp0]; simp)
        have hp0' : ((p.length : Int) == 0) = true := by rw [beq_iff_eq]; omega
        have HB := Lib.hid HREL.out.below
        clear hp0
        go_wp2
        go_ret
        rw [HR.out]
        exact nodes_none _ _ HB.out
      have hp0' : ((p.length : Int) == 0) = false := by rw [beq_eq_false_iff_ne]; omega
      have HP0 := Lib.hid hp0
      clear hp0
      have hb22 := HREL.out.base
      go_wp2_with fail
      refine (behind_any ov _ (layF (ls.take k)).1 p w2.heap.size _ HREL.out.own hsz HU.out (fun h g o n c hh => Nat.lt_of_lt_of_le (HUL.out h g o n c hh) hb22) (by omega)).mono ?_
      rintro r w5 ⟨ov2, rfl, hown5, hg5, hblk5⟩
      obtain ⟨A5, c5, rfl, x1, x2, _⟩ := Nodes.of_own hown5
      have hs5 := hg5.size
      have htv5 := own_block HREL.out.row (fun j hj => hg5.block j (HREL.out.row.lt j hj).2 (fun h => own_ne HREL.out.own HREL.out.row (by decide) j h.symm hj))
      have hx5 := (hg5.block w1.heap.size (by omega) (fun h => by have := (HREL.out.own.lt _ h.symm).1; omega)).trans HXR.out
      have HO5 := Lib.hid hown5
      have HG5 := Lib.hid hg5
      have HT5 := Lib.hid htv5
      have HX5 := Lib.hid hx5
      obtain ⟨N, hN⟩ : ∃ N, ((layF (ls.take k)).1 ++ p.map (onNd ((layF (ls.take k)).1.length : Int))).length = N := ⟨_, rfl⟩
      have HN := Lib.hid hN
      have hNm : N ≤ 80000 := by rw [← hN, List.length_append, List.length_map]; exact hln
      clear hown5 hg5 htv5 hN hx5 hblk5
      rw [HN.out] at x1
      rw [HN.out]
      unfold maxLen at x2
      go_wp2_with (at_builtin; refine wpList_append_own _ rfl (.tmp 53) (.tmp 57) 27 rfl w2.heap.size 3 i0 _ 1 8 Try.underlying27 hi hz0 hz1 hz2 rfl (by decide) _ _ _ rfl (HT5.out.alloc _) ⟨w5.heap.size, 0, none⟩ 1 1 [.int .i64 ((N : Int) - 1)] rfl rfl ?a5 ?b5 ?c5 ?d5 ?e5 ?_)
      case a5 => exact cell_one_new _ _ _
      case b5 => intro u hu; simp at hu; subst hu; rfl
      case c5 => unfold maxLen; omega
      case d5 => omega
      case e5 => simp; omega
      intro tv' w6 hrow6 hg6 _
      have R := Lib.hid (HREL.out.step HPK.out HO5.out HG5.out HT5.out (by unfold behindM; rw [HN.out]; exact hrow6) hg6)
      rw [HN.out] at R
      have hs6 := hg6.size
      simp at hs6
      have HX6 := Lib.hid ((hg6.block w1.heap.size (by simp; omega) (fun h => by have := (HT5.out.lt _ h.symm).1; omega)).trans ((Below.heap_alloc _ _ _ (by omega)).trans HX5.out))
      clear hrow6 hg6
      go_wp2
      refine ⟨⟨k + 1, _, _, rfl, rfl, by go_num, R.out, HX6.out, by omega, fun j q hj hq => ?_⟩, by simp [intOf]; omega⟩
      by_cases hjk : j < k
      · exact hne.out j q hjk hq
      · have : j = k := by omega
        subst this
        have := HPK.out.symm.trans hq
        simp only [Option.some.injEq] at this
        subst this; exact HP0.out
    · have hkl : k = ls.length := by omega
      subst hkl
      have HTK := Lib.hid (show ls.take ls.length = ls from List.take_length)
      obtain ⟨N, hN⟩ : ∃ N, (layF ls).1.length = N := ⟨_, rfl⟩
      have hNm : N ≤ 80000 := by rw [← hN, (layF_lens ls).1]; have := room_sum ls; omega
      have HN := Lib.hid hN
      have HO := Lib.hid HREL.out.own
      have HT : Hid (Ints wr tv (layF ls).2) := Lib.hid (Ints.of_own (by have := HREL.out.row; rw [HTK.out] at this; rw [(layF_lens ls).2]; exact this))
      have hl2 : (layF ls).2.length ≤ 3 := by rw [(layF_lens ls).2]; exact hl3
      have HJ3 := Lib.hid (show joinM o n s ls = (layF ls).1 ++ [overM o n s (layF ls).2] by rw [HJ2.out, none_empty ls (fun j p hj hp => hne.out j p hj hp)]; simp)
      rw [HTK.out, HN.out] at HO
      have X : ∀ k, wr.cell? ⟨w1.heap.size, k, none⟩ = (#[Value.int .i64 o, .int .i64 (-1), .int .i64 (-1), .int .i64 (-1), .int .i64 n, .string (str s)] : Array Value)[k]? := fun k => by
        have h := HXR.out.trans HXB.out
        unfold World.cell?; rw [h]; rfl
      have e0 := X 0
      have e1 := X 1
      have e2 := X 2
      have e3 := X 3
      have e4 := X 4
      have e5 := X 5
      simp at e0 e1 e2 e3 e4 e5
      clear hN X hne
      go_wp2_with fail
      refine (aim_any (overM o n s []) tv (layF ls).2 _ HT.out hl2).mono ?_
      rintro r w5 ⟨rfl, hb5⟩
      rw [aim_over o n s _ hl2 H28.out]
      have hs5 := hb5.size
      have HB5 := Lib.hid (HREL.out.below.trans (hb5.mono hs))
      have HO5 := Lib.hid (own_below HO.out hb5)
      obtain ⟨y, hy⟩ : ∃ y, overM o n s (layF ls).2 = y := ⟨_, rfl⟩
      have HY := Lib.hid hy
      rw [hy]
      clear hb5 hy e0 e1 e2 e3 e4 e5
      go_wp2_with (at_builtin; refine wpList_append_own _ rfl (.tmp 82) (.tmp 86) 23 rfl w2.heap.size 30 i1 _ 6 56 Try.underlying23 hi' hz0' hz1' hz2' rfl (by decide) _ N _ rfl (HO5.out.alloc _) ⟨w5.heap.size, 0, none⟩ 1 1 (ndCells y) rfl rfl ?a6 ?b6 ?c6 ?d6 ?e6 ?_)
      case a6 => exact World.news_of_block (t := 30) (fr := (0, 0)) (heap_alloc_new _ _)
      case b6 => simp [ndCells, Value.oneCell']
      case c6 => unfold maxLen; omega
      case d6 => omega
      case e6 => simp; omega
      intro v' w6 hown6 hg6 _
      have hbb := HREL.out.base
      have hB6 := (HB5.out.alloc (by omega) (.cells (ndCells y).toArray 30)).grown hg6 (by simp; omega) (fun j hj => Nat.le_trans hbb (HO5.out.lt j hj).1)
      have HB6 := Lib.hid hB6
      have HO6 := Lib.hid hown6
      clear hown6 hg6 hB6
      go_wp2
      go_ret
      rw [HJ3.out, HY.out]
      refine ⟨_, rfl, ?_, HB6.out⟩
      rw [nds_snoc, List.length_append, HN.out]
      exact own_base HO6.out hbb
end Go.Proofs.Ytmggedjolocgdaa.Tr
