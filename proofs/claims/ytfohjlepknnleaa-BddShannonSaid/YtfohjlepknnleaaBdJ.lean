/- A new node is put into a draft. Conditions: none. -/
import Derived.Test.YtfohjlepknnleaaBdJ0
namespace Go.Proofs.Ytfohjlepknnleaa.Bd
open Go.ChangeShapes Go.WideShapes Go.ChangeAt Go.RowKit
set_option linter.unusedVariables false
set_option linter.unusedSimpArgs false

set_option maxRecDepth 100000 in
set_option maxHeartbeats 1600000 in
theorem put_fresh (P : Dp) (w : World) (fv : Value) (F : List Nd) (h : Dr P w fv F) (t lo hi : Nat) (hb : t < P.vars ∧ lo < (P.S ++ F).length ∧ hi < (P.S ++ F).length) (hg : t < tst (P.S ++ F) lo ∧ t < tst (P.S ++ F) hi) (hne : lo ≠ hi) (hno : ∀ i, 2 ≤ i → (P.S ++ F)[i]? ≠ some (t, lo, hi)) (hful : P.S.length + F.length < P.limit) :
    Calls Try.prog 36 #[.pointer (some ⟨P.dd, 0, none⟩), .agg #[.int .i64 (t : Int), .int .i64 (lo : Int), .int .i64 (hi : Int)]] w (PutPost P w fv F t lo hi) := by
  have HH := Lib.hid h
  obtain ⟨nS, hnS⟩ : ∃ n, P.S.length = n := ⟨_, rfl⟩
  obtain ⟨nF, hnF⟩ : ∃ n, F.length = n := ⟨_, rfl⟩
  have hroom := h.room
  rw [hnS, hnF] at hroom
  obtain ⟨b1, b2, b3⟩ := hb
  have HP := Lib.hid (put_new h.good b1 hne b2 b3 hg.1 hg.2 hno)
  have h2 := h.st.good.two
  have hv := h.st.hv
  have hlim := h.lim
  have HF := Lib.hid hful
  rw [List.length_append] at b2 b3
  rw [hnS, hnF] at hful b2 b3
  obtain ⟨w1, hw1⟩ : ∃ W, w.alloc (.cells #[.int .i64 (t : Int), .int .i64 (lo : Int), .int .i64 (hi : Int)] 59) = W := ⟨_, rfl⟩
  have HB : Hid (Below w.heap.size w w1) := Lib.hid (by rw [← hw1]; exact below_new _ _)
  have HN := Lib.hid (show w1.heap[w.heap.size]? = some (.cells #[.int .i64 (t : Int), .int .i64 (lo : Int), .int .i64 (hi : Int)] 59) from by rw [← hw1]; exact heap_alloc_new _ _)
  have z0 : w1.cell? ⟨w.heap.size, 0, none⟩ = some (.int .i64 t) := by simp [World.cell?, HN.out]
  have z1 : w1.cell? ⟨w.heap.size, 1, none⟩ = some (.int .i64 lo) := by simp [World.cell?, HN.out]
  have z2 : w1.cell? ⟨w.heap.size, 2, none⟩ = some (.int .i64 hi) := by simp [World.cell?, HN.out]
  have HK := Lib.hid (h.kept HB.out)
  obtain ⟨⟨a0, a1, a2, a3⟩, y0, y1, y2, y3⟩ := HK.out.ats
  obtain ⟨A, cS, hS⟩ := row_form HK.out.stv.row
  obtain ⟨A2, cF, hF⟩ := row_form HK.out.row
  rw [hnS] at hS
  rw [hnF] at hF
  rw [hS] at y2
  rw [hF] at a1
  have hok : okN (t, lo, hi) := by unfold okN; dsimp only; omega
  have hl1 : ∀ q, (Instr.lookup 61 (.map (some P.pb)) (.agg #[.int .i64 (t : Int), .int .i64 (lo : Int), .int .i64 (hi : Int)]) true).run Try.prog (w1.drewN q) = .ok (.tuple #[.int .i64 0, .bool false]) (w1.drewN q) := by
    obtain ⟨f, hf, hT⟩ := HK.out.stv.map
    exact look_no hf hT t lo hi hok (fun j hj hh => hno j hj ((at_app (lt_of hh)).trans hh))
  have hl2 : ∀ q, (Instr.lookup 61 (.map (some P.kb)) (.agg #[.int .i64 (t : Int), .int .i64 (lo : Int), .int .i64 (hi : Int)]) true).run Try.prog (w1.drewN q) = .ok (.tuple #[.int .i64 0, .bool false]) (w1.drewN q) := by
    obtain ⟨f, hf, hT⟩ := HK.out.known
    exact look_no hf hT t lo hi hok (fun j hj hh => hno (P.S.length + j) (by omega) (by rw [List.getElem?_append_right (by omega), Nat.add_sub_cancel_left]; exact hh))
  have hd4 : decide ((P.limit : Int) ≤ (nS : Int) + (nF : Int)) = false := decide_eq_false (by omega)
  have hd1 : ((lo : Int) == -1) = false := by simp
  have hd2 : ((hi : Int) == -1) = false := by simp
  have hd3 : ((lo : Int) == (hi : Int)) = false := beq_false_of_ne (by omega)
  have HNO := Lib.hid hno
  have HOK := Lib.hid hok
  have HFV := Lib.hid hF
  clear h hno hne hok hS hF hg
  go_enter Try.func36, Try.ntmps36
  go_wp2_with fail
  go_quiet (fail)
  go_wp2
  go_quiet (fail)
  go_wp2
  go_quiet (fail)
  go_wp2
  rename_i q1 q2 K0 a00
  obtain ⟨q, hq⟩ : ∃ q, q = q1 + q2 + nq := ⟨_, rfl⟩
  rw [← hq]
  clear hq
  obtain ⟨kf, hkm, hkt⟩ := HK.out.known
  have HKT := Lib.hid hkt
  have HKM := Lib.hid hkm
  rw [hnF] at hkm
  obtain ⟨w2, hrun, hm2, hg2⟩ := (hkm.keep (w' := w1.drewN (q + 1)) rfl).put keysN Try.underlying61 (by unfold maxLen; omega) (t, lo, hi) HOK.out (.int .i64 ((nS : Int) + (nF : Int)))
  have HM2 := Lib.hid hm2
  have HG2 := Lib.hid hg2
  have hrun : (Instr.mapUpdate 61 (.map (some P.kb)) (.agg #[.int .i64 (t : Int), .int .i64 (lo : Int), .int .i64 (hi : Int)]) (.int .i64 ((nS : Int) + (nF : Int)))).run Try.prog (w1.drewN (q + 1)) = .ok () w2 := hrun
  clear hkt hkm hm2 hg2
  have HE : Hid (∀ o w6 w7 gg cap, Below w2.heap.size w2 w6 → w6.grownBy w7 (Value.slice A2 nF cF).ownBlock → w7.ownsRow P.W0.heap.size 59 3 (.slice (some ⟨gg, 0, none⟩) (nF + 1) cap) (nF + 1) (ndC F ++ [.int .i64 (t : Int), .int .i64 (lo : Int), .int .i64 (hi : Int)]) →
      ((Value.slice A2 nF cF).ownBlock = some gg ∨ w2.heap.size ≤ gg) → PutPost P w fv F t lo hi (.returned (.int .i64 ((nS : Int) + (nF : Int)))) (w7.setCell ⟨P.dd, 1, none⟩ (.slice (some ⟨gg, 0, none⟩) (nF + 1) cap))) := Lib.hid (fun o w6 w7 gg cap x1 x2 x3 x4 => by
    rw [← HFV.out] at x2 x4
    subst hnS hnF
    exact fresh_end (o := o) HH.out HB.out HK.out HKT.out HKM.out HOK.out HNO.out HF.out HM2.out HG2.out x1 x2 x3 x4 HP.out)
  have hx0 : ∀ g, g < w1.heap.size → g ≠ P.kb → w2.heap[g]? = w1.heap[g]? := fun g hg hne => HG2.out.block g hg (fun e => hne (by injection e))
  have hs1 : w.heap.size < w1.heap.size := block_lt HN.out
  have hbox2 : w2.heap[P.dd]? = some (.cells #[.pointer (some ⟨P.b, 0, none⟩), .slice A2 nF cF, .map (some P.kb), .int .i64 (P.limit : Int)] 86 (0, 0)) := by
    rw [hx0 _ (block_lt HK.out.box) (map_ne HKM.out HK.out.box), ← HFV.out]; exact HK.out.box
  have hn2 : w2.heap[w.heap.size]? = some (.cells #[.int .i64 (t : Int), .int .i64 (lo : Int), .int .i64 (hi : Int)] 59 (0, 0)) := by
    rw [hx0 _ hs1 (map_ne HKM.out HN.out)]; exact HN.out
  have hrow2 : w2.ownsRow P.W0.heap.size 59 3 (.slice A2 nF cF) nF (ndC F) := by
    rw [← HFV.out, ← hnF]
    exact own_keep HK.out.row (fun g hg => by
      obtain ⟨cs, hcs⟩ := own_type HK.out.row hg
      exact hx0 g (block_lt hcs) (map_ne HKM.out hcs))
  have HROW := Lib.hid hrow2
  have hz2 : P.W0.heap.size ≤ w2.heap.size := Nat.le_trans HH.out.below.size (Nat.le_trans (Nat.le_of_lt hs1) HG2.out.size)
  have g0 : w2.cell? ⟨P.dd, 0, none⟩ = some (.pointer (some ⟨P.b, 0, none⟩)) := by simp [World.cell?, hbox2]
  have g1 : w2.cell? ⟨P.dd, 1, none⟩ = some (.slice A2 nF cF) := by simp [World.cell?, hbox2]
  have g2 : w2.frozen? ⟨P.dd, 1, none⟩ = false := by simp [World.frozen?, hbox2]
  have k0 : w2.cell? ⟨w.heap.size, 0, none⟩ = some (.int .i64 t) := by simp [World.cell?, hn2]
  have k1 : w2.cell? ⟨w.heap.size, 1, none⟩ = some (.int .i64 lo) := by simp [World.cell?, hn2]
  have k2 : w2.cell? ⟨w.heap.size, 2, none⟩ = some (.int .i64 hi) := by simp [World.cell?, hn2]
  have g1a : ∀ o, (w2.alloc o).cell? ⟨P.dd, 1, none⟩ = some (.slice A2 nF cF) := fun o => (Below.cell (below_new w2 o) (p := ⟨P.dd, 1, none⟩) (block_lt hbox2)).trans g1
  have k0a : ∀ o, (w2.alloc o).cell? ⟨w.heap.size, 0, none⟩ = some (.int .i64 t) := fun o => (Below.cell (below_new w2 o) (p := ⟨w.heap.size, 0, none⟩) (block_lt hn2)).trans k0
  have k1a : ∀ o, (w2.alloc o).cell? ⟨w.heap.size, 1, none⟩ = some (.int .i64 lo) := fun o => (Below.cell (below_new w2 o) (p := ⟨w.heap.size, 1, none⟩) (block_lt hn2)).trans k1
  have k2a : ∀ o, (w2.alloc o).cell? ⟨w.heap.size, 2, none⟩ = some (.int .i64 hi) := fun o => (Below.cell (below_new w2 o) (p := ⟨w.heap.size, 2, none⟩) (block_lt hn2)).trans k2
  have HQ : Hid (∀ w6 w7, Below w2.heap.size w2 w6 → w6.grownBy w7 (Value.slice A2 nF cF).ownBlock → w7.cell? ⟨P.dd, 1, none⟩ = some (.slice A2 nF cF) ∧ w7.frozen? ⟨P.dd, 1, none⟩ = false) := Lib.hid (fun w6 w7 x1 x2 => by
    have hlt := block_lt hbox2
    have h7 : w7.heap[P.dd]? = some (.cells #[.pointer (some ⟨P.b, 0, none⟩), .slice A2 nF cF, .map (some P.kb), .int .i64 (P.limit : Int)] 86 (0, 0)) := by
      rw [x2.block _ (by have := x1.size; omega) (fun e => own_ne HROW.out hbox2 (by decide) e.symm), x1.block _ hlt]
      exact hbox2
    exact ⟨by simp [World.cell?, h7], by simp [World.frozen?, h7]⟩)
  obtain ⟨i0, hi0, hz0, hz1, hz3⟩ := info_parts infoN
  have HBN := Lib.hid (show nF + 1 ≤ 2097152 from by omega)
  clear hbox2 hn2 hx0 hrow2 hl1 hl2
  go_region
  go_wp2
  clear a0 a1 a2 a3 y0 y1 y2 y3 z0 z1 z2
  go_region_law (first | (refine step_append_lies _ (by rfl) _ _ _ (by rfl) P.W0.heap.size 59 i0 _ 3 24 Try.underlying60 hi0 hz0 hz1 hz3 rfl (by omega) (.slice A2 nF cF) nF (ndC F) (by rfl) (by exact HROW.out.alloc _) ⟨w2.heap.size, 0, none⟩ 1 1 [.int .i64 (t : Int), .int .i64 (lo : Int), .int .i64 (hi : Int)] (by rfl) (by rfl) (World.news_of_block (cs := #[.int .i64 (t : Int), .int .i64 (lo : Int), .int .i64 (hi : Int)]) (t := 59) (fr := (0, 0)) (heap_alloc_new _ _)) (by simp [Value.oneCell']) (by omega) (by have := HBN.out; unfold maxLen; omega) (by have := HBN.out; omega) (by simp; omega) (w2.heap.size + 1) (by simp) ?_; intro gg cap w7 hown2 hgrow hat hlt; obtain ⟨r0, r1⟩ := HQ.out _ w7 (below_new _ _).drew hgrow) | fail)
  all_goals
    go_wp2
    refine bodyPost_ret (v := .int .i64 ((nS : Int) + (nF : Int))) (by simp [results, Try.results36, go_sem]) rfl (HE.out (.map #[] 0) _ w7 gg cap (below_new _ _).drew hgrow hown2 (hat.imp_right (fun e => by omega)))

/-- A node is put into a draft. -/
theorem put_any (P : Dp) (w : World) (fv : Value) (F : List Nd) (h : Dr P w fv F) (t : Nat) (lo hi : Int) (ht : t < P.vars)
    (hlo : lo = -1 ∨ ∃ l : Nat, lo = (l : Int) ∧ l < (P.S ++ F).length ∧ t < tst (P.S ++ F) l) (hhi : hi = -1 ∨ ∃ l : Nat, hi = (l : Int) ∧ l < (P.S ++ F).length ∧ t < tst (P.S ++ F) l) :
    Calls Try.prog 36 #[.pointer (some ⟨P.dd, 0, none⟩), .agg #[.int .i64 (t : Int), .int .i64 lo, .int .i64 hi]] w (PutPost P w fv F t lo hi) := by
  rcases hlo with c | ⟨l, rfl, l1, l2⟩
  · exact put_bad P w fv F h t lo hi (.inl c)
  rcases hhi with c | ⟨i, rfl, i1, i2⟩
  · exact put_bad P w fv F h t _ hi (.inr c)
  by_cases e : l = i
  · subst e
    exact put_eq P w fv F h t l l1 l2
  by_cases hx : ∃ j : Nat, 2 ≤ j ∧ (P.S ++ F)[j]? = some (t, l, i)
  · obtain ⟨j, h2, hj⟩ := hx
    by_cases c : j < P.S.length
    · rw [List.getElem?_append_left c] at hj
      exact put_there P w fv F h t l i j h2 hj
    · rw [List.getElem?_append_right (by omega)] at hj
      exact put_known P w fv F h t l i _ hj
  · have hno : ∀ j, 2 ≤ j → (P.S ++ F)[j]? ≠ some (t, l, i) := fun j a b => hx ⟨j, a, b⟩
    have hr := h.room
    have hv := h.st.hv
    by_cases c : P.limit ≤ P.S.length + F.length
    · exact put_full P w fv F h t l i (by rw [List.length_append] at l1 i1; omega) e hno c
    · exact put_fresh P w fv F h t l i ⟨ht, l1, i1⟩ ⟨l2, i2⟩ e hno (by omega)
end Go.Proofs.Ytfohjlepknnleaa.Bd
