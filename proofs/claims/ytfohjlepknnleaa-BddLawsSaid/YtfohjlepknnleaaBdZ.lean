/- Which of a draft's nodes are needed, and their new numbers. Conditions: none. -/
import Derived.Test.YtfohjlepknnleaaBdY
import Derived.Laws.EntriesVeiled
namespace Go.Proofs.Ytfohjlepknnleaa.Bd
open Go.ChangeShapes Go.WideShapes Go.ChangeAt Go.RowKit
set_option linter.unusedVariables false
set_option linter.unusedSimpArgs false
attribute [local go_sem] Oper.semAt_some

/-- The new numbers: of those that are marked. -/
def numL (size : Nat) (M : Nat → Bool) (m : Nat) : List Value := (List.range m).map (fun i => Value.int .i64 (if M i then ((size + rk M i : Nat) : Int) else -1))

/-- The first i new numbers, then marks. -/
def mixL (size : Nat) (M : Nat → Bool) (m i : Nat) : List Value := (List.range m).map (fun j => Value.int .i64 (if j < i then (if M j then ((size + rk M j : Nat) : Int) else -1) else (if M j then 0 else -1)))
theorem mixL_zero (size : Nat) (M : Nat → Bool) (m : Nat) : mixL size M m 0 = mkL M m := by unfold mixL mkL; simp
theorem mixL_all (size : Nat) (M : Nat → Bool) (m : Nat) : mixL size M m m = numL size M m := by
  unfold mixL numL
  refine List.map_congr_left (fun j hj => ?_)
  rw [if_pos (List.mem_range.mp hj)]
theorem mixL_at {size m i j : Nat} {M : Nat → Bool} (h : j < m) : (mixL size M m i)[j]? = some (.int .i64 (if j < i then (if M j then ((size + rk M j : Nat) : Int) else -1) else (if M j then 0 else -1))) := by
  unfold mixL; rw [List.getElem?_map, List.getElem?_range h]; rfl
theorem mixL_len {size m i : Nat} {M : Nat → Bool} : (mixL size M m i).length = m := by unfold mixL; simp
theorem mixL_set {size m i : Nat} {M : Nat → Bool} (h : i < m) (hm : M i = true) : (mixL size M m i).set i (.int .i64 ((size + rk M i : Nat) : Int)) = mixL size M m (i + 1) := by
  apply List.ext_getElem?
  intro j
  by_cases hj : j < m
  · have hq : (mixL size M m i)[j]? = _ := mixL_at hj
    rw [mixL_at hj, List.getElem?_set, hq, mixL_len]
    by_cases e : i = j
    · subst e
      rw [if_pos rfl, if_pos h, if_pos (by omega), hm]; rfl
    · rw [if_neg e]
      by_cases c : j < i
      · simp only [c, show j < i + 1 by omega, if_true]
      · simp only [c, show ¬ j < i + 1 by omega, if_false]
  · rw [List.getElem?_eq_none (by rw [List.length_set, mixL_len]; omega), List.getElem?_eq_none (by rw [mixL_len]; omega)]
theorem mixL_pass {size m i : Nat} {M : Nat → Bool} (hm : M i = false) : mixL size M m (i + 1) = mixL size M m i := by
  unfold mixL
  refine List.map_congr_left (fun j _ => ?_)
  by_cases e : j = i
  · subst e; simp [hm]
  · by_cases c : j < i
    · simp only [c, show j < i + 1 by omega, if_true]
    · simp only [c, show ¬ j < i + 1 by omega, if_false]
theorem rk_succ (M : Nat → Bool) (i : Nat) : rk M (i + 1) = rk M i + if M i then 1 else 0 := rfl
/-- Between two rounds: what lay lies as it lay, but the marks; these are as far as they should. -/
structure NI (w7 : World) (g size m : Nat) (F : List Nd) (M0 : Nat → Bool) (pre : List (Fin m)) (W : World) : Prop where
  size_ : w7.heap.size ≤ W.heap.size
  os : W.os = w7.os
  tape : W.tape = w7.tape
  output : W.output = w7.output
  keep : ∀ b, b < w7.heap.size → b ≠ g → W.heap[b]? = w7.heap[b]?
  row : ∃ Mk, W.heap[g]? = some (.cells (mkL Mk m).toArray 3 (0, 0)) ∧ (pre = upto m pre.length → marks size F (m - pre.length) Mk = marks size F m M0)
theorem NI.own {w7 : World} {g size m : Nat} {F : List Nd} {M0 : Nat → Bool} (hg : g < w7.heap.size) : OwnFrom w7.heap.size (NI w7 g size m F M0) := fun s W W' row h hgr hrow => by
  obtain ⟨Mk, h1, h2⟩ := h.row
  have hne : ∀ b, b < w7.heap.size → some b ≠ row := fun b hb e => by have := (hrow b e.symm).1; omega
  exact ⟨Nat.le_trans h.size_ hgr.size, hgr.os.trans h.os, hgr.tape.trans h.tape, hgr.output.trans h.output, fun b hb hbg => (hgr.block b (Nat.lt_of_lt_of_le hb h.size_) (hne b hb)).trans (h.keep b hb hbg), ⟨Mk, (hgr.block g (Nat.lt_of_lt_of_le hg h.size_) (hne g hg)).trans h1, h2⟩⟩
theorem NI.alloc {w7 : World} {g size m : Nat} {F : List Nd} {M0 : Nat → Bool} {pre : List (Fin m)} {W : World} (h : NI w7 g size m F M0 pre W) (hg : g < w7.heap.size) (o : Obj) : NI w7 g size m F M0 pre (W.alloc o) :=
  (NI.own hg).alloc o h
theorem kq_b {w7 : World} {n0 nb : Nat} (hn : n0 ≤ w7.heap.size) (W : World) (l : Nat) (o o' : Obj) (hl : w7.heap.size ≤ l) (h : W.heap[l]? = some o) (_ : o.isCells = false) (_ : o.isWalk = false) : Kq n0 nb W (W.putObj l o') :=
  ⟨(grownBy_putObj' W l o').size, fun g hg _ => (grownBy_putObj' W l o').block g (by have := (Array.getElem?_eq_some_iff.1 h).1; omega) (fun e => by cases e; omega)⟩
theorem kq_alloc {n0 nb : Nat} {W : World} (hn : n0 ≤ W.heap.size) (o : Obj) : Kq n0 nb W (W.alloc o) := ⟨by simp, fun g hg _ => Below.heap_alloc _ _ _ (by omega)⟩

set_option maxRecDepth 100000 in
set_option maxHeartbeats 4000000 in
theorem needed_any (P : Dp) (w : World) (fv : Value) (F : List Nd) (hD : Dr P w fv F) (x : Int) (hx : -1 ≤ x ∧ x < ((P.S ++ F).length : Int)) :
    Calls Try.prog 45 #[.pointer (some ⟨P.dd, 0, none⟩), .int .i64 x] w (fun e w' => ∃ g, e = .returned (.tuple #[.slice (some ⟨g, 0, none⟩) F.length F.length, .int .i64 (rk (marksOf P.S F x.toNat) F.length : Nat)]) ∧
      w'.heap[g]? = some (.cells (numL P.S.length (marksOf P.S F x.toNat) F.length).toArray 3 (0, 0)) ∧ w.heap.size ≤ g ∧ Below w.heap.size w w') := by
  obtain ⟨hx1, hx2⟩ := hx
  rw [List.length_append] at hx2
  have HD := Lib.hid hD
  obtain ⟨size, hsize⟩ : ∃ n, P.S.length = n := ⟨_, rfl⟩
  obtain ⟨m, hm⟩ : ∃ n, F.length = n := ⟨_, rfl⟩
  obtain ⟨A, cS, hS⟩ := row_form hD.stv.row
  obtain ⟨AF, cF, hF⟩ := row_form hD.row
  have hroom := hD.room
  have hsz1 : size ≤ 10000 := by have := hD.st.hlen; have := hD.st.hbud; omega
  rw [hsize] at hx2 hS hroom
  rw [hm] at hx2 hF hroom
  rw [hsize, hm]
  have HSZ := Lib.hid hsize
  have HM := Lib.hid hm
  have HFV := Lib.hid hF
  -- the worlds ahead of the call of need
  obtain ⟨w1, hw1⟩ : ∃ W, w.alloc (.cells #[.int .i64 (size : Int)] 3) = W := ⟨_, rfl⟩
  obtain ⟨a1, -, -, b1, s1⟩ := one_new _ _ _ _ hw1
  obtain ⟨w2, hw2⟩ : ∃ W, w1.alloc (.cells #[.int .i64 (-1)] 3) = W := ⟨_, rfl⟩
  obtain ⟨a2, -, -, b2, s2⟩ := one_new _ _ _ _ hw2
  have hD1 := hD.kept b1
  obtain ⟨⟨d0, d1, d2, d3⟩, e0, e1, e2, e3⟩ := hD.ats
  have d0' : w2.cell? ⟨P.dd, 0, none⟩ = some (.pointer (some ⟨P.b, 0, none⟩)) := (hD1.kept b2).ats.1.1
  have d1' : w2.cell? ⟨P.dd, 1, none⟩ = some fv := (hD1.kept b2).ats.1.2.1
  rw [hS] at e2
  rw [hF] at d1'
  have HREP := Lib.hid (rep_any w2 w1.heap.size m (-1) a2 (by omega))
  rw [s1] at HREP
  have HA1 : Hid (w2.heap[w.heap.size]? = some (.cells #[.int .i64 (size : Int)] 3 (0, 0))) := Lib.hid ((b2.block _ (by omega)).trans a1)
  have HB02 : Hid (Below w.heap.size w w2) := Lib.hid (b1.trans (b2.mono b1.size))
  have S2 : Hid (w2.heap.size = w.heap.size + 2) := Lib.hid (by omega)
  rw [← hw1] at hw2
  clear hD hsize hm hS hF a1 b1 s1 a2 b2 s2 hD1 hw1
  refine (callsIn_wide (n := 10)).1 ?_
  refine callsIn_of_wp_marks Try.func45 rfl trivial ?_ rfl
  simp only [Try.ntmps45, List.size_toArray, List.length_cons, List.length_nil, Nat.reduceAdd, Nat.reduceSub, Array.replicate_succ, Array.replicate_zero, List.push_toArray, List.append_toArray, List.nil_append, List.cons_append]
  gi_wp2_with fail
  refine ⟨trivial, ?_⟩
  refine (callsIn_wide.2 HREP.out).mono ?_
  rintro e w3 ⟨rfl, hrow, hb3⟩
  have hz3 := hb3.size
  have hz2 := S2.out
  have hr3 := block_lt hrow
  obtain ⟨w4, hw4⟩ : ∃ W, w3.alloc (.cells #[.slice (some ⟨w2.heap.size, 0, none⟩) m m] 78) = W := ⟨_, rfl⟩
  obtain ⟨a4, -, -, b4, s4⟩ := one_new _ _ _ _ hw4
  obtain ⟨w5n, hw5n⟩ : ∃ W, w4.alloc (.cells #[.nilFunc] 100) = W := ⟨_, rfl⟩
  obtain ⟨a5n, x5n, y5n, b5n, s5n⟩ := one_new _ _ _ _ hw5n
  obtain ⟨w5, hw5⟩ : ∃ W, w5n.setCell ⟨w4.heap.size, 0, none⟩ (.func (.func 56) #[] #[.pointer (some ⟨w.heap.size, 0, none⟩), .pointer (some ⟨w3.heap.size, 0, none⟩)]) = W := ⟨_, rfl⟩
  have a5 := one_set (u := .func (.func 56) #[] #[.pointer (some ⟨w.heap.size, 0, none⟩), .pointer (some ⟨w3.heap.size, 0, none⟩)]) a5n
  rw [hw5] at a5
  have b5 : Below w4.heap.size w4 w5 := by rw [← hw5]; exact b5n.setCell (Nat.le_refl _) _
  have s5 : w5.heap.size = w3.heap.size + 2 := by rw [← hw5]; simp [World.setCell]; omega
  have HW1 : Hid (w5.heap[w.heap.size]? = some (.cells #[.int .i64 (size : Int)] 3 (0, 0))) := Lib.hid (by
    rw [b5.block _ (by omega), b4.block _ (by omega), hb3.block _ (by omega)]; exact HA1.out)
  have HB5 : Hid (Below w.heap.size w w5) := Lib.hid (HB02.out.trans ((hb3.trans ((b4.trans (b5.mono b4.size)).mono hz3)).mono (by omega)))
  have HNEED : Hid (NeedAt w5 w.heap.size w3.heap.size w2.heap.size size m (fun _ => false)) := Lib.hid ⟨HW1.out, (b5.block _ (by omega)).trans a4, by
    rw [b5.block _ (by omega), b4.block _ (by omega), mkL_none]; exact hrow, by omega, by omega⟩
  have HA5 : Hid (w5.heap[w3.heap.size + 1]? = some (.cells #[.func (.func 56) #[] #[.pointer (some ⟨w.heap.size, 0, none⟩), .pointer (some ⟨w3.heap.size, 0, none⟩)]] 100 (0, 0))) := Lib.hid (by rw [s4] at a5; exact a5)
  have c5 : w5.cell? ⟨w4.heap.size, 0, none⟩ = some (.func (.func 56) #[] #[.pointer (some ⟨w.heap.size, 0, none⟩), .pointer (some ⟨w3.heap.size, 0, none⟩)]) := by unfold World.cell?; rw [a5]; rfl
  have hcall := need_any w5 w.heap.size w3.heap.size w2.heap.size size m (fun _ => false) HNEED.out x (by omega) hx1 hsz1 (by omega)
  have HCALL := Lib.hid hcall
  have S5 := Lib.hid s5
  have S4 := Lib.hid s4
  have HZ3 := Lib.hid hz3
  have HW5 := Lib.hid hw5
  rw [s4] at c5 x5n y5n HW5
  rw [← hw4] at hw5n
  clear hrow hb3 hz3 hz2 hr3 a4 b4 s4 a5 b5 s5 hcall a5n b5n s5n hw5 hw4
  gi_wp2_with fail
  rw [HW5.out]
  refine ⟨trivial, ?_⟩
  refine (callsIn_wide.2 HCALL.out).mono ?_
  rintro e w6 ⟨rfl, hneed, hw6⟩
  obtain ⟨M0, hM0⟩ : ∃ M, mark size x.toNat (fun _ => false) = M := ⟨_, rfl⟩
  have hM1 : (if (size : Int) ≤ x then mark size x.toNat (fun _ => false) else (fun _ => false)) = M0 := by
    split
    · exact hM0
    · rw [← hM0, mark_less]
      have := HD.out.st.good.two
      have := HSZ.out
      omega
  rw [hM1] at hneed
  have HNEED6 := Lib.hid hneed
  have HM0 := Lib.hid hM0
  have hsize6 : w6.heap.size = w5.heap.size := by
    rcases hw6 with e | ⟨k, u, e⟩
    · rw [e]
    · rw [e]; simp [World.setCell]
  have HK6 : Hid (∀ g, g ≠ w2.heap.size → w6.heap[g]? = w5.heap[g]?) := Lib.hid (fun g hg => by
    rcases hw6 with e | ⟨k, u, e⟩
    · rw [e]
    · rw [e]; exact Below.heap_setCell _ _ _ _ hg)
  have HB6 : Hid (Below w.heap.size w w6) := Lib.hid (by
    rcases hw6 with e | ⟨k, u, e⟩
    · rw [e]; exact HB5.out
    · rw [e]; exact HB5.out.setCell (by show _ ≤ w2.heap.size; have := S2.out; omega) _)
  have hD6 := HD.out.kept HB6.out
  have HD6 := Lib.hid hD6
  obtain ⟨⟨f0, f1, f2, f3⟩, g0, g1, g2, g3⟩ := hD6.ats
  rw [HFV.out] at f1
  have HBK := Lib.hid (back_any w6 AF m cF)
  have S6 : Hid (w6.heap.size = w3.heap.size + 2) := Lib.hid (by have := S5.out; omega)
  clear hneed hw6 hM0 hM1 hD6 d0 d1 d2 d3 e0 e1 e2 e3 d0' d1' hsize6
  gi_wp2_with fail
  refine ⟨trivial, ?_⟩
  refine (callsIn_wide.2 HBK.out).mono ?_
  rintro e w7 ⟨rfl, hw7⟩
  obtain ⟨a7, x7, y7, b7, s7⟩ := one_new _ _ _ _ hw7.symm
  have HW7 := Lib.hid hw7
  have HB7 := Lib.hid b7
  have S7 := Lib.hid s7
  have HA7 := Lib.hid a7
  clear hw7 a7 x7 y7 b7 s7
  gi_wp2_with fail
  -- where the fresh nodes lie
  have hGF : ∃ gF, (0 < m → AF = some ⟨gF, 0, none⟩) ∧ gF < w7.heap.size ∧ gF ≠ w2.heap.size ∧ ∀ (j t lo hi : Nat), F[j]? = some (t, lo, hi) → w7.cell? ⟨gF, j * 3, none⟩ = some (.int .i64 (t : Int)) ∧ w7.cell? ⟨gF, j * 3 + 1, none⟩ = some (.int .i64 (lo : Int)) ∧ w7.cell? ⟨gF, j * 3 + 2, none⟩ = some (.int .i64 (hi : Int)) := by
    have hs7 := S7.out
    have hs6 := S6.out
    have hz3 := HZ3.out
    have hz2 := S2.out
    by_cases hm0 : 0 < m
    · have hrow := HD.out.row
      obtain ⟨gF, cap, e, h1, h2⟩ := hrow.form (by rw [HM.out]; exact hm0)
      rw [HFV.out, HM.out] at e
      have e1 : AF = some ⟨gF, 0, none⟩ := by injection e
      refine ⟨gF, fun _ => e1, by omega, by omega, fun j t lo hi hj => ?_⟩
      obtain ⟨g', cap', e', c0, c1, c2⟩ := row_at (HD6.out.kept HB7.out).row hj
      rw [HFV.out, HM.out] at e'
      have e2 : AF = some ⟨g', 0, none⟩ := by injection e'
      rw [e1] at e2
      injection e2 with e2
      injection e2 with e2
      subst e2
      exact ⟨c0, c1, c2⟩
    · refine ⟨w.heap.size, fun h => absurd h hm0, by omega, by omega, fun j t lo hi hj => ?_⟩
      have := lt_of hj
      have := HM.out
      omega
  obtain ⟨gF, hA, hgF1, hgF2, hgF3⟩ := hGF
  have hGlt : w2.heap.size < w7.heap.size := by have := S7.out; have := S6.out; have := HZ3.out; omega
  have hN7 : NI w7 w2.heap.size size m F M0 [] w7 := ⟨Nat.le_refl _, rfl, rfl, rfl, fun _ _ _ => rfl, ⟨M0, (HB7.out.block _ (by have := S7.out; have := S6.out; have := HZ3.out; omega)).trans HNEED6.out.row, fun _ => rfl⟩⟩
  refine wpIn_rangeFunc_ownH (F := Fence.wide) rfl (by omega) (gf := 65) (lb := #[.pointer (some ⟨w6.heap.size, 0, none⟩)]) rfl trivial (enters_of Try.func65 (by kernel_rfl) rfl)
    (back_stops Fence.wide 9 trivial rfl (by omega) w6.heap.size w7.heap.size w2.heap.size gF cF m AF hA F HM.out (by omega) hgF1 hgF2 (by have := S7.out; omega) (by have := S6.out; have := HZ3.out; omega) w7 (Nat.le_refl _) (by unfold World.cell?; rw [HA7.out]; rfl) hgF3)
    Kq.trans (kq_b (Nat.le_refl _)) (Below.refl _ _) (fun _ => rfl)
    (NI w7 w2.heap.size size m F M0) (fun _ _ _ => False) (NI.own hGlt) (fun _ _ _ _ _ h _ _ => h) hN7
    (fun k a' W => ∃ Bx, w7.heap.size ≤ Bx ∧ W.heap[Bx]? = some (.cells #[.int .i64 ((backAt F k.1).2.1 : Int), .int .i64 ((backAt F k.1).2.2.1 : Int), .int .i64 ((backAt F k.1).2.2.2 : Int)] 59 (0, 0)) ∧ a' = { tmps := #[.pointer (some ⟨P.dd, 0, none⟩), .int .i64 x, undef, undef, .slice none 0 0, .int .i64 0, .pointer (some ⟨w.heap.size, 0, none⟩), .pointer (some ⟨w3.heap.size, 0, none⟩), .pointer (some ⟨(w3.heap.size + 1), 0, none⟩), .int .i64 (((backAt F k.1).1 : Nat) : Int), .pointer (some ⟨Bx, 0, none⟩), undef, undef, undef, .pointer (some ⟨P.dd, 0, none⟩), .pointer (some ⟨P.dd, 0, none⟩), .pointer (some ⟨P.dd, 0, none⟩), .pointer (some ⟨P.b, 0, none⟩), .pointer (some ⟨P.b, 0, none⟩), .pointer (some ⟨P.b, 2, none⟩), .slice A size cS, .int .i64 (size : Int), .slice (some ⟨w.heap.size + 1, 0, none⟩) 1 1, .pointer (some ⟨P.dd, 0, none⟩), .pointer (some ⟨P.dd, 0, none⟩), .pointer (some ⟨P.dd, 1, none⟩), .slice AF m cF, .int .i64 (m : Int), .slice (some ⟨w2.heap.size, 0, none⟩) m m, .func (.func 56) #[] #[.pointer (some ⟨w.heap.size, 0, none⟩), .pointer (some ⟨w3.heap.size, 0, none⟩)], .func (.func 56) #[] #[.pointer (some ⟨w.heap.size, 0, none⟩), .pointer (some ⟨w3.heap.size, 0, none⟩)], .int .i64 x, .tuple #[], .pointer (some ⟨P.dd, 0, none⟩), .pointer (some ⟨P.dd, 0, none⟩), .pointer (some ⟨P.dd, 1, none⟩), .slice AF m cF, .func (.func 65) #[] #[.pointer (some ⟨w6.heap.size, 0, none⟩)], .int .i64 (((backAt F k.1).1 : Nat) : Int), .agg #[.int .i64 ((backAt F k.1).2.1 : Int), .int .i64 ((backAt F k.1).2.2.1 : Int), .int .i64 ((backAt F k.1).2.2.2 : Int)], undef, undef, undef, undef, undef, undef, undef, undef, undef, undef, undef, undef, undef, undef, undef, undef, undef, undef, undef, undef, undef, undef, undef, undef, undef, undef, undef, undef, undef, undef, undef, undef, undef], defers := [] })
    ?hAx ?assign ?body ?done ?stop
  case hAx =>
    rintro k a' s W W' row ⟨Bx, h1, h2, h3⟩ hgr hrow
    refine ⟨Bx, h1, ?_, h3⟩
    rw [hgr.block Bx (block_lt h2) (fun e => by
      obtain ⟨_, o, ho, hc⟩ := hrow Bx e.symm
      rw [h2] at ho
      injection ho with ho
      rw [← ho] at hc
      cases hc)]
    exact h2
  case stop =>
    rintro D c pre W _ _ h _
    exact h.elim
  case assign =>
    intro l pre k W K hI hK
    have hszW := hI.size_
    have HI := Lib.hid hI
    have HK := Lib.hid hK
    clear hI hK
    simp only [encB]
    gi_wp2
    refine HK.out _ _ ((KeepsOthers.alloc _ _).from _) (kq_alloc hszW _) (HI.out.alloc hGlt _) ⟨W.heap.size, hszW, heap_alloc_new _ _, rfl⟩
  case body =>
    rintro l pre k a' W hl - hI ⟨Bx, hBx, hnode, rfl⟩ hlen
    obtain ⟨i, t, lo, hi, hbk, hik, hnd⟩ : ∃ i t lo hi, backAt F k.1 = (i, (t, lo, hi)) ∧ i = m - 1 - k.1 ∧ F[i]? = some (t, lo, hi) := by
      have hkm := k.2
      obtain ⟨t, lo, hi, hat⟩ := at_of (show F.length - 1 - k.1 < F.length by rw [HM.out]; omega)
      refine ⟨m - 1 - k.1, t, lo, hi, ?_, rfl, by rw [HM.out] at hat; exact hat⟩
      unfold backAt; rw [hat, HM.out]; rfl
    rw [hbk] at hnode ⊢
    dsimp only at hnode ⊢
    have him : i < m := by have := k.2; omega
    have hbeh : lo < size + i ∧ hi < size + i := by
      have := behind_of HD.out.good HD.out.st.good.two i t lo hi hnd
      rw [HSZ.out] at this; exact this
    have hs7 := S7.out
    have hs6 := S6.out
    have hz3 := HZ3.out
    have hz2 := S2.out
    obtain ⟨Mk, hrow, hmk⟩ := hI.row
    have e7 : ∀ b, b < w6.heap.size → b ≠ w2.heap.size → W.heap[b]? = w6.heap[b]? := fun b h1 h2 => (hI.keep b (by omega) h2).trans (HB7.out.block b h1)
    have hNW : NeedAt W w.heap.size w3.heap.size w2.heap.size size m Mk := ⟨(e7 _ (by omega) (by omega)).trans HNEED6.out.a0, (e7 _ (by omega) (fun e => HNEED6.out.ne.2 e.symm)).trans HNEED6.out.n0, hrow, HNEED6.out.ne⟩
    have hfn : W.heap[w3.heap.size + 1]? = some (.cells #[.func (.func 56) #[] #[.pointer (some ⟨w.heap.size, 0, none⟩), .pointer (some ⟨w3.heap.size, 0, none⟩)]] 100 (0, 0)) := by
      rw [e7 _ (by omega) (by omega), HK6.out _ (by omega)]; exact HA5.out
    have cfn : W.cell? ⟨w3.heap.size + 1, 0, none⟩ = some (.func (.func 56) #[] #[.pointer (some ⟨w.heap.size, 0, none⟩), .pointer (some ⟨w3.heap.size, 0, none⟩)]) := by unfold World.cell?; rw [hfn]; rfl
    obtain ⟨y0, y1, y2, -⟩ := hNW.ats
    have y2i := y2 i him
    have n0 : W.cell? ⟨Bx, 0, none⟩ = some (.int .i64 (t : Int)) := by unfold World.cell?; rw [hnode]; rfl
    have n1 : W.cell? ⟨Bx, 1, none⟩ = some (.int .i64 (lo : Int)) := by unfold World.cell?; rw [hnode]; rfl
    have n2 : W.cell? ⟨Bx, 2, none⟩ = some (.int .i64 (hi : Int)) := by unfold World.cell?; rw [hnode]; rfl
    have HEND : Hid (∀ W2, (∃ Mk2, W2.heap[w2.heap.size]? = some (.cells (mkL Mk2 m).toArray 3 (0, 0)) ∧ Mk2 = markStep size F i Mk) → W.heap.size ≤ W2.heap.size → W2.os = W.os → W2.tape = W.tape → W2.output = W.output → (∀ b, b < W.heap.size → b ≠ w2.heap.size → W2.heap[b]? = W.heap[b]?) →
        KeepsFrom w7.heap.size W W2 ∧ Kq w7.heap.size w2.heap.size W W2 ∧ NI w7 w2.heap.size size m F M0 (pre ++ [k]) W2) := Lib.hid (fun W2 ⟨Mk2, g1, g2⟩ g3 g4 g5 g6 g7 => by
      refine ⟨⟨g3, fun b o hb ho hc => ?_⟩, ⟨g3, fun b hb hn => g7 b (by have := hI.size_; omega) hn⟩, ⟨Nat.le_trans hI.size_ g3, g4.trans hI.os, g5.trans hI.tape, g6.trans hI.output, fun b hb hn => (g7 b (by have := hI.size_; omega) hn).trans (hI.keep b hb hn), ⟨Mk2, g1, fun hp => ?_⟩⟩⟩
      · rw [g7 b (block_lt ho) (by omega)]; exact ho
      · rw [List.length_append, List.length_singleton] at hp ⊢
        rw [upto_succ hlen] at hp
        obtain ⟨e1, e2⟩ := List.append_inj' hp rfl
        have e3 : k = ⟨pre.length, hlen⟩ := by simpa using e2
        have e4 : k.1 = pre.length := by rw [e3]
        rw [← hmk e1, g2]
        have e5 : m - pre.length = i + 1 := by have := k.2; omega
        rw [e5, show m - (pre.length + 1) = i from by omega]
        rfl)
    have hstep : markStep size F i Mk = if Mk i then mark size hi (mark size lo Mk) else Mk := by unfold markStep; rw [hnd]
    have HSTEP := Lib.hid hstep
    cases hmi : Mk i with
    | false =>
      have HE := Lib.hid (HEND.out W ⟨Mk, hrow, by rw [HSTEP.out, hmi]; rfl⟩ (Nat.le_refl _) rfl rfl rfl (fun _ _ _ => rfl))
      have y2f : W.cell? ⟨w2.heap.size, i, none⟩ = some (.int .i64 (-1)) := by rw [y2i, hmi]; rfl
      clear hbk hik hnd hI hmk e7 hNW hfn hstep y2 y2i hmi hrow hnode hbeh hs7 hs6 hz2 hz3
      gi_wp2
      exact HE.out
    | true =>
      have y2f : W.cell? ⟨w2.heap.size, i, none⟩ = some (.int .i64 0) := by rw [y2i, hmi]; rfl
      have hc1 := need_any W w.heap.size w3.heap.size w2.heap.size size m Mk hNW (lo : Int) (by omega) (by omega) hsz1 (by omega)
      have HC1 := Lib.hid hc1
      have HFN := Lib.hid hfn
      have HNODE := Lib.hid hnode
      have HBEH := Lib.hid hbeh
      have HMI := Lib.hid hmi
      have hBG : Bx ≠ w2.heap.size := by omega
      clear hbk hik hnd hI hmk e7 hNW hfn hstep y2 y2i hmi hrow hnode hbeh hc1 hs7 hs6 hz2 hz3
      have hmk : ∀ (Mq : Nat → Bool) (y : Nat), (if (size : Int) ≤ (y : Int) then mark size (y : Int).toNat Mq else Mq) = mark size y Mq := fun Mq y => by
        split
        · rw [Int.toNat_natCast]
        · rw [mark_less (by omega)]
      have HMK := Lib.hid hmk
      clear hmk
      gi_wp2
      refine ⟨trivial, ?_⟩
      refine (CallsIn.inRound l (callsIn_wide.2 HC1.out)).mono ?_
      rintro e W1 ⟨rfl, hN1, hW1⟩
      rw [HMK.out] at hN1
      have hc2 := need_any W1 w.heap.size w3.heap.size w2.heap.size size m (mark size lo Mk) hN1 (hi : Int) (by have := HBEH.out; omega) (by omega) hsz1 (by omega)
      have HC2 := Lib.hid hc2
      have HN1 := Lib.hid hN1
      have HW1 : Hid (W.heap.size ≤ W1.heap.size ∧ W1.os = W.os ∧ W1.tape = W.tape ∧ W1.output = W.output ∧ ∀ b, b ≠ w2.heap.size → W1.heap[b]? = W.heap[b]?) := Lib.hid (by
        rcases hW1 with e | ⟨q, u, e⟩
        · rw [e]; exact ⟨Nat.le_refl _, rfl, rfl, rfl, fun _ _ => rfl⟩
        · rw [e]; exact ⟨by simp [World.setCell], rfl, rfl, rfl, fun b hb => Below.heap_setCell _ _ _ _ hb⟩)
      have k2 : W1.cell? ⟨Bx, 2, none⟩ = some (.int .i64 (hi : Int)) := by unfold World.cell?; rw [HW1.out.2.2.2.2 _ hBG, HNODE.out]; rfl
      have k3 : W1.cell? ⟨w3.heap.size + 1, 0, none⟩ = some (.func (.func 56) #[] #[.pointer (some ⟨w.heap.size, 0, none⟩), .pointer (some ⟨w3.heap.size, 0, none⟩)]) := by
        unfold World.cell?; rw [HW1.out.2.2.2.2 _ (show w3.heap.size + 1 ≠ w2.heap.size by have := HZ3.out; omega), HFN.out]; rfl
      clear hN1 hW1 hc2
      gi_wp2
      refine ⟨trivial, ?_⟩
      refine (CallsIn.inRound l (callsIn_wide.2 HC2.out)).mono ?_
      rintro e W2 ⟨rfl, hN2, hW2⟩
      rw [HMK.out] at hN2
      have HE := Lib.hid (HEND.out W2 ⟨_, hN2.row, by rw [HSTEP.out, HMI.out]; rfl⟩ (by
        rcases hW2 with e | ⟨q, u, e⟩
        · rw [e]; exact HW1.out.1
        · rw [e]; have := HW1.out.1; simp [World.setCell]; omega) (by
        rcases hW2 with e | ⟨q, u, e⟩
        · rw [e]; exact HW1.out.2.1
        · rw [e]; exact HW1.out.2.1) (by
        rcases hW2 with e | ⟨q, u, e⟩
        · rw [e]; exact HW1.out.2.2.1
        · rw [e]; exact HW1.out.2.2.1) (by
        rcases hW2 with e | ⟨q, u, e⟩
        · rw [e]; exact HW1.out.2.2.2.1
        · rw [e]; exact HW1.out.2.2.2.1) (fun b _ hb => by
        rcases hW2 with e | ⟨q, u, e⟩
        · rw [e]; exact HW1.out.2.2.2.2 b hb
        · rw [e, Below.heap_setCell _ _ _ _ hb]; exact HW1.out.2.2.2.2 b hb))
      clear hN2 hW2
      gi_wp2
      exact HE.out
  case done =>
    rintro D ys W hD rfl hI hK
    obtain ⟨Mf, hrow, hmk⟩ := hI.row
    have hMf : Mf = marksOf P.S F x.toNat := by
      have h1 := hmk (by rw [List.length_finRange, upto_all])
      rw [List.length_finRange, Nat.sub_self] at h1
      show marks size F 0 Mf = _
      rw [h1, ← HM0.out]
      unfold marksOf
      rw [HSZ.out, HM.out]
    have HMF := Lib.hid hMf
    have hs7 := S7.out
    have hs6 := S6.out
    have hz3 := HZ3.out
    have hz2 := S2.out
    have e7 : ∀ b, b < w6.heap.size → b ≠ w2.heap.size → W.heap[b]? = w6.heap[b]? := fun b h1 h2 => (hI.keep b (by omega) h2).trans (HB7.out.block b h1)
    have ha0 : W.heap[w.heap.size]? = some (.cells #[.int .i64 (size : Int)] 3 (0, 0)) := (e7 _ (by omega) (by omega)).trans HNEED6.out.a0
    have hn0 : W.heap[w3.heap.size]? = some (.cells #[.slice (some ⟨w2.heap.size, 0, none⟩) m m] 78 (0, 0)) := (e7 _ (by omega) (fun e => HNEED6.out.ne.2 e.symm)).trans HNEED6.out.n0
    have HA0 := Lib.hid ha0
    have HN0 := Lib.hid hn0
    have HKK := Lib.hid hK
    have HIB : Hid (Below w.heap.size w W) := Lib.hid (HB6.out.trans ⟨hI.os.trans (HB7.out.os), hI.tape.trans HB7.out.tape, hI.output.trans HB7.out.output, by have := hI.size_; omega, fun b hb => e7 b (by omega) (by omega)⟩)
    have HROW := Lib.hid hrow
    have hDW := block_lt hK
    have hGD : w2.heap.size ≠ D := by omega
    have hSWD : w7.heap.size ≤ W.heap.size := hI.size_
    have hGW : w.heap.size ≤ w2.heap.size := by omega
    have hGN : w.heap.size ≠ w2.heap.size ∧ w3.heap.size ≠ w2.heap.size := ⟨by omega, fun e => HNEED6.out.ne.2 e.symm⟩
    have HGN := Lib.hid hGN
    have c53 : W.cell? ⟨w3.heap.size, 0, none⟩ = some (.slice (some ⟨w2.heap.size, 0, none⟩) m m) := by unfold World.cell?; rw [hn0]; rfl
    clear hMf hmk hrow hI hK e7 ha0 hn0 hs7 hs6 hz3 hz2 hGN HM0
    gi_wp2
    gi_loopw [11, 55] (fun cv iv wr => ∃ i : Nat, i ≤ m ∧ iv = .int .i64 (i : Int) ∧ cv = .int .i64 (rk Mf i : Nat) ∧ wr.heap[w2.heap.size]? = some (.cells (mixL size Mf m i).toArray 3 (0, 0)) ∧ Below w.heap.size w wr ∧ ∀ b, b ≠ w2.heap.size → wr.heap[b]? = W.heap[b]?) (fun _ iv _ => m - (intOf iv).toNat)
    case atStart => exact ⟨0, Nat.zero_le _, rfl, rfl, by rw [mixL_zero]; exact HROW.out, HIB.out, fun _ _ => rfl⟩
    case round =>
      obtain ⟨i, hi, rfl, rfl, hrow, hb, hk⟩ := hrel
      have HR := Lib.hid hrow
      have HB := Lib.hid hb
      have HK := Lib.hid hk
      have q0 : wr.cell? ⟨w.heap.size, 0, none⟩ = some (.int .i64 (size : Int)) := by unfold World.cell?; rw [hk _ HGN.out.1, HA0.out]; rfl
      have q1 : wr.cell? ⟨w3.heap.size, 0, none⟩ = some (.slice (some ⟨w2.heap.size, 0, none⟩) m m) := by unfold World.cell?; rw [hk _ HGN.out.2, HN0.out]; rfl
      have qf : wr.frozen? ⟨w2.heap.size, i, none⟩ = false := by unfold World.frozen?; rw [hrow]; rfl
      have hrk := rk_le Mf i
      by_cases hlt : i < m
      · have qi : wr.cell? ⟨w2.heap.size, i, none⟩ = some (.int .i64 (if Mf i then 0 else -1)) := by
          unfold World.cell?
          rw [hrow]
          show (mixL size Mf m i).toArray[i]? = _
          rw [List.getElem?_toArray, mixL_at hlt, if_neg (Nat.lt_irrefl i)]
        cases hmi : Mf i with
        | false =>
          have qj : wr.cell? ⟨w2.heap.size, i, none⟩ = some (.int .i64 (-1)) := by rw [qi, hmi]; rfl
          have HE1 : Hid (rk Mf (i + 1) = rk Mf i) := Lib.hid (by rw [rk_succ, hmi]; rfl)
          have HE2 : Hid (mixL size Mf m (i + 1) = mixL size Mf m i) := Lib.hid (mixL_pass hmi)
          obtain ⟨c, hc⟩ : ∃ c, rk Mf i = c := ⟨_, rfl⟩
          have HC := Lib.hid hc
          rw [hc]
          clear qi hrow hb hk hmi hrk hc
          gi_wp2
          go_roundw
          case rel => exact ⟨i + 1, by omega, by go_num, by rw [HE1.out, HC.out], by rw [HE2.out]; exact HR.out, HB.out, HK.out⟩
          case measure => simp [intOf]; omega
        | true =>
          have qj : wr.cell? ⟨w2.heap.size, i, none⟩ = some (.int .i64 0) := by rw [qi, hmi]; rfl
          have HE1 : Hid (rk Mf (i + 1) = rk Mf i + 1) := Lib.hid (by rw [rk_succ, hmi]; rfl)
          obtain ⟨c, hc⟩ : ∃ c, rk Mf i = c := ⟨_, rfl⟩
          have HC := Lib.hid hc
          rw [hc] at hrk ⊢
          have HE2 : Hid ((wr.setCell ⟨w2.heap.size, i, none⟩ (.int .i64 ((size : Int) + (c : Int)))).heap[w2.heap.size]? = some (.cells (mixL size Mf m (i + 1)).toArray 3 (0, 0))) := Lib.hid (by
            have h1 := row_set (k := i) (u := .int .i64 ((size : Int) + (c : Int))) hrow
            have h2 := mixL_set (size := size) hlt hmi
            rw [hc] at h2
            rw [h1, ← h2]
            rfl)
          have HE3 : Hid (Below w.heap.size w (wr.setCell ⟨w2.heap.size, i, none⟩ (.int .i64 ((size : Int) + (c : Int)))) ∧ ∀ b, b ≠ w2.heap.size → (wr.setCell ⟨w2.heap.size, i, none⟩ (.int .i64 ((size : Int) + (c : Int)))).heap[b]? = W.heap[b]?) := Lib.hid ⟨hb.setCell hGW _, fun b hbb => (Below.heap_setCell _ _ _ _ hbb).trans (hk b hbb)⟩
          clear qi hrow hb hk hmi hc
          gi_wp2
          go_roundw
          case rel => exact ⟨i + 1, by omega, by go_num, by rw [HE1.out, HC.out]; go_num, HE2.out, HE3.out.1, HE3.out.2⟩
          case measure => simp [intOf]; omega
      · obtain rfl : i = m := by omega
        obtain ⟨c, hc⟩ : ∃ c, rk Mf i = c := ⟨_, rfl⟩
        rw [hc]
        have HC := Lib.hid hc
        have hKr : wr.heap[D]? = some (.deferred (some [])) := (hk D (fun e => hGD e.symm)).trans HKK.out
        clear hrow hb hk hrk hc
        gi_wp2
        refine ⟨by simp, .inl ⟨_, _, rfl, run_takeDeferred hKr, ?_⟩⟩
        refine ⟨.tuple #[.slice (some ⟨w2.heap.size, 0, none⟩) i i, .int .i64 (c : Int)], ?_, w2.heap.size, by rw [← HMF.out, HC.out], ?_, hGW, HB.out.trans (belowK_b (w := w) (Nat.le_refl _) wr D _ _ (by omega) hKr rfl rfl)⟩
        · simp [results, Try.results45, go_sem]
        · rw [World.putObj_heap_other hGD, ← HMF.out, HR.out, mixL_all]
end Go.Proofs.Ytfohjlepknnleaa.Bd
