/- ExprBehind's walk: what stands behind an expression is not read, if it cannot go on with it. Conditions: none. -/
import Derived.Test.YtgohhnbdicdenaaDoorPk30
import Derived.BigRegion
import Derived.OwnWalk
import Derived.Deep.RegionHeld3
import Derived.Deep.AppendLies
import Derived.Laws.OwnMore
namespace Go.Proofs.YtgohhnbdicdenaaDoor.exprBehind
open Go.ChangeShapes Go.WideShapes Go.ChangeAt Go.RowKit
open Go.Proofs.YtgohhnbdicdenaaDoor.Ex
open Go.Proofs.YtgohhnbdicdenaaDoor.Tr (str ret_bool ret_int Bytes Nd Nodes mayB rmay_lit may_yes)
set_option linter.unusedVariables false
set_option linter.unusedSimpArgs false
def kindM (T : Bytes) : Int := if Lx.wordB T then 3 else 4
theorem kind_any (T : Bytes) (w : World) : Calls Tryd.prog 17 #[.string (str T)] w fun e w' => e = .returned (.int .i64 (kindM T)) ∧ Below w.heap.size w w' := by
  obtain ⟨B, hB⟩ : ∃ B, Lx.wordB T = B := ⟨_, rfl⟩
  have HC := Lx.refIsWord_any (str T) w
  rw [Tr.str_toList, hB] at HC
  have HCH := Lib.hid HC
  unfold kindM
  rw [hB]
  clear HC hB
  cases B
  all_goals
    go_enter Tryd.func17, Tryd.ntmps17
    go_wp2_with fail
    refine HCH.out.mono ?_
    rintro e w1 ⟨rfl, hb⟩
    go_wp2
    go_ret
    exact ⟨rfl, hb⟩
def endT : Nat → Bytes
  | 0 => [59]
  | 1 => [41]
  | 2 => [116, 104, 101, 110]
  | 3 => [116, 101, 108]
  | _ => [44]
theorem end_stop (j : Nat) : stopB (endT j) = true := by
  match j with
  | 0 => decide
  | 1 => decide
  | 2 => decide
  | 3 => decide
  | _ + 4 => exact (show stopB ([44] : Bytes) = true from by decide)
theorem end_good (j : Nat) : Lx.Good (kindM (endT j)) (endT j) := by
  match j with
  | 0 => exact .inr (.inr ⟨by decide, by decide⟩)
  | 1 => exact .inr (.inr ⟨by decide, by decide⟩)
  | 2 => exact .inr (.inl ⟨by decide, by decide, by decide, by decide⟩)
  | 3 => exact .inr (.inl ⟨by decide, by decide, by decide, by decide⟩)
  | _ + 4 => exact (show Lx.Good (kindM [44]) [44] from .inr (.inr ⟨by decide, by decide⟩))
theorem end_len (j : Nat) : (endT j).length ≤ 100 := by
  match j with
  | 0 => decide
  | 1 => decide
  | 2 => decide
  | 3 => decide
  | _ + 4 => exact (show ([44] : Bytes).length ≤ 100 from by decide)
theorem cells_len (l : List Ex.Tok) : (Lx.cellsOf l).length = l.length * 3 := by
  induction l with
  | nil => rfl
  | cons a r ih => show ([_, _, _] ++ Lx.cellsOf r).length = _; rw [List.length_append, ih]; simp; omega
theorem one_cells (l : List Ex.Tok) : ∀ u ∈ Lx.cellsOf l, u.oneCell' = true := by
  intro u hu
  unfold Lx.cellsOf at hu
  obtain ⟨t, _, ht⟩ := List.mem_flatMap.1 hu
  simp [Lx.tokCells] at ht
  rcases ht with rfl | rfl | rfl <;> rfl
theorem below_of_grown {w w' : World} {o : Option Nat} (h : w.grownBy w' o) (ho : o = none) : Below w.heap.size w w' := by
  subst ho
  exact ⟨h.os, h.tape, h.output, h.size, fun i hi => h.block i hi (by simp)⟩
theorem _root_.Go.Proofs.YtgohhnbdicdenaaDoor.Tr.below_undrew {w w' : World} (h : Below w.drew.heap.size w.drew w') : Below w.heap.size w w' := ⟨h.os, h.tape, h.output, h.size, h.block⟩
theorem keep5 {w4 w5 : World} {o : Obj} {B j : Nat} {x : Value} {r : Option Nat} (hg : (w4.alloc o).grownBy w5 r) (hne : some B ≠ r) (hB : B < w4.heap.size) (h : w4.cell? ⟨B, j, none⟩ = some x) : w5.cell? ⟨B, j, none⟩ = some x := by
  have e : w5.heap[B]? = w4.heap[B]? := (hg.block B (by simp; omega) hne).trans (Below.heap_alloc _ _ _ hB)
  rw [← h]; exact World.cell?_of_block (w := w4) (a := ⟨B, j, none⟩) e
theorem toks_snoc {w : World} {B : Nat} {v : Value} {l : List Ex.Tok} {K : Int} {T : Bytes} {P : Nat} (h : w.ownsRow B 43 3 v (l.length + 1) (Lx.cellsOf l ++ [.int .i64 K, .string (str T), .int .i64 (P : Int)])) : Lx.Toks w v (l ++ [⟨K, T, P⟩]) := by
  have e : Lx.cellsOf (l ++ [⟨K, T, P⟩]) = Lx.cellsOf l ++ [.int .i64 K, .string (str T), .int .i64 (P : Int)] := by rw [Lx.cells_snoc]; rfl
  refine Lx.Toks.of_own (b := B) ?_
  rw [e, List.length_append]; exact h
set_option maxRecDepth 100000 in
set_option maxHeartbeats 4000000 in
theorem walk_ok (s : ByteArray) (hs : s.size ≤ 1000) (n : Int) (j : Nat) (hj : j < 5) (hn : Int.tmod n 5 = (j : Int)) (h0 : 0 ≤ n) (l : List Ex.Tok) (hl : Lx.lexM s.toList = .ok l) (E : List Nd) (A : Int) (hX : readM s.toList = (E, 0, A)) (w : World) (hv : Ex.VarAt w w.heap.size) : Calls Tryd.prog 5 #[.string s, .int .i64 n] w fun r w' => r = .returned (.bool true) ∧ Below w.heap.size w w' := by
  have HV := Lib.hid hv
  have HM : Hid (s.size ≤ maxLen) := Lib.hid (by unfold maxLen; omega)
  have hd0 : decide (n < 0) = false := decide_eq_false (by omega)
  obtain ⟨l', hl', hpos, _⟩ := less_law (s := s.toList) (by rw [hX])
  obtain rfl : l = l' := by rw [hl] at hl'; cases hl'; rfl
  have hlen : l.length ≤ 1000 := by
    have := Lx.chain_len (Lx.lexM_chain s.toList (by rw [Lx.toList_len]; omega)).1 (Nat.zero_le _)
    rw [hl, Lx.toList_len] at this
    simp only [Lx.Res.toks] at this
    omega
  have HP := Lib.hid (behind_law hl (by rw [hX]) ⟨kindM (endT j), endT j, s.size⟩ (stop_of (end_stop j) _ _))
  rw [hX] at HP
  have HOK := Lib.hid ((okr_of hl).snoc (by omega) (t := ⟨kindM (endT j), endT j, s.size⟩) (end_good j) (end_len j))
  have HL := Lib.hid hl
  have HX := Lib.hid hX
  obtain ⟨i0, hi, hz0, hz1, hz2⟩ := info_parts Lx.info42
  have HPOS := Lib.hid hpos
  clear hl hl' hX hv hpos
  go_enter Tryd.func5, Tryd.ntmps5
  go_wp2_with fail
  refine (read_at HX.out HM.out HV.out).mono ?_
  rintro r w1 ⟨v1, rfl, hp1, hb1⟩
  have HP1 := Lib.hid hp1
  obtain ⟨⟨A1, c1, hv1, y1, y2, _⟩, _⟩ := hp1
  simp only at hv1
  subst hv1
  simp only at y1 ⊢
  unfold maxLen at y2
  have HB1 := Lib.hid (hb1.alloc hb1.size (.cells #[.int .i64 0, .int .i64 A] 27))
  have hs1 := HB1.out.size
  clear hb1
  go_wp2_with fail
  refine (rlex_ok _ HM.out HL.out).mono ?_
  rintro r w2 ⟨v2, rfl, ho2, hb2⟩
  have X2 := Lib.hid (stayA (o' := .cells #[.int .i64 0, .int .i64 0] 27) (blk2 hb2))
  have a10 : w2.cell? ⟨w1.heap.size, 0, none⟩ = some (.int .i64 0) := (cell_at (blk2 hb2) 0).trans rfl
  have HB2 := Lib.hid ((HB1.out.trans (hb2.mono hs1)).alloc (Nat.le_trans hs1 hb2.size) (.cells #[.int .i64 0, .int .i64 0] 27))
  have HP2 := Lib.hid (((HP1.out.below (below_new w1 (.cells #[.int .i64 0, .int .i64 A] 27))).below hb2).below (below_new w2 (.cells #[.int .i64 0, .int .i64 0] 27)))
  have hs2 := HB2.out.size
  have hz22 := hb2.size
  simp at hz22
  have l12 : w1.heap.size < w2.heap.size := by omega
  obtain ⟨g, cap, cur, hv2, hbg, hcap, hcm⟩ : ∃ g cap cur, v2 = .slice (some ⟨g, 0, none⟩) l.length cap ∧ w2.heap[g]? = some cur ∧ l.length ≤ cap ∧ cap ≤ maxLen := by
    obtain ⟨_, ⟨rfl, h0⟩ | ⟨g, cap, cur, rfl, hb, hh, hnc, hcm, _⟩⟩ := ho2
    · exact absurd h0 (by have := HPOS.out; omega)
    · exact ⟨g, cap, _, rfl, hh, hnc, hcm⟩
  subst hv2
  have hlg := lt_of_block hbg
  unfold maxLen at hcm
  have HO2 := Lib.hid ho2
  have HCA : Hid (∀ i u, (Lx.cellsOf l)[i]? = some u → w2.cell? ⟨g, i, none⟩ = some u) := Lib.hid (fun i u hiu => by
    rw [ho2.cellAt i (by have := (List.getElem?_eq_some_iff.1 hiu).1; rw [cells_len] at this; exact this)]; exact hiu)
  clear hb2 ho2 hbg
  have hmm : ((l.length : Int) == (l.length : Int)) = true := by simp
  go_wp2_with (at_builtin; refine wpList_append_own _ rfl (.tmp 42) (.tmp 43) 38 rfl (w2.heap.size + 2) 43 i0 _ 3 32 Tryd.underlying38 hi hz0 hz1 hz2 rfl (by decide) _ _ _ rfl (World.ownsRow_nil _ _ _ _) ⟨g, 0, none⟩ l.length cap (Lx.cellsOf l) rfl (cells_len l) ?a1 ?b1 ?c1 ?d1 ?e1 ?_)
  case a1 =>
    intro i u hiu
    have := HCA.out i u hiu
    rw [Go.WideShapes.add_plain, Nat.zero_add, World.cell?_alloc_lt _ _ _ (by show g < _; simp; omega), World.cell?_alloc_lt _ _ _ (by exact hlg)]
    exact this
  case b1 => exact one_cells l
  case c1 => unfold maxLen; omega
  case d1 => omega
  case e1 => simp
  intro v3 w3 hown3 hgrow3 _
  have hb3 := below_of_grown hgrow3 rfl
  have HO3 := Lib.hid hown3
  have HB3 := Lib.hid ((HB2.out.alloc hs2 _).trans (hb3.mono (HB2.out.alloc hs2 _).size))
  have hs3 := HB3.out.size
  have HB23 := Lib.hid ((below_new (w2.alloc (.cells #[.int .i64 0, .int .i64 0] 27)) _).trans (hb3.mono (below_new _ _).size))
  have hblk : w3.heap[w2.heap.size + 1]? = some (.cells #[.string ⟨#[59]⟩, .string ⟨#[41]⟩, .string ⟨#[116, 104, 101, 110]⟩, .string ⟨#[116, 101, 108]⟩, .string ⟨#[44]⟩] 9 (0, 0)) := (hb3.block _ (by simp)).trans (new_blk (by simp))
  have ej : w3.cell? ⟨w2.heap.size + 1, j, none⟩ = some (.string (str (endT j))) := (cell_at hblk j).trans (by match j, hj with | 0, _ => rfl | 1, _ => rfl | 2, _ => rfl | 3, _ => rfl | 4, _ => rfl)
  have HBLK := Lib.hid hblk
  have lb := lt_of_block hblk
  obtain ⟨g3, cap3, hv3, hcap3, hcm3⟩ : ∃ g cap, v3 = .slice (some ⟨g, 0, none⟩) l.length cap ∧ l.length ≤ cap ∧ cap ≤ maxLen := by
    obtain ⟨_, ⟨rfl, h0⟩ | ⟨g, cap, cur, rfl, hb, hh, hnc, hcm, _⟩⟩ := hown3
    · exact absurd h0 (by have := HPOS.out; omega)
    · exact ⟨g, cap, rfl, hnc, hcm⟩
  subst hv3
  unfold maxLen at hcm3
  clear hb3 hown3 hgrow3 hblk HO2 HCA
  have hj0 : decide ((j : Int) < 0) = false := decide_eq_false (by omega)
  have hj5 : decide ((5 : Int) ≤ (j : Int)) = false := decide_eq_false (by omega)
  have hwj : IntKind.i64.wrap (j : Int) = (j : Int) := IntWalk.i64_in _ (by omega)
  have hjl : (0 : Int) ≤ (j : Int) := by omega
  have hjh : (j : Int) < 5 := by omega
  have hjh' : (j : Int) ≤ 5 := by omega
  go_wp2_with fail
  go_region_held3 (fun w' => w'.cell? ⟨w2.heap.size + 1, j, none⟩ = some (.string (str (endT j))))
    (first
      | go_keep
      | exact ej4
      | exact keep5 hgrow5 (fun h => by have := HO4.lt _ h.symm; omega) lb4 ej4)
    (first
      | (go_at_call 17; refine (kind_any (endT j) _).mono ?_; rintro e w4 ⟨rfl, hb4⟩; have HO4 := Lx.own_below HO3.out (Tr.below_undrew hb4); have ej4 : w4.cell? ⟨w2.heap.size + 1, j, none⟩ = some (.string (str (endT j))) := (hb4.cell (by exact lb)).trans ej; have lb4 : w2.heap.size + 1 < w4.heap.size := Nat.lt_of_lt_of_le lb (Tr.below_undrew hb4).size)
      | (refine step_append_lies _ (by rfl) _ _ _ (by rfl) (w2.heap.size + 2) 43 i0 _ 3 32 Tryd.underlying38 hi hz0 hz1 hz2 rfl (by omega) _ l.length (Lx.cellsOf l) (by rfl) (HO4.alloc _) ⟨w4.heap.size, 0, none⟩ 1 1 [.int .i64 (kindM (endT j)), .string (str (endT j)), .int .i64 (s.size : Int)] (by rfl) (by rfl) (World.news_of_block (cs := #[.int .i64 (kindM (endT j)), .string (str (endT j)), .int .i64 (s.size : Int)]) (t := 43) (fr := (0, 0)) (heap_alloc_new _ _)) (by simp [Value.oneCell']) (by omega) (by unfold maxLen; omega) (by omega) (by simp; have := hb4.size; simp at this; omega) (w4.heap.size + 1) (by simp) ?_; intro g5 cap5 w5 hown5 hgrow5 hat5 hlt5))
  have hb4' := Tr.below_undrew hb4
  have HB4 := Lib.hid (HB3.out.trans (hb4'.mono hs3))
  have hs4 := HB4.out.size
  have hz3 := HB23.out.size
  have hz4 := hb4'.size
  have HB25 := Lib.hid (((HB23.out.trans (hb4'.mono hz3)).alloc (Nat.le_trans hz3 hz4) _).grown hgrow5 (Nat.le_trans (Nat.le_trans hz3 hz4) (below_new w4 _).size) (fun i hi => by have := HO4.lt i hi; simp; omega))
  have hs2' := hs2
  simp at hs2'
  have HB5 := Lib.hid ((HB4.out.alloc hs4 _).grown hgrow5 (by simp; omega) (fun i hi => by have := HO4.lt i hi; omega))
  have HT5 := Lib.hid (toks_snoc hown5)
  have HN5 := Lib.hid (HP2.out.1.below HB25.out (Nat.le_refl _))
  have hs5 := HB5.out.size
  have X5 := (HB25.out.block w1.heap.size (by simp; omega)).trans X2.out
  have hhc : l.length + 1 ≤ cap5 ∧ cap5 ≤ 2 ^ 63 - 1 := by
    obtain ⟨A', c', e1, e2, e3, _⟩ := toks_snoc hown5
    simp only [Value.slice.injEq] at e1
    unfold maxLen at e3
    simp at e2
    omega
  obtain ⟨q1, q2⟩ := hhc
  clear hb4 hb4' HO4 ej4 lb4 hown5 hgrow5 hat5 X5
  go_wp2_with fail
  refine (parse_lit (i := 0) rfl (toks_off HT5.out) (HV.out.up HB5.out) HOK.out HP.out).mono ?_
  rintro r w6 ⟨v6, rfl, hp6, hb6⟩
  have HN6 := Lib.hid ((HN5.out.below hb6 (Nat.le_refl _)).below (below_new w6 (.cells #[.int .i64 0, .int .i64 0] 27)) (Nat.le_refl _))
  have HP6 := Lib.hid (hp6.below (below_new w6 (.cells #[.int .i64 0, .int .i64 0] 27)))
  have HB6 := Lib.hid ((HB5.out.trans (hb6.mono hs5)).alloc (Nat.le_trans hs5 hb6.size) (.cells #[.int .i64 0, .int .i64 0] 27))
  have hs6 := HB6.out.size
  obtain ⟨⟨A6, c6, hv6, y5, y6, _⟩, _⟩ := hp6
  simp only at hv6
  subst hv6
  simp only at y5 ⊢
  unfold maxLen at y6
  clear hb6
  go_wp2_with fail
  refine (Tr.same_any _ _ E E _ HP6.out.1 HN6.out).mono ?_
  rw [decide_eq_true rfl]
  rintro r w7 ⟨rfl, n7, rfl⟩
  go_wp2_with fail
  refine (live_any _ (HV.out.up (Tr.below_drewN HB6.out n7))).mono ?_
  rintro r w8 ⟨rfl, hb8⟩
  go_wp2
  go_ret
  exact ⟨rfl, (Tr.below_drewN HB6.out n7).trans (hb8.mono hs6)⟩
set_option maxHeartbeats 4000000 in
theorem walk (s : ByteArray) (hs : s.size ≤ maxLen) (n : Int) (hn : (Lit.int .i64 n).wf = true) (w : World) (hv : Ex.VarAt w w.heap.size) : Calls Tryd.prog 5 #[.string s, .int .i64 n] w fun r w' => r = .returned (.bool true) ∧ Below w.heap.size w w' := by
  have HV := Lib.hid hv
  have HM := Lib.hid hs
  unfold maxLen at hs
  clear hv
  by_cases hbig : s.size ≤ 1000
  rotate_left
  · go_enter Tryd.func5, Tryd.ntmps5
    go_wp2_with fail
    refine (live_any _ HV.out).mono ?_
    rintro r w1 ⟨rfl, hb⟩
    go_wp2
    go_ret
    exact ⟨rfl, hb⟩
  obtain ⟨E, C, A, hX⟩ : ∃ E C A, readM s.toList = (E, C, A) := ⟨_, _, _, rfl⟩
  have HX := Lib.hid hX
  obtain ⟨l, c, a, hR⟩ : ∃ l c a, (Lx.lexM s.toList).toks = l ∧ (Lx.lexM s.toList).code = c ∧ (Lx.lexM s.toList).at_ = a := ⟨_, _, _, rfl, rfl, rfl⟩
  have HR : Hid (Calls Tryd.prog 16 #[.string s] = Calls Tryd.prog 16 #[.string s]) := Lib.hid rfl
  have HLX : Hid (∀ w1 : World, Calls Tryd.prog 16 #[.string s] w1 (fun e w' => ∃ v, e = .returned (.tuple #[v, .agg #[.int .i64 c, .int .i64 a]]) ∧ Lx.Toks w' v l ∧ Below w1.heap.size w1 w')) := Lib.hid (fun w1 => by
    have := Lx.refLex_any s w1 HM.out
    exact this.mono fun e w' ⟨v, h1, h2, h3⟩ => ⟨v, by rw [h1, hR.2.1, hR.2.2], by rw [← hR.1]; exact Lx.Toks.of_own h2, h3⟩)
  by_cases hgo : C = 0 ∧ 0 ≤ n
  · obtain ⟨rfl, h0⟩ := hgo
    obtain ⟨l', hl, _⟩ := less_law (s := s.toList) (by rw [hX])
    obtain ⟨j, hj⟩ : ∃ j : Nat, Int.tmod n 5 = (j : Int) := ⟨(Int.tmod n 5).toNat, by have := Int.tmod_nonneg 5 h0; omega⟩
    have hlt : j < 5 := by have := Int.tmod_lt_of_pos n (b := 5) (by omega); omega
    exact walk_ok s hbig n j hlt hj h0 l' hl E A HX.out w HV.out
  · obtain ⟨g, hg⟩ : ∃ g, ((C != 0) || ((c != 0) || decide (n < 0))) = g := ⟨_, rfl⟩
    have hgt : g = true := by
      rw [← hg]
      by_cases hC : C = 0
      · have : n < 0 := by have := fun h => hgo ⟨hC, h⟩; omega
        simp [this]
      · simp [hC]
    rcases Bool.eq_false_or_eq_true (C != 0) with b1 | b1
    all_goals rcases Bool.eq_false_or_eq_true (c != 0) with b2 | b2
    all_goals rcases Bool.eq_false_or_eq_true (decide (n < 0)) with b3 | b3
    all_goals first
      | (rw [b1, b2, b3] at hg; exact absurd (hg.trans hgt) (by decide))
      | (clear hg hgo hX hR HR
         go_enter Tryd.func5, Tryd.ntmps5
         go_wp2_with fail
         refine (read_at HX.out HM.out HV.out).mono ?_
         rintro r w1 ⟨v1, rfl, hp1, hb1⟩
         obtain ⟨⟨A1, c1, hv1, y1, y2, _⟩, _⟩ := hp1
         simp only at hv1
         subst hv1
         simp only at y1 ⊢
         unfold maxLen at y2
         have HB1 := Lib.hid (hb1.alloc hb1.size (.cells #[.int .i64 C, .int .i64 A] 27))
         have hs1 := HB1.out.size
         clear hb1
         go_wp2_with fail
         refine (HLX.out _).mono ?_
         rintro r w2 ⟨v2, rfl, ⟨A2', c2, rfl, y3, y4, _⟩, hb2⟩
         unfold maxLen at y4
         have a10 : w2.cell? ⟨w1.heap.size, 0, none⟩ = some (.int .i64 C) := (cell_at (blk2 hb2) 0).trans rfl
         have HB2 := Lib.hid ((HB1.out.trans (hb2.mono hs1)).alloc (Nat.le_trans hs1 hb2.size) (.cells #[.int .i64 c, .int .i64 a] 27))
         have hz2 := hb2.size
         simp at hz2
         have l12 : w1.heap.size < w2.heap.size := by omega
         clear hb2
         go_wp2_with fail
         refine (live_any _ (HV.out.up HB2.out)).mono ?_
         rintro r w4 ⟨rfl, hb4⟩
         go_wp2
         go_ret
         exact ⟨rfl, HB2.out.trans (hb4.mono HB2.out.size)⟩)
end Go.Proofs.YtgohhnbdicdenaaDoor.exprBehind
