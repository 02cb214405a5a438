/- The document's args tells whether a node's Args are where they may be. Conditions: the slice is read as a list of nodes; the operands are nodes ahead. -/
import Derived.Test.YtobkcdkffcenbaaGreatDoorCa04
import Derived.Test.YtobkcdkffcenbaaGreatDoorCa05
import Derived.Test.YtobkcdkffcenbaaGreatDoorCa06
set_option linter.unusedVariables false
set_option linter.unusedSimpArgs false
namespace Go.Proofs.YtobkcdkffcenbaaGreatDoor.Tr
open Go.ChangeShapes Go.WideShapes Go.ChangeAt Go.RowKit
def argsP (op : Int) (n k : Nat) : Bool := op == 27 || (op == 28 && n == 2 && k == 0)
def argB (e : List Nd) (op : Int) (L : List Int) (k : Nat) : Bool := (opAt e (L.getD k 0) == 28) == argsP op L.length k
def argsR (e : List Nd) (op : Int) (L : List Int) : Bool := (List.range L.length).all (argB e op L)
theorem argsR_eq (e : List Nd) (op : Int) (L : List Int) (h : L.length ≤ 3) : argsR e op L = argsL op (L.map (opAt e)) := by
  match L, h with
  | [], _ => rfl
  | [p], _ => simp [argsR, argB, argsP, argsL, List.range_succ]
  | [p, q], _ => simp [argsR, argB, argsP, argsL, List.range_succ]
  | [p, q, r], _ => simp [argsR, argB, argsP, argsL, List.range_succ, Bool.and_assoc]
theorem range_next (f : Nat → Bool) (n : Nat) (h : (List.range n).all f = true) (hf : f n = true) : (List.range (n + 1)).all f = true := by
  rw [List.range_succ, List.all_append, h]; simp [hf]
theorem range_stop (f : Nat → Bool) (n k : Nat) (h : k < n) (hf : f k = false) : (List.range n).all f = false := by
  rw [List.all_eq_false]; exact ⟨k, List.mem_range.2 h, by simp [hf]⟩
set_option maxRecDepth 100000 in
set_option maxHeartbeats 4000000 in
theorem args_any (v : Value) (e : List Nd) (i : Nat) (x : Nd) (w : World) (hv : Nodes w v e) (hx : e[i]? = some x) (hk : ∀ k ∈ kidsM x, 0 ≤ k ∧ k < (e.length : Int)) :
    Calls Tryz.prog 31 #[v, .int .i64 i] w fun r w' => r = .returned (.bool (argsL x.op ((kidsM x).map (opAt e)))) ∧ Below w.heap.size w w' := by
  have hil := (List.getElem?_eq_some_iff.1 hx).1
  obtain ⟨A, c, rfl, h1, h2, hA⟩ := hv
  unfold maxLen at h2
  have HA := Lib.hid hA
  obtain ⟨g, o, rfl, hg, a0, a1, a2, a3, a4, a5⟩ := hA i x hx
  clear hA
  obtain ⟨L, hL⟩ : ∃ L, kidsM x = L := ⟨_, rfl⟩
  have HL := Lib.hid hL
  have hl3 : L.length ≤ 3 := by rw [← hL]; exact kids_small x
  rw [hL] at hk
  have HK := Lib.hid hk
  have HR := Lib.hid (show argsL x.op ((kidsM x).map (opAt e)) = argsR e x.op L by rw [hL, argsR_eq _ _ _ hl3])
  rw [HR.out]
  clear hL hx hk
  go_enter Tryz.func31, Tryz.ntmps31
  go_wp2_with fail
  refine (rkids_any x _).mono ?_
  rintro r w2 ⟨kv, rfl, hok, hb2⟩
  rw [HL.out] at hok
  obtain ⟨A2, c2, rfl, y1, y2, hA2⟩ := Ints.of_own hok
  have HA2 := Lib.hid hA2
  have hz2 := hb2.size
  simp at hz2
  have HB2 := Lib.hid (((Below.refl _ _).alloc (Nat.le_refl _) _).trans (hb2.mono (B' := w.heap.size) (by simp)))
  have e0 : w2.cell? ⟨w.heap.size, 0, none⟩ = some (.int .i64 x.op) := (hb2.cell (by simp)).trans (by simp [World.cell?_alloc_at])
  clear hok hA2 hb2 a0 a1 a2 a3 a4 a5
  unfold maxLen at y2
  go_wp2
  go_loop [7] (fun c => ∃ j : Nat, j ≤ L.length ∧ c = .int .i64 j ∧ Hid ((List.range j).all (argB e x.op L) = true)) (fun c => L.length - (intOf c).toNat)
  case atStart => exact ⟨0, Nat.zero_le _, rfl, rfl⟩
  case round =>
    obtain ⟨j, hj, rfl, hall⟩ := hrel
    by_cases hlj : j < L.length
    · obtain ⟨q, hq⟩ : ∃ q, L[j]? = some q := ⟨_, List.getElem?_eq_getElem hlj⟩
      obtain ⟨g2, o2, rfl, hg2, d0⟩ := HA2.out j q hq
      obtain ⟨hq0, hqn⟩ := HK.out q (List.mem_of_getElem? hq)
      obtain ⟨m, rfl⟩ := Int.eq_ofNat_of_zero_le hq0
      have hme : m < e.length := by omega
      obtain ⟨y, hy⟩ : ∃ y, e[m]? = some y := ⟨_, List.getElem?_eq_getElem hme⟩
      obtain ⟨g', o', hgo, hg', a0, a1, a2, a3, a4, a5⟩ := HA.out m y hy
      simp only [Option.some.injEq, Addr.mk.injEq, and_true] at hgo
      obtain ⟨rfl, rfl⟩ := hgo
      have b0 := (HB2.out.cell (p := ⟨g, o + m * 6, none⟩) hg).trans a0
      have HQ := Lib.hid (show argB e x.op L j = ((y.op == 28) == argsP x.op L.length j) by
        unfold argB
        rw [show L.getD j 0 = (m : Int) by simp [List.getD, hq]]
        unfold opAt; rw [Int.toNat_natCast, getD_of hy])
      clear hq hy a0 a1 a2 a3 a4 a5 hg'
      rcases Bool.eq_false_or_eq_true (y.op == 28) with hy1 | hy1
      · rcases Bool.eq_false_or_eq_true (x.op == 27) with h27 | h27
        · skip
          have HN := Lib.hid (range_next (argB e x.op L) j hall.out (by rw [HQ.out]; simp [argsP, hy1, h27]))
          go_wp2
          refine ⟨⟨j + 1, by omega, by go_num, HN.out⟩, by simp [intOf]; omega⟩
        rcases Bool.eq_false_or_eq_true (x.op == 28) with h28 | h28
        · by_cases hn : L.length = 2
          · have hn' : ((L.length : Int) == 2) = true := by rw [beq_iff_eq]; omega
            have HNN := Lib.hid hn
            clear hn
            by_cases hj0 : j = 0
            · have hj0' : ((j : Int) == 0) = true := by rw [beq_iff_eq]; omega
              have HJ := Lib.hid hj0
              clear hj0
              have HN := Lib.hid (range_next (argB e x.op L) j hall.out (by rw [HQ.out]; simp [argsP, hy1, h27, h28, HNN.out, HJ.out]))
              go_wp2
              refine ⟨⟨j + 1, by omega, by go_num, HN.out⟩, by simp [intOf]; omega⟩
            · have hj0' : ((j : Int) == 0) = false := by rw [beq_eq_false_iff_ne]; omega
              have HN := Lib.hid (show argsR e x.op L = false from range_stop (argB e x.op L) L.length j hlj (by rw [HQ.out]; simp [argsP, hy1, h27, h28, hj0]))
              go_wp2
              go_ret
              exact ⟨by rw [HN.out]; rfl, HB2.out⟩
          · have hn' : ((L.length : Int) == 2) = false := by rw [beq_eq_false_iff_ne]; omega
            have HN := Lib.hid (show argsR e x.op L = false from range_stop (argB e x.op L) L.length j hlj (by rw [HQ.out]; simp [argsP, hy1, h27, h28, hn]))
            go_wp2
            go_ret
            exact ⟨by rw [HN.out]; rfl, HB2.out⟩
        · skip
          have HN := Lib.hid (show argsR e x.op L = false from range_stop (argB e x.op L) L.length j hlj (by rw [HQ.out]; simp [argsP, hy1, h27, h28]))
          go_wp2
          go_ret
          exact ⟨by rw [HN.out]; rfl, HB2.out⟩
      · rcases Bool.eq_false_or_eq_true (x.op == 27) with h27 | h27
        · skip
          have HN := Lib.hid (show argsR e x.op L = false from range_stop (argB e x.op L) L.length j hlj (by rw [HQ.out]; simp [argsP, hy1, h27]))
          go_wp2
          go_ret
          exact ⟨by rw [HN.out]; rfl, HB2.out⟩
        rcases Bool.eq_false_or_eq_true (x.op == 28) with h28 | h28
        · by_cases hn : L.length = 2
          · have hn' : ((L.length : Int) == 2) = true := by rw [beq_iff_eq]; omega
            have HNN := Lib.hid hn
            clear hn
            by_cases hj0 : j = 0
            · have hj0' : ((j : Int) == 0) = true := by rw [beq_iff_eq]; omega
              have HJ := Lib.hid hj0
              clear hj0
              have HN := Lib.hid (show argsR e x.op L = false from range_stop (argB e x.op L) L.length j hlj (by rw [HQ.out]; simp [argsP, hy1, h27, h28, HNN.out, HJ.out]))
              go_wp2
              go_ret
              exact ⟨by rw [HN.out]; rfl, HB2.out⟩
            · have hj0' : ((j : Int) == 0) = false := by rw [beq_eq_false_iff_ne]; omega
              have HN := Lib.hid (range_next (argB e x.op L) j hall.out (by rw [HQ.out]; simp [argsP, hy1, h27, h28, hj0]))
              go_wp2
              refine ⟨⟨j + 1, by omega, by go_num, HN.out⟩, by simp [intOf]; omega⟩
          · have hn' : ((L.length : Int) == 2) = false := by rw [beq_eq_false_iff_ne]; omega
            have HN := Lib.hid (range_next (argB e x.op L) j hall.out (by rw [HQ.out]; simp [argsP, hy1, h27, h28, hn]))
            go_wp2
            refine ⟨⟨j + 1, by omega, by go_num, HN.out⟩, by simp [intOf]; omega⟩
        · skip
          have HN := Lib.hid (range_next (argB e x.op L) j hall.out (by rw [HQ.out]; simp [argsP, hy1, h27, h28]))
          go_wp2
          refine ⟨⟨j + 1, by omega, by go_num, HN.out⟩, by simp [intOf]; omega⟩
    · have hjl : j = L.length := by omega
      subst hjl
      have HE := Lib.hid (show argsR e x.op L = true from hall.out)
      go_wp2
      go_ret
      exact ⟨by rw [HE.out]; rfl, HB2.out⟩
end Go.Proofs.YtobkcdkffcenbaaGreatDoor.Tr
namespace Go.Proofs.YtobkcdkffcenbaaGreatDoor.Tr
open Go.ChangeShapes Go.WideShapes Go.ChangeAt Go.RowKit
theorem plain_range (x : Lab) : plainB x = (decide (1 ≤ x.op) && decide (x.op ≤ 28) && plain2B x) := by
  unfold plainB plain2B; simp only [Bool.and_assoc]
def NodeG (e : List Nd) (k : Nat) : Prop := ∀ i x, i < k → e[i]? = some x → Good e i x
open Classical in
noncomputable def mayB (e : List Nd) : Bool := decide (May e)
theorem may_no {e : List Nd} (h : ¬ May e) : mayB e = false := by unfold mayB; exact @decide_eq_false _ (Classical.propDecidable _) h
theorem may_yes {e : List Nd} (h : May e) : mayB e = true := by unfold mayB; exact @decide_eq_true _ (Classical.propDecidable _) h
theorem may_of {e : List Nd} (h : mayB e = true) : May e := by
  by_cases hm : May e
  · exact hm
  · rw [may_no hm] at h; cases h
theorem bare_lit (x : Nd) (b : Bool) (w : World) (h : bareM x = b) : Calls Tryz.prog 29 #[.agg #[.int .i64 x.op, .int .i64 x.a, .int .i64 x.b, .int .i64 x.c, .int .i64 x.n, .string (str x.name)]] w
    fun r w' => r = .returned (.bool b) ∧ Below w.heap.size w w' := by rw [← h]; exact bare_any x w
theorem plain_lit (x : Nd) (b : Bool) (w : World) (h : plain2B x.lab = b) : Calls Tryz.prog 30 #[.agg #[.int .i64 x.op, .int .i64 x.a, .int .i64 x.b, .int .i64 x.c, .int .i64 x.n, .string (str x.name)]] w
    fun r w' => r = .returned (.bool b) ∧ Below w.heap.size w w' := by rw [← h]; exact plain_any x w
theorem args_lit (v : Value) (e : List Nd) (i : Nat) (x : Nd) (b : Bool) (w : World) (hv : Nodes w v e) (hx : e[i]? = some x) (hk : ∀ k ∈ kidsM x, 0 ≤ k ∧ k < (e.length : Int)) (h : argsL x.op ((kidsM x).map (opAt e)) = b) :
    Calls Tryz.prog 31 #[v, .int .i64 i] w fun r w' => r = .returned (.bool b) ∧ Below w.heap.size w w' := by rw [← h]; exact args_any v e i x w hv hx hk
set_option maxRecDepth 100000 in
set_option maxHeartbeats 8000000 in
theorem rmay_any (v : Value) (e : List Nd) (w : World) (hv : Nodes w v e) :
    Calls Tryz.prog 12 #[v] w fun r w' => r = .returned (.bool (mayB e)) ∧ Below w.heap.size w w' := by
  have HV := Lib.hid hv
  obtain ⟨A, c, rfl, h1, h2, hA⟩ := hv
  unfold maxLen at h2
  have HA := Lib.hid hA
  clear hA
  obtain ⟨i0, hi, hz0, hz1, hz2⟩ := info_parts info3
  by_cases hp : 0 < e.length
  rotate_left
  · have h0 : e.length = 0 := by omega
    have hR := Lib.hid (may_no (e := e) (fun h => by have := h.pos; omega))
    rw [hR.out, h0]
    clear h0 HA HV
    go_enter Tryz.func12, Tryz.ntmps12
    go_wp2
    go_ret
    exact ⟨rfl, Below.refl _ _⟩
  by_cases hle : e.length ≤ 5000
  rotate_left
  · have hle' : (5000 : Int) < (e.length : Int) := by omega
    have hp' : (1 : Int) ≤ (e.length : Int) := by omega
    have hR := Lib.hid (may_no (e := e) (fun h => by have := h.le; omega))
    rw [hR.out]
    clear hle
    go_enter Tryz.func12, Tryz.ntmps12
    go_wp2
    go_ret
    exact ⟨rfl, Below.refl _ _⟩
  have hp' : (1 : Int) ≤ (e.length : Int) := by omega
  have hle' : (e.length : Int) ≤ 5000 := by omega
  obtain ⟨y, hy⟩ : ∃ y, e[e.length - 1]? = some y := ⟨_, List.getElem?_eq_getElem (by omega)⟩
  have HY := Lib.hid (getD_of hy)
  have HYY := Lib.hid hy
  obtain ⟨g, o, rfl, hg, l0, l1, l2, l3, l4, l5⟩ := HA.out _ y hy
  have hidx : (e.length : Int) - 1 = ((e.length - 1 : Nat) : Int) := by omega
  have HIDX := Lib.hid hidx
  clear hidx hy l0 l1 l2 l3 l4 l5
  go_enter Tryz.func12, Tryz.ntmps12
  go_wp2_with (at_make; refine wpList_make_full _ rfl _ _ 72 rfl w.heap.size 3 i0 _ 1 Tryz.underlying72 hi hz0 hz1 _ _ _ _ e.length rfl rfl rfl rfl (by rw [hz2]; omega) (by unfold maxLen; omega) (Nat.le_refl _) ?_)
  intro w1 hown hgrow
  have hb1 : Below w.heap.size w w1 := (Below.refl _ _).grown hgrow (Nat.le_refl _) (fun k hk => by simp at hk)
  have hown0 : w1.ownsRow w.heap.size 3 1 (.slice (some ⟨w.heap.size, 0, none⟩) e.length e.length) e.length (intsOf (cntM ((e.take 0).flatMap kidsM) e.length)) := by
    rw [show (e.take 0).flatMap kidsM = [] from by simp, cnt_nil, ← made_ints]; exact hown
  clear hown hgrow
  go_wp2
  go_loopw [4] (fun i wr => ∃ k : Nat, k ≤ e.length ∧ i = .int .i64 k ∧ wr.ownsRow w.heap.size 3 1 (.slice (some ⟨w.heap.size, 0, none⟩) e.length e.length) e.length (intsOf (cntM ((e.take k).flatMap kidsM) e.length)) ∧ Below w.heap.size w wr ∧ Hid (NodeG e k)) (fun i _ => e.length - (intOf i).toNat)
  case atStart => exact ⟨0, Nat.zero_le _, rfl, hown0, hb1, fun i x h => absurd h (by omega)⟩
  case round =>
    obtain ⟨k, hk, rfl, hown, hb, hC⟩ := hrel
    clear hown0 hb1
    by_cases hlt : k < e.length
    · obtain ⟨x, hx⟩ : ∃ x, e[k]? = some x := ⟨_, List.getElem?_eq_getElem hlt⟩
      obtain ⟨g', o', hgo, hg', a0, a1, a2, a3, a4, a5⟩ := HA.out k x hx
      simp only [Option.some.injEq, Addr.mk.injEq, and_true] at hgo
      obtain ⟨rfl, rfl⟩ := hgo
      have hcb := fun q => hb.cell (p := ⟨g, q, none⟩) hg
      have b0 := (hcb _).trans a0
      have b1 := (hcb _).trans a1
      have b2 := (hcb _).trans a2
      have b3 := (hcb _).trans a3
      have b4 := (hcb _).trans a4
      have b5 := (hcb _).trans a5
      have hzz := (hown.lt _ rfl).2
      have HX := Lib.hid hx
      have HO := Lib.hid hown
      have HB := Lib.hid hb
      clear hx hcb a0 a1 a2 a3 a4 a5 hown hb hg'
      have HNG : Hid (∀ P : Prop, (Good e k x → P) → (May e → P)) := Lib.hid (fun P h hm => h (hm.node k x HX.out))
      by_cases hr1 : x.op < 1
      · have hR := Lib.hid (may_no (e := e) (HNG.out _ (fun h => by have := h.plain; rw [plain_range, decide_eq_false (show ¬ (1 ≤ x.lab.op) from by show ¬ 1 ≤ x.op; omega)] at this; simp at this)))
        go_wp2
        go_ret
        exact ⟨by rw [hR.out]; rfl, HB.out⟩
      by_cases hr2 : 28 < x.op
      · have hR := Lib.hid (may_no (e := e) (HNG.out _ (fun h => by have := h.plain; rw [plain_range, decide_eq_false (show ¬ (x.lab.op ≤ 28) from by show ¬ x.op ≤ 28; omega)] at this; simp at this)))
        have hr1' : 1 ≤ x.op := by omega
        clear hr1
        go_wp2
        go_ret
        exact ⟨by rw [hR.out]; rfl, HB.out⟩
      have hr1' : 1 ≤ x.op := by omega
      have hr2' : x.op ≤ 28 := by omega
      clear hr1 hr2
      obtain ⟨p1, hp1⟩ : ∃ b, bareM x = b := ⟨_, rfl⟩
      have HP1 := Lib.hid hp1
      clear hp1
      go_wp2_with fail
      refine (bare_lit x _ _ HP1.out).mono ?_
      rintro r w3 ⟨rfl, hb3⟩
      have hz3 := hb3.size
      have HB3 := Lib.hid (HB.out.trans (hb3.mono (B' := w.heap.size) (by omega)))
      cases p1
      · have hR := Lib.hid (may_no (e := e) (HNG.out _ (fun h => by have := (bareM_iff x).2 h.bare; rw [HP1.out] at this; cases this)))
        clear hb3
        go_wp2
        go_ret
        exact ⟨by rw [hR.out]; rfl, HB3.out⟩
      have hgz : g < wr.heap.size := by omega
      have HO3 := Lib.hid (own_below HO.out hb3)
      have d0 := (hb3.cell (p := ⟨g, o + k * 6, none⟩) hgz).trans b0
      have d1 := (hb3.cell (p := ⟨g, o + k * 6 + 1, none⟩) hgz).trans b1
      have d2 := (hb3.cell (p := ⟨g, o + k * 6 + 2, none⟩) hgz).trans b2
      have d3 := (hb3.cell (p := ⟨g, o + k * 6 + 3, none⟩) hgz).trans b3
      have d4 := (hb3.cell (p := ⟨g, o + k * 6 + 4, none⟩) hgz).trans b4
      have d5 := (hb3.cell (p := ⟨g, o + k * 6 + 5, none⟩) hgz).trans b5
      clear b0 b1 b2 b3 b4 b5 hb3
      obtain ⟨p2, hp2⟩ : ∃ b, plain2B x.lab = b := ⟨_, rfl⟩
      have HP2 := Lib.hid hp2
      clear hp2
      go_wp2_with fail
      refine (plain_lit x _ _ HP2.out).mono ?_
      rintro r w4 ⟨rfl, hb4⟩
      have hz4 := hb4.size
      have HB4 := Lib.hid (HB3.out.trans (hb4.mono (B' := w.heap.size) (by omega)))
      cases p2
      · have hR := Lib.hid (may_no (e := e) (HNG.out _ (fun h => by have := h.plain; rw [plain_range, HP2.out, Bool.and_false] at this; cases this)))
        clear hb4
        go_wp2
        go_ret
        exact ⟨by rw [hR.out]; rfl, HB4.out⟩
      have hgz3 : g < w3.heap.size := by omega
      have HO4 := Lib.hid (own_below HO3.out hb4)
      have b0 := (hb4.cell (p := ⟨g, o + k * 6, none⟩) hgz3).trans d0
      have b1 := (hb4.cell (p := ⟨g, o + k * 6 + 1, none⟩) hgz3).trans d1
      have b2 := (hb4.cell (p := ⟨g, o + k * 6 + 2, none⟩) hgz3).trans d2
      have b3 := (hb4.cell (p := ⟨g, o + k * 6 + 3, none⟩) hgz3).trans d3
      have b4 := (hb4.cell (p := ⟨g, o + k * 6 + 4, none⟩) hgz3).trans d4
      have b5 := (hb4.cell (p := ⟨g, o + k * 6 + 5, none⟩) hgz3).trans d5
      clear d0 d1 d2 d3 d4 d5 hb4
      obtain ⟨L, hL⟩ : ∃ L, kidsM x = L := ⟨_, rfl⟩
      have HL := Lib.hid hL
      obtain ⟨P, hP⟩ : ∃ P, (e.take k).flatMap kidsM = P := ⟨_, rfl⟩
      have HPP := Lib.hid hP
      have hPl : P.length ≤ 3 * k := by
        rw [← hP]; refine Nat.le_trans (flat_len3 _) ?_; rw [List.length_take]; omega
      have hLs : L.length ≤ 3 := by rw [← hL]; exact kids_small x
      clear hL hP
      go_wp2_with fail
      refine (rkids_any x _).mono ?_
      rintro r w5 ⟨kv, rfl, hok, hb5⟩
      rw [HL.out] at hok
      obtain ⟨A2, c2, rfl, y1, y2, hA2⟩ := Ints.of_own hok
      have HA2 := Lib.hid hA2
      have HKO := Lib.hid (show ∀ g2 o2, A2 = some ⟨g2, o2, none⟩ → w.heap.size < g2 from fun g2 o2 h => by subst h; have := hok.lt g2 rfl; omega)
      have hz5 := hb5.size
      have HO5 := Lib.hid (own_below HO4.out hb5)
      have HB5 := Lib.hid (HB4.out.trans (hb5.mono (by omega)))
      clear hok hA2 hb5 b0 b1 b2 b3 b4 b5
      unfold maxLen at y2
      go_wp2
      go_loopw [6] (fun c wr => ∃ j : Nat, j ≤ L.length ∧ c = .int .i64 j ∧ wr.ownsRow w.heap.size 3 1 (.slice (some ⟨w.heap.size, 0, none⟩) e.length e.length) e.length (intsOf (cntM (P ++ L.take j) e.length)) ∧ Below w.heap.size w wr ∧ w5.heap.size ≤ wr.heap.size ∧ Hid (∀ p : Addr, p.block ≠ w.heap.size → wr.cell? p = w5.cell? p) ∧ Hid (∀ q ∈ L.take j, 0 ≤ q ∧ q < (k : Int))) (fun c _ => L.length - (intOf c).toNat)
      case atStart => exact ⟨0, Nat.zero_le _, rfl, by rw [List.take_zero, List.append_nil, ← HPP.out]; exact HO5.out, HB5.out, Nat.le_refl _, fun _ _ => rfl, fun q hq => by simp at hq⟩
      case round =>
        obtain ⟨j, hj, rfl, ho3, hb3, hz3, hk3, hin⟩ := hrel
        have HO3 := Lib.hid ho3
        have HB3 := Lib.hid hb3
        clear ho3 hb3
        by_cases hlj : j < L.length
        · obtain ⟨q, hq⟩ : ∃ q, L[j]? = some q := ⟨_, List.getElem?_eq_getElem hlj⟩
          obtain ⟨g2, o2, rfl, hg2, d0'⟩ := HA2.out j q hq
          have hgb := HKO.out g2 o2 rfl
          have hgn2 : w.heap.size ≠ g2 := by omega
          have d0 := (hk3.out ⟨g2, o2 + j, none⟩ (by simp; omega)).trans d0'
          have HQ := Lib.hid hq
          clear hq d0'
          by_cases hq0 : q < 0
          · have hR := Lib.hid (may_no (e := e) (HNG.out _ (fun h => by have := h.ahead q (by rw [HL.out]; exact List.mem_of_getElem? HQ.out); omega)))
            go_wp2
            go_ret
            exact ⟨by rw [hR.out]; rfl, HB3.out⟩
          by_cases hqk : (k : Int) ≤ q
          · have hR := Lib.hid (may_no (e := e) (HNG.out _ (fun h => by have := h.ahead q (by rw [HL.out]; exact List.mem_of_getElem? HQ.out); omega)))
            have hq0' : 0 ≤ q := by omega
            clear hq0
            go_wp2
            go_ret
            exact ⟨by rw [hR.out]; rfl, HB3.out⟩
          obtain ⟨m, rfl⟩ := Int.eq_ofNat_of_zero_le (show 0 ≤ q by omega)
          have hmk : m < k := by omega
          have hml : m < e.length := by omega
          have hmk2 : decide (k ≤ m) = false := by simp; omega
          clear hq0 hqk
          have hcl : (P ++ L.take j).count (m : Int) ≤ 3 * k + 3 := by
            refine Nat.le_trans List.count_le_length ?_
            rw [List.length_append, List.length_take]; omega
          have c1 := (HO3.out.cellAt m (by omega)).trans (intsOf_get _ _ _ (cnt_get _ _ _ hml))
          have f1 := HO3.out.frozenAt m
          have HN2 := Lib.hid (show cntM (P ++ L.take (j + 1)) e.length = (cntM (P ++ L.take j) e.length).set m ((((P ++ L.take j).count (m : Int) : Nat) : Int) + 1) by
            rw [List.take_add_one, HQ.out, ← List.append_assoc]; exact cnt_snoc _ _ _ hml)
          have HIN : Hid (∀ q ∈ L.take (j + 1), 0 ≤ q ∧ q < (k : Int)) := Lib.hid (fun q hq => by
            rw [List.take_add_one, HQ.out, List.mem_append] at hq
            rcases hq with hq | hq
            · exact hin.out q hq
            · simp at hq; omega)
          obtain ⟨cn, hcn⟩ : ∃ cn, (P ++ L.take j).count (m : Int) = cn := ⟨_, rfl⟩
          rw [hcn] at c1 hcl HN2
          clear hcn
          go_wp2
          refine ⟨⟨j + 1, by omega, by go_num, ?_, HB3.out.setCell (by simp) _, by simpa using hz3, fun p hp => ?_, HIN⟩, by simp [intOf]; omega⟩
          · have := (HO3.out.stored m (.int .i64 ((cn : Int) + 1))).1
            rw [HN2.out, intsOf_set]; exact this
          · exact (World.cell?_setCell_other _ _ _ _ (fun h => hp (by rw [← h]))).trans (hk3.out p hp)
        · have hjl : j = L.length := by omega
          subst hjl
          have HIN : Hid (∀ q ∈ kidsM x, 0 ≤ q ∧ q < (k : Int)) := Lib.hid (by rw [HL.out]; have := hin.out; rwa [List.take_length] at this)
          obtain ⟨p3, hp3⟩ : ∃ b, argsL x.op ((kidsM x).map (opAt e)) = b := ⟨_, rfl⟩
          have HP3 := Lib.hid hp3
          clear hp3
          go_wp2_with fail
          refine (args_lit _ e k x _ _ (by exact HV.out.below HB3.out (Nat.le_refl _)) HX.out (fun q hq => by have := HIN.out q hq; omega) HP3.out).mono ?_
          rintro r w6 ⟨rfl, hb6⟩
          have HB6 := Lib.hid (HB3.out.trans (hb6.mono HB3.out.size))
          have HO6 := Lib.hid (own_below HO3.out hb6)
          clear hb6
          cases p3
          · have hR := Lib.hid (may_no (e := e) (HNG.out _ (fun h => by have := h.args; rw [HP3.out] at this; cases this)))
            go_wp2
            go_ret
            exact ⟨by rw [hR.out]; rfl, HB6.out⟩
          · have HC2 : Hid (NodeG e (k + 1)) := Lib.hid (fun i y hi hy => by
              by_cases hik : i < k
              · exact hC.out i y hik hy
              · have : i = k := by omega
                subst this
                have := HX.out.symm.trans hy
                simp only [Option.some.injEq] at this
                subst this
                refine ⟨?_, (bareM_iff x).1 HP1.out, HIN.out, HP3.out⟩
                rw [plain_range, HP2.out, decide_eq_true (show 1 ≤ x.lab.op from hr1'), decide_eq_true (show x.lab.op ≤ 28 from hr2')]; rfl)
            have HFL := Lib.hid (show (e.take (k + 1)).flatMap kidsM = P ++ L by rw [flat_next e k x HX.out, HPP.out, HL.out])
            go_wp2
            refine ⟨⟨k + 1, by omega, by go_num, ?_, HB6.out, HC2⟩, by simp [intOf]; omega⟩
            rw [HFL.out]; have := HO6.out; rwa [List.take_length] at this
    · have hkl : k = e.length := by omega
      subst hkl
      have HO := Lib.hid hown
      have HB := Lib.hid hb
      rw [List.take_length] at HO
      clear hown hb
      have hi2 := HIDX.out
      go_wp2
      go_loop [7] (fun c => ∃ j : Nat, j ≤ e.length - 1 ∧ c = .int .i64 j ∧ Hid (∀ p, p < j → usesM e p = 1)) (fun c => e.length - (intOf c).toNat)
      case atStart => exact ⟨0, Nat.zero_le _, rfl, fun p h => absurd h (by omega)⟩
      case round =>
        obtain ⟨j, hj, rfl, hu⟩ := hrel
        by_cases hlj : j < e.length - 1
        · have c1 := (HO.out.cellAt j (by omega)).trans (intsOf_get _ _ _ (cnt_get _ _ _ (show j < e.length by omega)))
          obtain ⟨cn, hcn⟩ : ∃ cn, (e.flatMap kidsM).count (j : Int) = cn := ⟨_, rfl⟩
          have HCN := Lib.hid (show usesM e j = cn from hcn)
          rw [hcn] at c1
          clear hcn
          by_cases h1 : cn = 1
          · subst h1
            have HU : Hid (∀ p, p < j + 1 → usesM e p = 1) := Lib.hid (fun p hp => by
              by_cases hpj : p < j
              · exact hu.out p hpj
              · have : p = j := by omega
                subst this; exact HCN.out)
            go_wp2
            refine ⟨⟨j + 1, by omega, by go_num, HU⟩, by simp [intOf]; omega⟩
          · have h1' : ((cn : Int) != 1) = true := by rw [bne_iff_ne]; omega
            have hR := Lib.hid (may_no (e := e) (fun h => by have := h.uses j (by omega); rw [HCN.out] at this; exact h1 this))
            go_wp2
            go_ret
            exact ⟨by rw [hR.out]; rfl, HB.out⟩
        · have hjl : j = e.length - 1 := by omega
          subst hjl
          obtain ⟨g', o', hgo, hg', a0, _, _, _, _, _⟩ := HA.out _ y HYY.out
          simp only [Option.some.injEq, Addr.mk.injEq, and_true] at hgo
          obtain ⟨rfl, rfl⟩ := hgo
          have b0 := (HB.out.cell (p := ⟨g, o + (e.length - 1) * 6, none⟩) hg).trans a0
          clear a0 hg'
          rcases Bool.eq_false_or_eq_true (y.op != 28) with hy | hy
          · go_wp2_with fail
            refine (rdepth_any _ e _ (by exact HV.out.below HB.out (Nat.le_refl _)) (by omega)).mono ?_
            rintro r w6 ⟨rfl, hb6⟩
            have HB6 := Lib.hid (HB.out.trans (hb6.mono HB.out.size))
            have HR := Lib.hid (show mayB e = decide (((depthM e : Nat) : Int) ≤ 40) by
              by_cases hd : depthM e ≤ 40
              · rw [may_yes ⟨hp, hle, fun i x hx => hC.out i x (List.getElem?_eq_some_iff.1 hx).1 hx, fun p hp => hu.out p (by omega), by rw [HY.out]; simpa using hy, hd⟩, decide_eq_true (by omega)]
              · rw [may_no (fun h => hd h.deep), decide_eq_false (by omega)])
            clear hb6
            go_wp2
            go_ret
            exact ⟨ret_bool HR.out.symm, HB6.out⟩
          · have hR := Lib.hid (may_no (e := e) (fun h => by have := h.last; rw [HY.out] at this; simp at hy; exact this hy))
            go_wp2
            go_ret
            exact ⟨by rw [hR.out]; rfl, HB.out⟩
end Go.Proofs.YtobkcdkffcenbaaGreatDoor.Tr
namespace Go.Proofs.YtobkcdkffcenbaaGreatDoor.Tr
open Go.ChangeShapes Go.WideShapes Go.ChangeAt Go.RowKit
theorem stands_iff (A : List Nd) (x : Nd) (hab : x.op = 28 → x.b ≠ -1 → x.b ≠ x.a) :
    standsM A x = true ↔ bareM x = true ∧ (∀ k ∈ kidsM x, 0 ≤ k ∧ k < (A.length : Int)) ∧ argsL x.op ((kidsM x).map (opAt A)) = true := by
  obtain ⟨o, a, b, c, n, s⟩ := x
  simp only at hab
  by_cases hu : unaryB o = true
  · have h27 : o ≠ 27 := by rintro rfl; simp [unaryB] at hu
    have h28 : o ≠ 28 := by rintro rfl; simp [unaryB] at hu
    have h28' : (o == 28) = false := by simp [h28]
    have h27' : (o == 27) = false := by simp [h27]
    have hk : kidsM ⟨o, a, b, c, n, s⟩ = [a] := kids_unary _ hu
    unfold standsM bareM bareN
    rw [hk]
    simp only [h27, h28, if_false, List.all_cons, List.all_nil, Bool.and_true, kidB, takesM, h27', h28', Bool.false_or, Bool.false_and, List.map_cons, List.map_nil, argsL, List.mem_singleton, forall_eq, List.length_cons, List.length_nil]
    by_cases ha : a = -1
    · subst ha; simp
    · by_cases hb : b = -1 <;> by_cases hc : c = -1 <;> simp [heldM, List.filter_cons, ha, hb, hc, and_assoc]
  by_cases h26 : o = 26
  · subst h26
    have hk : kidsM ⟨26, a, b, c, n, s⟩ = [a, b, c] := rfl
    unfold standsM bareM bareN
    rw [hk]
    by_cases ha : a = -1
    · subst ha; simp [kidB]
    by_cases hb : b = -1
    · subst hb; simp [kidB]
    by_cases hc : c = -1
    · subst hc; simp [kidB]
    simp [kidB, takesM, argsL, heldM, List.filter_cons, ha, hb, hc, and_assoc, and_left_comm, and_comm]
  by_cases h27 : o = 27
  · subst h27
    unfold standsM bareM
    by_cases ha : a = -1
    · subst ha
      have hk : kidsM ⟨27, -1, b, c, n, s⟩ = [] := rfl
      rw [hk]
      by_cases hb : b = -1 <;> by_cases hc : c = -1 <;> simp [heldM, List.filter_cons, hb, hc, argsL]
    · have hk : kidsM ⟨27, a, b, c, n, s⟩ = [a] := by simp [kidsM, unaryB, heldM, ha]
      rw [hk]
      by_cases hb : b = -1 <;> by_cases hc : c = -1 <;> simp [heldM, List.filter_cons, ha, hb, hc, argsL, kidB, takesM, and_assoc]
  by_cases h28 : o = 28
  · subst h28
    unfold standsM bareM
    by_cases hb : b = -1
    · subst hb
      have hk : kidsM ⟨28, a, -1, c, n, s⟩ = [a] := rfl
      rw [hk]
      by_cases ha : a = -1
      · subst ha; simp [kidB]
      · by_cases hc : c = -1 <;> simp [heldM, List.filter_cons, ha, hc, argsL, kidB, takesM, and_assoc]
    · have hk : kidsM ⟨28, a, b, c, n, s⟩ = [b, a] := by simp [kidsM, unaryB, heldM, hb]
      have hba := hab rfl hb
      have hba' : (b != a) = true := by simp [hba]
      rw [hk]
      by_cases ha : a = -1
      · subst ha; simp [kidB]
      · by_cases hc : c = -1 <;> simp [heldM, List.filter_cons, ha, hb, hc, hba', argsL, kidB, takesM, and_assoc, and_left_comm, and_comm]
  by_cases hbn : binaryB o = true
  · have h28' : (o == 28) = false := by simp [h28]
    have h27' : (o == 27) = false := by simp [h27]
    have hk : kidsM ⟨o, a, b, c, n, s⟩ = [a, b] := kidsM_bin _ hbn
    unfold standsM bareM bareN
    rw [hk]
    by_cases ha : a = -1
    · subst ha; simp [kidB, h27, h28]
    by_cases hb : b = -1
    · subst hb; simp [kidB, h27, h28]
    by_cases hc : c = -1 <;> simp [heldM, List.filter_cons, ha, hb, hc, argsL, kidB, takesM, h27, h28, h27', h28', and_assoc, and_left_comm, and_comm]
  · have hk : kidsM ⟨o, a, b, c, n, s⟩ = [] := by
      unfold kidsM; simp [hu, h26, h27, h28, hbn]
    unfold standsM bareM bareN
    rw [hk]
    by_cases ha : a = -1 <;> by_cases hb : b = -1 <;> by_cases hc : c = -1 <;> simp [heldM, List.filter_cons, ha, hb, hc, h27, h28, argsL]
theorem opAt_take (e : List Nd) (i : Nat) (k : Int) (h0 : 0 ≤ k) (h1 : k < (i : Int)) : opAt (e.take i) k = opAt e k := by
  unfold opAt
  rw [List.getD, List.getD, List.getElem?_take_of_lt (by omega)]
theorem args_take (e : List Nd) (i : Nat) (l : List Int) (h : ∀ k ∈ l, 0 ≤ k ∧ k < (i : Int)) : l.map (opAt (e.take i)) = l.map (opAt e) :=
  List.map_congr_left fun k hk => opAt_take e i k (h k hk).1 (h k hk).2
theorem ab_of_nodup (x : Nd) (h : (kidsM x).Nodup) : x.op = 28 → x.b ≠ -1 → x.b ≠ x.a := by
  obtain ⟨o, a, b, c, n, s⟩ := x
  intro ho hb hba
  simp only at ho hb hba
  subst ho hba
  rw [show kidsM ⟨28, b, b, c, n, s⟩ = [b, b] by simp [kidsM, unaryB, heldM, hb]] at h
  simp at h
theorem mayC_iff (e : List Nd) : MayC e ↔ May e := by
  constructor
  · intro h
    have hin : ∀ (i : Nat) x, e[i]? = some x → ∀ k ∈ kidsM x, 0 ≤ k ∧ k < (i : Int) := fun i x hx k hk => by
      have hil := (List.getElem?_eq_some_iff.1 hx).1
      have := (h.node i x hil hx).2
      unfold standsM at this
      rw [Bool.and_eq_true] at this
      have := List.all_eq_true.1 this.1 k hk
      unfold kidB at this
      simp only [Bool.and_eq_true, decide_eq_true_eq, List.length_take] at this
      omega
    have ha : Ahead e := fun i n hn k hk => hin i n hn k hk
    have ho : Once e := by
      intro j
      by_cases hj : j + 1 < e.length
      · rw [h.uses j hj]; omega
      · unfold usesM
        rw [List.count_eq_zero_of_not_mem]
        · omega
        · intro hm
          rw [List.mem_flatMap] at hm
          obtain ⟨n, hn, hk⟩ := hm
          obtain ⟨i, hi⟩ := List.mem_iff_getElem?.1 hn
          have := ha i n hi _ hk
          have := (List.getElem?_eq_some_iff.1 hi).1
          omega
    refine ⟨h.pos, h.le, fun i x hx => ?_, h.uses, h.last, h.deep⟩
    have hil := (List.getElem?_eq_some_iff.1 hx).1
    obtain ⟨h1, h2⟩ := h.node i x hil hx
    obtain ⟨g1, g2, g3⟩ := (stands_iff _ x (ab_of_nodup x (once_nodup ho ha hx))).1 h2
    exact ⟨h1, (bareM_iff x).1 g1, hin i x hx, by rw [← args_take e i _ (hin i x hx)]; exact g3⟩
  · intro h
    refine ⟨h.pos, h.le, h.last, fun i x hi hx => ?_, h.uses, h.deep⟩
    have g := h.node i x hx
    refine ⟨g.plain, (stands_iff _ x (ab_of_nodup x (once_nodup h.once h.ahead hx))).2 ⟨(bareM_iff x).2 g.bare, fun k hk => ?_, ?_⟩⟩
    · have := g.ahead k hk
      rw [List.length_take]; omega
    · rw [args_take e i _ g.ahead]; exact g.args
theorem mayC_eq (e : List Nd) : mayCB e = mayB e := by
  by_cases h : May e
  · rw [may_yes h, mayC_yes ((mayC_iff e).2 h)]
  · rw [may_no h, mayC_no (fun hc => h ((mayC_iff e).1 hc))]
theorem may_any (v : Value) (e : List Nd) (w : World) (hv : Nodes w v e) :
    Calls Tryz.prog 66 #[v] w fun r w' => r = .returned (.bool (mayB e)) ∧ Below w.heap.size w w' := by rw [← mayC_eq]; exact mayC_any v e w hv
end Go.Proofs.YtobkcdkffcenbaaGreatDoor.Tr

