/- The document's args tells whether a node's Args are where they may be. Conditions: the slice is read as a list of nodes; the operands are nodes ahead. -/
import Derived.Test.YtmggedjolocgdaaTreeG
namespace Go.Proofs.Ytmggedjolocgdaa.Tr
open Go.ChangeShapes Go.WideShapes Go.ChangeAt Go.RowKit
set_option linter.unusedVariables false
set_option linter.unusedSimpArgs false

def argsP (op : Int) (n k : Nat) : Bool := op == 27 || (op == 28 && n == 2 && k == 0)
/-- Whether an operand at a place is an Args just where it must be one. -/
def argB (e : List Nd) (op : Int) (L : List Int) (k : Nat) : Bool := (opAt e (L.getD k 0) == 28) == argsP op L.length k
def argsR (e : List Nd) (op : Int) (L : List Int) : Bool := (List.range L.length).all (argB e op L)
theorem argsR_eq (e : List Nd) (op : Int) (L : List Int) (h : L.length ≤ 3) : argsR e op L = argsL op (L.map (opAt e)) := by
  match L, h with
  | [], _ => rfl
  | [p], _ => simp [argsR, argB, argsP, argsL, List.range_succ]
  | [p, q], _ => simp [argsR, argB, argsP, argsL, List.range_succ]
  | [p, q, r], _ => simp [argsR, argB, argsP, argsL, List.range_succ, Bool.and_assoc]
theorem range_next (f : Nat → Bool) (n : Nat) (h : (List.range n).all f = true) (hf : f n = true) : (List.range (n + 1)).all f = true := by
  rw [List.range_succ, List.all_append, h]; simp [hf]
theorem range_stop (f : Nat → Bool) (n k : Nat) (h : k < n) (hf : f k = false) : (List.range n).all f = false := by
  rw [List.all_eq_false]; exact ⟨k, List.mem_range.2 h, by simp [hf]⟩

set_option maxRecDepth 100000 in
set_option maxHeartbeats 4000000 in
theorem args_any (v : Value) (e : List Nd) (i : Nat) (x : Nd) (w : World) (hv : Nodes w v e) (hx : e[i]? = some x) (hk : ∀ k ∈ kidsM x, 0 ≤ k ∧ k < (e.length : Int)) :
    Calls Try.prog 35 #[v, .int .i64 i] w fun r w' => r = .returned (.bool (argsL x.op ((kidsM x).map (opAt e)))) ∧ Below w.heap.size w w' := by
  have hil := (List.getElem?_eq_some_iff.1 hx).1
  obtain ⟨A, c, rfl, h1, h2, hA⟩ := hv
  unfold maxLen at h2
  have HA := Lib.hid hA
  obtain ⟨g, o, rfl, hg, a0, a1, a2, a3, a4, a5⟩ := hA i x hx
  clear hA
  obtain ⟨L, hL⟩ : ∃ L, kidsM x = L := ⟨_, rfl⟩
  have HL := Lib.hid hL
  have hl3 : L.length ≤ 3 := by rw [← hL]; exact kids_small x
  rw [hL] at hk
  have HK := Lib.hid hk
  have HR := Lib.hid (show argsL x.op ((kidsM x).map (opAt e)) = argsR e x.op L by rw [hL, argsR_eq _ _ _ hl3])
  rw [HR.out]
  clear hL hx hk
  go_enter Try.func35, Try.ntmps35
  go_wp2_with fail
  refine (rkids_any x _).mono ?_
  rintro r w2 ⟨kv, rfl, hok, hb2⟩
  rw [HL.out] at hok
  obtain ⟨A2, c2, rfl, y1, y2, hA2⟩ := Ints.of_own hok
  have HA2 := Lib.hid hA2
  have hz2 := hb2.size
  simp at hz2
  have HB2 := Lib.hid (((Below.refl _ _).alloc (Nat.le_refl _) _).trans (hb2.mono (B' := w.heap.size) (by simp)))
  have e0 : w2.cell? ⟨w.heap.size, 0, none⟩ = some (.int .i64 x.op) := (hb2.cell (by simp)).trans (by simp [World.cell?_alloc_at])
  clear hok hA2 hb2 a0 a1 a2 a3 a4 a5
  unfold maxLen at y2
  go_wp2
  go_loop [7] (fun c => ∃ j : Nat, j ≤ L.length ∧ c = .int .i64 j ∧ Hid ((List.range j).all (argB e x.op L) = true)) (fun c => L.length - (intOf c).toNat)
  case atStart => exact ⟨0, Nat.zero_le _, rfl, rfl⟩
  case round =>
    obtain ⟨j, hj, rfl, hall⟩ := hrel
    by_cases hlj : j < L.length
    · obtain ⟨q, hq⟩ : ∃ q, L[j]? = some q := ⟨_, List.getElem?_eq_getElem hlj⟩
      obtain ⟨g2, o2, rfl, hg2, d0⟩ := HA2.out j q hq
      obtain ⟨hq0, hqn⟩ := HK.out q (List.mem_of_getElem? hq)
      obtain ⟨m, rfl⟩ := Int.eq_ofNat_of_zero_le hq0
      have hme : m < e.length := by omega
      obtain ⟨y, hy⟩ : ∃ y, e[m]? = some y := ⟨_, List.getElem?_eq_getElem hme⟩
      obtain ⟨g', o', hgo, hg', a0, a1, a2, a3, a4, a5⟩ := HA.out m y hy
      simp only [Option.some.injEq, Addr.mk.injEq, and_true] at hgo
      obtain ⟨rfl, rfl⟩ := hgo
      have b0 := (HB2.out.cell (p := ⟨g, o + m * 6, none⟩) hg).trans a0
      have HQ := Lib.hid (show argB e x.op L j = ((y.op == 28) == argsP x.op L.length j) by
        unfold argB
        rw [show L.getD j 0 = (m : Int) by simp [List.getD, hq]]
        unfold opAt; rw [Int.toNat_natCast, getD_of hy])
      clear hq hy a0 a1 a2 a3 a4 a5 hg'
      rcases Bool.eq_false_or_eq_true (y.op == 28) with hy1 | hy1
      · rcases Bool.eq_false_or_eq_true (x.op == 27) with h27 | h27
        · skip
          have HN := Lib.hid (range_next (argB e x.op L) j hall.out (by rw [HQ.out]; simp [argsP, hy1, h27]))
          go_wp2
          refine ⟨⟨j + 1, by omega, by go_num, HN.out⟩, by simp [intOf]; omega⟩
        rcases Bool.eq_false_or_eq_true (x.op == 28) with h28 | h28
        · by_cases hn : L.length = 2
          · have hn' : ((L.length : Int) == 2) = true := by rw [beq_iff_eq]; omega
            have HNN := Lib.hid hn
            clear hn
            by_cases hj0 : j = 0
            · have hj0' : ((j : Int) == 0) = true := by rw [beq_iff_eq]; omega
              have HJ := Lib.hid hj0
              clear hj0
              have HN := Lib.hid (range_next (argB e x.op L) j hall.out (by rw [HQ.out]; simp [argsP, hy1, h27, h28, HNN.out, HJ.out]))
              go_wp2
              refine ⟨⟨j + 1, by omega, by go_num, HN.out⟩, by simp [intOf]; omega⟩
            · have hj0' : ((j : Int) == 0) = false := by rw [beq_eq_false_iff_ne]; omega
              have HN := Lib.hid (show argsR e x.op L = false from range_stop (argB e x.op L) L.length j hlj (by rw [HQ.out]; simp [argsP, hy1, h27, h28, hj0]))
              go_wp2
              go_ret
              exact ⟨by rw [HN.out]; rfl, HB2.out⟩
          · have hn' : ((L.length : Int) == 2) = false := by rw [beq_eq_false_iff_ne]; omega
            have HN := Lib.hid (show argsR e x.op L = false from range_stop (argB e x.op L) L.length j hlj (by rw [HQ.out]; simp [argsP, hy1, h27, h28, hn]))
            go_wp2
            go_ret
            exact ⟨by rw [HN.out]; rfl, HB2.out⟩
        · skip
          have HN := Lib.hid (show argsR e x.op L = false from range_stop (argB e x.op L) L.length j hlj (by rw [HQ.out]; simp [argsP, hy1, h27, h28]))
          go_wp2
          go_ret
          exact ⟨by rw [HN.out]; rfl, HB2.out⟩
      · rcases Bool.eq_false_or_eq_true (x.op == 27) with h27 | h27
        · skip
          have HN := Lib.hid (show argsR e x.op L = false from range_stop (argB e x.op L) L.length j hlj (by rw [HQ.out]; simp [argsP, hy1, h27]))
          go_wp2
          go_ret
          exact ⟨by rw [HN.out]; rfl, HB2.out⟩
        rcases Bool.eq_false_or_eq_true (x.op == 28) with h28 | h28
        · by_cases hn : L.length = 2
          · have hn' : ((L.length : Int) == 2) = true := by rw [beq_iff_eq]; omega
            have HNN := Lib.hid hn
            clear hn
            by_cases hj0 : j = 0
            · have hj0' : ((j : Int) == 0) = true := by rw [beq_iff_eq]; omega
              have HJ := Lib.hid hj0
              clear hj0
              have HN := Lib.hid (show argsR e x.op L = false from range_stop (argB e x.op L) L.length j hlj (by rw [HQ.out]; simp [argsP, hy1, h27, h28, HNN.out, HJ.out]))
              go_wp2
              go_ret
              exact ⟨by rw [HN.out]; rfl, HB2.out⟩
            · have hj0' : ((j : Int) == 0) = false := by rw [beq_eq_false_iff_ne]; omega
              have HN := Lib.hid (range_next (argB e x.op L) j hall.out (by rw [HQ.out]; simp [argsP, hy1, h27, h28, hj0]))
              go_wp2
              refine ⟨⟨j + 1, by omega, by go_num, HN.out⟩, by simp [intOf]; omega⟩
          · have hn' : ((L.length : Int) == 2) = false := by rw [beq_eq_false_iff_ne]; omega
            have HN := Lib.hid (range_next (argB e x.op L) j hall.out (by rw [HQ.out]; simp [argsP, hy1, h27, h28, hn]))
            go_wp2
            refine ⟨⟨j + 1, by omega, by go_num, HN.out⟩, by simp [intOf]; omega⟩
        · skip
          have HN := Lib.hid (range_next (argB e x.op L) j hall.out (by rw [HQ.out]; simp [argsP, hy1, h27, h28]))
          go_wp2
          refine ⟨⟨j + 1, by omega, by go_num, HN.out⟩, by simp [intOf]; omega⟩
    · have hjl : j = L.length := by omega
      subst hjl
      have HE := Lib.hid (show argsR e x.op L = true from hall.out)
      go_wp2
      go_ret
      exact ⟨by rw [HE.out]; rfl, HB2.out⟩
end Go.Proofs.Ytmggedjolocgdaa.Tr
