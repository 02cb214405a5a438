/- The document's args tells whether a node's Args are where they may be. Conditions: the slice is read as a list of nodes; the operands are nodes ahead. -/
import Derived.Test.YtdebhngpgabglaaGreatKa04
import Derived.Test.YtdebhngpgabglaaGreatKa05
import Derived.Test.YtdebhngpgabglaaGreatKa06
set_option linter.unusedVariables false
set_option linter.unusedSimpArgs false
namespace Go.Proofs.YtdebhngpgabglaaGreat.Tr
open Go.ChangeShapes Go.WideShapes Go.ChangeAt Go.RowKit
def argsP (op : Int) (n k : Nat) : Bool := op == 27 || (op == 28 && n == 2 && k == 0)
def argB (e : List Nd) (op : Int) (L : List Int) (k : Nat) : Bool := (opAt e (L.getD k 0) == 28) == argsP op L.length k
def argsR (e : List Nd) (op : Int) (L : List Int) : Bool := (List.range L.length).all (argB e op L)
theorem argsR_eq (e : List Nd) (op : Int) (L : List Int) (h : L.length ≤ 3) : argsR e op L = argsL op (L.map (opAt e)) := by
 match L, h with
 | [], _ => rfl
 | [p], _ => simp [argsR, argB, argsP, argsL, List.range_succ]
 | [p, q], _ => simp [argsR, argB, argsP, argsL, List.range_succ]
 | [p, q, r], _ => simp [argsR, argB, argsP, argsL, List.range_succ, Bool.and_assoc]
theorem range_next (f : Nat → Bool) (n : Nat) (h : (List.range n).all f = true) (hf : f n = true) : (List.range (n + 1)).all f = true := by
 rw [List.range_succ, List.all_append, h]; simp [hf]
theorem range_stop (f : Nat → Bool) (n k : Nat) (h : k < n) (hf : f k = false) : (List.range n).all f = false := by
 rw [List.all_eq_false]; exact ⟨k, List.mem_range.2 h, by simp [hf]⟩
set_option maxRecDepth 100000 in
set_option maxHeartbeats 4000000 in
theorem args_any (v : Value) (e : List Nd) (i : Nat) (x : Nd) (w : World) (hv : Nodes w v e) (hx : e[i]? = some x) (hk : ∀ k ∈ kidsM x, 0 ≤ k ∧ k < (e.length : Int)) :
 Calls Tryz.prog 78 #[v, .int .i64 i] w fun r w' => r = .returned (.bool (argsL x.op ((kidsM x).map (opAt e)))) ∧ Below w.heap.size w w' := by
 have hil := (List.getElem?_eq_some_iff.1 hx).1
 obtain ⟨A, c, rfl, h1, h2, hA⟩ := hv
 unfold maxLen at h2
 have HA := Lib.hid hA
 obtain ⟨g, o, rfl, hg, a0, a1, a2, a3, a4, a5⟩ := hA i x hx
 clear hA
 obtain ⟨L, hL⟩ : ∃ L, kidsM x = L := ⟨_, rfl⟩
 have HL := Lib.hid hL
 have hl3 : L.length ≤ 3 := by rw [← hL]; exact kids_small x
 rw [hL] at hk
 have HK := Lib.hid hk
 have HR := Lib.hid (show argsL x.op ((kidsM x).map (opAt e)) = argsR e x.op L by rw [hL, argsR_eq _ _ _ hl3])
 rw [HR.out]
 clear hL hx hk
 go_enter Tryz.func78, Tryz.ntmps78
 go_wp2_with fail
 refine (rkids_any x _).mono ?_
 rintro r w2 ⟨kv, rfl, hok, hb2⟩
 rw [HL.out] at hok
 obtain ⟨A2, c2, rfl, y1, y2, hA2⟩ := Ints.of_own hok
 have HA2 := Lib.hid hA2
 have hz2 := hb2.size
 simp at hz2
 have HB2 := Lib.hid (((Below.refl _ _).alloc (Nat.le_refl _) _).trans (hb2.mono (B' := w.heap.size) (by simp)))
 have e0 : w2.cell? ⟨w.heap.size, 0, none⟩ = some (.int .i64 x.op) := (hb2.cell (by simp)).trans (by simp [World.cell?_alloc_at])
 clear hok hA2 hb2 a0 a1 a2 a3 a4 a5
 unfold maxLen at y2
 go_wp2
 go_loop [7] (fun c => ∃ j : Nat, j ≤ L.length ∧ c = .int .i64 j ∧ Hid ((List.range j).all (argB e x.op L) = true)) (fun c => L.length - (intOf c).toNat)
 case atStart => exact ⟨0, Nat.zero_le _, rfl, rfl⟩
 case round =>
  obtain ⟨j, hj, rfl, hall⟩ := hrel
  by_cases hlj : j < L.length
  · obtain ⟨q, hq⟩ : ∃ q, L[j]? = some q := ⟨_, List.getElem?_eq_getElem hlj⟩
    obtain ⟨g2, o2, rfl, hg2, d0⟩ := HA2.out j q hq
    obtain ⟨hq0, hqn⟩ := HK.out q (List.mem_of_getElem? hq)
    obtain ⟨m, rfl⟩ := Int.eq_ofNat_of_zero_le hq0
    have hme : m < e.length := by omega
    obtain ⟨y, hy⟩ : ∃ y, e[m]? = some y := ⟨_, List.getElem?_eq_getElem hme⟩
    obtain ⟨g', o', hgo, hg', a0, a1, a2, a3, a4, a5⟩ := HA.out m y hy
    simp only [Option.some.injEq, Addr.mk.injEq, and_true] at hgo
    obtain ⟨rfl, rfl⟩ := hgo
    have b0 := (HB2.out.cell (p := ⟨g, o + m * 6, none⟩) hg).trans a0
    have HQ := Lib.hid (show argB e x.op L j = ((y.op == 28) == argsP x.op L.length j) by
     unfold argB
     rw [show L.getD j 0 = (m : Int) by simp [List.getD, hq]]
     unfold opAt; rw [Int.toNat_natCast, getD_of hy])
    clear hq hy a0 a1 a2 a3 a4 a5 hg'
    rcases Bool.eq_false_or_eq_true (y.op == 28) with hy1 | hy1
    · rcases Bool.eq_false_or_eq_true (x.op == 27) with h27 | h27
      · skip
        have HN := Lib.hid (range_next (argB e x.op L) j hall.out (by rw [HQ.out]; simp [argsP, hy1, h27]))
        go_wp2
        refine ⟨⟨j + 1, by omega, by go_num, HN.out⟩, by simp [intOf]; omega⟩
      rcases Bool.eq_false_or_eq_true (x.op == 28) with h28 | h28
      · by_cases hn : L.length = 2
        · have hn' : ((L.length : Int) == 2) = true := by rw [beq_iff_eq]; omega
          have HNN := Lib.hid hn
          clear hn
          by_cases hj0 : j = 0
          · have hj0' : ((j : Int) == 0) = true := by rw [beq_iff_eq]; omega
            have HJ := Lib.hid hj0
            clear hj0
            have HN := Lib.hid (range_next (argB e x.op L) j hall.out (by rw [HQ.out]; simp [argsP, hy1, h27, h28, HNN.out, HJ.out]))
            go_wp2
            refine ⟨⟨j + 1, by omega, by go_num, HN.out⟩, by simp [intOf]; omega⟩
          · have hj0' : ((j : Int) == 0) = false := by rw [beq_eq_false_iff_ne]; omega
            have HN := Lib.hid (show argsR e x.op L = false from range_stop (argB e x.op L) L.length j hlj (by rw [HQ.out]; simp [argsP, hy1, h27, h28, hj0]))
            go_wp2
            go_ret
            exact ⟨by rw [HN.out]; rfl, HB2.out⟩
        · have hn' : ((L.length : Int) == 2) = false := by rw [beq_eq_false_iff_ne]; omega
          have HN := Lib.hid (show argsR e x.op L = false from range_stop (argB e x.op L) L.length j hlj (by rw [HQ.out]; simp [argsP, hy1, h27, h28, hn]))
          go_wp2
          go_ret
          exact ⟨by rw [HN.out]; rfl, HB2.out⟩
      · skip
        have HN := Lib.hid (show argsR e x.op L = false from range_stop (argB e x.op L) L.length j hlj (by rw [HQ.out]; simp [argsP, hy1, h27, h28]))
        go_wp2
        go_ret
        exact ⟨by rw [HN.out]; rfl, HB2.out⟩
    · rcases Bool.eq_false_or_eq_true (x.op == 27) with h27 | h27
      · skip
        have HN := Lib.hid (show argsR e x.op L = false from range_stop (argB e x.op L) L.length j hlj (by rw [HQ.out]; simp [argsP, hy1, h27]))
        go_wp2
        go_ret
        exact ⟨by rw [HN.out]; rfl, HB2.out⟩
      rcases Bool.eq_false_or_eq_true (x.op == 28) with h28 | h28
      · by_cases hn : L.length = 2
        · have hn' : ((L.length : Int) == 2) = true := by rw [beq_iff_eq]; omega
          have HNN := Lib.hid hn
          clear hn
          by_cases hj0 : j = 0
          · have hj0' : ((j : Int) == 0) = true := by rw [beq_iff_eq]; omega
            have HJ := Lib.hid hj0
            clear hj0
            have HN := Lib.hid (show argsR e x.op L = false from range_stop (argB e x.op L) L.length j hlj (by rw [HQ.out]; simp [argsP, hy1, h27, h28, HNN.out, HJ.out]))
            go_wp2
            go_ret
            exact ⟨by rw [HN.out]; rfl, HB2.out⟩
          · have hj0' : ((j : Int) == 0) = false := by rw [beq_eq_false_iff_ne]; omega
            have HN := Lib.hid (range_next (argB e x.op L) j hall.out (by rw [HQ.out]; simp [argsP, hy1, h27, h28, hj0]))
            go_wp2
            refine ⟨⟨j + 1, by omega, by go_num, HN.out⟩, by simp [intOf]; omega⟩
        · have hn' : ((L.length : Int) == 2) = false := by rw [beq_eq_false_iff_ne]; omega
          have HN := Lib.hid (range_next (argB e x.op L) j hall.out (by rw [HQ.out]; simp [argsP, hy1, h27, h28, hn]))
          go_wp2
          refine ⟨⟨j + 1, by omega, by go_num, HN.out⟩, by simp [intOf]; omega⟩
      · skip
        have HN := Lib.hid (range_next (argB e x.op L) j hall.out (by rw [HQ.out]; simp [argsP, hy1, h27, h28]))
        go_wp2
        refine ⟨⟨j + 1, by omega, by go_num, HN.out⟩, by simp [intOf]; omega⟩
  · have hjl : j = L.length := by omega
    subst hjl
    have HE := Lib.hid (show argsR e x.op L = true from hall.out)
    go_wp2
    go_ret
    exact ⟨by rw [HE.out]; rfl, HB2.out⟩
end Go.Proofs.YtdebhngpgabglaaGreat.Tr
namespace Go.Proofs.YtdebhngpgabglaaGreat.Tr
open Go.ChangeShapes Go.WideShapes Go.ChangeAt Go.RowKit
open Classical in
noncomputable def mayB (e : List Nd) : Bool := decide (May e)
theorem may_no {e : List Nd} (h : ¬ May e) : mayB e = false := by unfold mayB; exact @decide_eq_false _ (Classical.propDecidable _) h
theorem may_yes {e : List Nd} (h : May e) : mayB e = true := by unfold mayB; exact @decide_eq_true _ (Classical.propDecidable _) h
theorem may_of {e : List Nd} (h : mayB e = true) : May e := by
 by_cases hm : May e
 · exact hm
 · rw [may_no hm] at h; cases h
end Go.Proofs.YtdebhngpgabglaaGreat.Tr
namespace Go.Proofs.YtdebhngpgabglaaGreat.Tr
open Go.ChangeShapes Go.WideShapes Go.ChangeAt Go.RowKit
theorem stands_iff (A : List Nd) (x : Nd) (hab : x.op = 28 → x.b ≠ -1 → x.b ≠ x.a) :
 standsM A x = true ↔ bareM x = true ∧ (∀ k ∈ kidsM x, 0 ≤ k ∧ k < (A.length : Int)) ∧ argsL x.op ((kidsM x).map (opAt A)) = true := by
 obtain ⟨o, a, b, c, n, s⟩ := x
 simp only at hab
 by_cases hu : unaryB o = true
 · have h27 : o ≠ 27 := by rintro rfl; simp [unaryB] at hu
   have h28 : o ≠ 28 := by rintro rfl; simp [unaryB] at hu
   have h28' : (o == 28) = false := by simp [h28]
   have h27' : (o == 27) = false := by simp [h27]
   have hk : kidsM ⟨o, a, b, c, n, s⟩ = [a] := kids_unary _ hu
   unfold standsM bareM bareN
   rw [hk]
   simp only [h27, h28, if_false, List.all_cons, List.all_nil, Bool.and_true, kidB, takesM, h27', h28', Bool.false_or, Bool.false_and, List.map_cons, List.map_nil, argsL, List.mem_singleton, forall_eq, List.length_cons, List.length_nil]
   by_cases ha : a = -1
   · subst ha; simp
   · by_cases hb : b = -1 <;> by_cases hc : c = -1 <;> simp [heldM, List.filter_cons, ha, hb, hc, and_assoc]
 by_cases h26 : o = 26
 · subst h26
   have hk : kidsM ⟨26, a, b, c, n, s⟩ = [a, b, c] := rfl
   unfold standsM bareM bareN
   rw [hk]
   by_cases ha : a = -1
   · subst ha; simp [kidB]
   by_cases hb : b = -1
   · subst hb; simp [kidB]
   by_cases hc : c = -1
   · subst hc; simp [kidB]
   simp [kidB, takesM, argsL, heldM, List.filter_cons, ha, hb, hc, and_assoc, and_left_comm, and_comm]
 by_cases h27 : o = 27
 · subst h27
   unfold standsM bareM
   by_cases ha : a = -1
   · subst ha
     have hk : kidsM ⟨27, -1, b, c, n, s⟩ = [] := rfl
     rw [hk]
     by_cases hb : b = -1 <;> by_cases hc : c = -1 <;> simp [heldM, List.filter_cons, hb, hc, argsL]
   · have hk : kidsM ⟨27, a, b, c, n, s⟩ = [a] := by simp [kidsM, unaryB, heldM, ha]
     rw [hk]
     by_cases hb : b = -1 <;> by_cases hc : c = -1 <;> simp [heldM, List.filter_cons, ha, hb, hc, argsL, kidB, takesM, and_assoc]
 by_cases h28 : o = 28
 · subst h28
   unfold standsM bareM
   by_cases hb : b = -1
   · subst hb
     have hk : kidsM ⟨28, a, -1, c, n, s⟩ = [a] := rfl
     rw [hk]
     by_cases ha : a = -1
     · subst ha; simp [kidB]
     · by_cases hc : c = -1 <;> simp [heldM, List.filter_cons, ha, hc, argsL, kidB, takesM, and_assoc]
   · have hk : kidsM ⟨28, a, b, c, n, s⟩ = [b, a] := by simp [kidsM, unaryB, heldM, hb]
     have hba := hab rfl hb
     have hba' : (b != a) = true := by simp [hba]
     rw [hk]
     by_cases ha : a = -1
     · subst ha; simp [kidB]
     · by_cases hc : c = -1 <;> simp [heldM, List.filter_cons, ha, hb, hc, hba', argsL, kidB, takesM, and_assoc, and_left_comm, and_comm]
 by_cases hbn : binaryB o = true
 · have h28' : (o == 28) = false := by simp [h28]
   have h27' : (o == 27) = false := by simp [h27]
   have hk : kidsM ⟨o, a, b, c, n, s⟩ = [a, b] := kidsM_bin _ hbn
   unfold standsM bareM bareN
   rw [hk]
   by_cases ha : a = -1
   · subst ha; simp [kidB, h27, h28]
   by_cases hb : b = -1
   · subst hb; simp [kidB, h27, h28]
   by_cases hc : c = -1 <;> simp [heldM, List.filter_cons, ha, hb, hc, argsL, kidB, takesM, h27, h28, h27', h28', and_assoc, and_left_comm, and_comm]
 · have hk : kidsM ⟨o, a, b, c, n, s⟩ = [] := by
    unfold kidsM; simp [hu, h26, h27, h28, hbn]
   unfold standsM bareM bareN
   rw [hk]
   by_cases ha : a = -1 <;> by_cases hb : b = -1 <;> by_cases hc : c = -1 <;> simp [heldM, List.filter_cons, ha, hb, hc, h27, h28, argsL]
theorem opAt_take (e : List Nd) (i : Nat) (k : Int) (h0 : 0 ≤ k) (h1 : k < (i : Int)) : opAt (e.take i) k = opAt e k := by
 unfold opAt
 rw [List.getD, List.getD, List.getElem?_take_of_lt (by omega)]
theorem args_take (e : List Nd) (i : Nat) (l : List Int) (h : ∀ k ∈ l, 0 ≤ k ∧ k < (i : Int)) : l.map (opAt (e.take i)) = l.map (opAt e) :=
 List.map_congr_left fun k hk => opAt_take e i k (h k hk).1 (h k hk).2
theorem ab_of_nodup (x : Nd) (h : (kidsM x).Nodup) : x.op = 28 → x.b ≠ -1 → x.b ≠ x.a := by
 obtain ⟨o, a, b, c, n, s⟩ := x
 intro ho hb hba
 simp only at ho hb hba
 subst ho hba
 rw [show kidsM ⟨28, b, b, c, n, s⟩ = [b, b] by simp [kidsM, unaryB, heldM, hb]] at h
 simp at h
theorem mayC_iff (e : List Nd) : MayC e ↔ May e := by
 constructor
 · intro h
   have hin : ∀ (i : Nat) x, e[i]? = some x → ∀ k ∈ kidsM x, 0 ≤ k ∧ k < (i : Int) := fun i x hx k hk => by
    have hil := (List.getElem?_eq_some_iff.1 hx).1
    have := (h.node i x hil hx).2
    unfold standsM at this
    rw [Bool.and_eq_true] at this
    have := List.all_eq_true.1 this.1 k hk
    unfold kidB at this
    simp only [Bool.and_eq_true, decide_eq_true_eq, List.length_take] at this
    omega
   have ha : Ahead e := fun i n hn k hk => hin i n hn k hk
   have ho : Once e := by
    intro j
    by_cases hj : j + 1 < e.length
    · rw [h.uses j hj]; omega
    · unfold usesM
      rw [List.count_eq_zero_of_not_mem]
      · omega
      · intro hm
        rw [List.mem_flatMap] at hm
        obtain ⟨n, hn, hk⟩ := hm
        obtain ⟨i, hi⟩ := List.mem_iff_getElem?.1 hn
        have := ha i n hi _ hk
        have := (List.getElem?_eq_some_iff.1 hi).1
        omega
   refine ⟨h.pos, h.le, fun i x hx => ?_, h.uses, h.last, h.deep⟩
   have hil := (List.getElem?_eq_some_iff.1 hx).1
   obtain ⟨h1, h2⟩ := h.node i x hil hx
   obtain ⟨g1, g2, g3⟩ := (stands_iff _ x (ab_of_nodup x (once_nodup ho ha hx))).1 h2
   exact ⟨h1, (bareM_iff x).1 g1, hin i x hx, by rw [← args_take e i _ (hin i x hx)]; exact g3⟩
 · intro h
   refine ⟨h.pos, h.le, h.last, fun i x hi hx => ?_, h.uses, h.deep⟩
   have g := h.node i x hx
   refine ⟨g.plain, (stands_iff _ x (ab_of_nodup x (once_nodup h.once h.ahead hx))).2 ⟨(bareM_iff x).2 g.bare, fun k hk => ?_, ?_⟩⟩
   · have := g.ahead k hk
     rw [List.length_take]; omega
   · rw [args_take e i _ g.ahead]; exact g.args
theorem mayC_eq (e : List Nd) : mayCB e = mayB e := by
 by_cases h : May e
 · rw [may_yes h, mayC_yes ((mayC_iff e).2 h)]
 · rw [may_no h, mayC_no (fun hc => h ((mayC_iff e).1 hc))]
theorem may_any (v : Value) (e : List Nd) (w : World) (hv : Nodes w v e) :
 Calls Tryz.prog 38 #[v] w fun r w' => r = .returned (.bool (mayB e)) ∧ Below w.heap.size w w' := by rw [← mayC_eq]; exact mayC_any v e w hv
end Go.Proofs.YtdebhngpgabglaaGreat.Tr
