/- The document's Of for layer inits. Conditions: the slice is read as a list of nodes. -/
import Derived.Test.YtndmhbocfmnhgaaQb01
import Derived.Test.YtndmhbocfmnhgaaPk07
namespace Go.Proofs.Ytndmhbocfmnhgaa.In
open Go.ChangeShapes Go.WideShapes Go.ChangeAt Go.RowKit Go.Proofs.Ytndmhbocfmnhgaa.Tr
set_option linter.unusedVariables false
set_option linter.unusedSimpArgs false

theorem stepR_some {op : Int} {l : List Nat} {v : Nat} (h : stepI op l = some v) : stepR op l = ((v : Int), 0) := by unfold stepR; rw [h]
theorem stepR_none {op : Int} {l : List Nat} (h : stepI op l = none) : stepR op l = (0, 11) := by unfold stepR; rw [h]
theorem ints_row {w : World} {B n : Nat} {c : Nat} {L : List Int} (hL : L.length = n) (hc : n ≤ c) (hm : c ≤ maxLen) (h : w.ownsRow B 3 1 (.slice (some ⟨B, 0, none⟩) n c) n (intsOf L)) (hB : B < w.heap.size) : Ints w (.slice (some ⟨B, 0, none⟩) n c) L := by
  subst hL
  refine ⟨some ⟨B, 0, none⟩, c, rfl, hc, hm, fun i x hx => ⟨B, 0, rfl, hB, ?_⟩⟩
  have hi := (List.getElem?_eq_some_iff.1 hx).1
  rw [Nat.zero_add]
  exact (h.cellAt i (by omega)).trans (intsOf_get _ _ _ hx)
set_option maxRecDepth 100000 in
set_option maxHeartbeats 8000000 in
theorem rof_any (v : Value) (e : List Nd) (w : World) (hv : Nodes w v e) : Calls Try.prog 11 #[v] w (NodePost w (ofM e)) := by
  have HV := Lib.hid hv
  obtain ⟨A, c, rfl, h1, h2, hA⟩ := hv
  unfold maxLen at h2
  obtain ⟨i0, hi, hz0, hz1, hz2⟩ := info_parts info3
  obtain ⟨B, hB⟩ : ∃ B, mayB e = B := ⟨_, rfl⟩
  have HM := Lib.hid hB
  clear hA hB
  cases B with
  | false =>
    have HE := Lib.hid (ofM_not HM.out)
    rw [HE.out]
    go_enter Try.func11, Try.ntmps11
    go_wp2_with fail
    refine (rmay_lit _ e false _ HV.out HM.out).mono ?_
    rintro r w1 ⟨rfl, hb1⟩
    have HB1 := Lib.hid hb1
    clear hb1
    go_wp2
    go_ret2
    exact ⟨rfl, HB1.out⟩
  | true =>
    have hmay := may_of HM.out
    have hn := hmay.le
    have hp := hmay.pos
    have HAH := Lib.hid hmay.ahead
    clear hmay
    obtain ⟨R, hR⟩ : ∃ R, ofM e = R := ⟨_, rfl⟩
    have HR := Lib.hid hR
    rw [hR]
    clear hR
    go_enter Try.func11, Try.ntmps11
    go_wp2_with fail
    refine (rmay_lit _ e true _ HV.out HM.out).mono ?_
    rintro r w1 ⟨rfl, hb1⟩
    have HB1 := Lib.hid hb1
    have HV1 := Lib.hid (HV.out.below hb1 (Nat.le_refl _))
    clear hb1
    go_wp2_with (at_make; refine wpList_make_full _ rfl _ _ 48 rfl w1.heap.size 3 i0 _ 1 Try.underlying48 hi hz0 hz1 _ _ _ _ e.length rfl rfl rfl rfl (by rw [hz2]; omega) (by unfold maxLen; omega) (Nat.le_refl _) ?_)
    intro w2 hown hgrow
    have hb2 : Below w1.heap.size w1 w2 := (Below.refl _ _).grown hgrow (Nat.le_refl _) (fun k hk => by simp at hk)
    have hown0 : w2.ownsRow w1.heap.size 3 1 (.slice (some ⟨w1.heap.size, 0, none⟩) e.length e.length) e.length (intsOf (List.replicate e.length 0)) := by
      rw [← made_ints]; exact hown
    have hz := (hown0.lt _ rfl).2
    have HO2 := Lib.hid hown0
    have HB2 := Lib.hid hb2
    clear hown hgrow hown0 hb2
    go_wp2
    go_loopw [5] (fun i wr => ∃ (k : Nat) (L : List Int), k ≤ e.length ∧ i = .int .i64 k ∧ wr.ownsRow w1.heap.size 3 1 (.slice (some ⟨w1.heap.size, 0, none⟩) e.length e.length) e.length (intsOf L) ∧ Below w1.heap.size w1 wr ∧ w1.heap.size < wr.heap.size ∧ Rel e k L false) (fun i _ => e.length - (intOf i).toNat)
    case atStart => exact ⟨0, _, Nat.zero_le _, rfl, HO2.out, HB2.out, hz, Rel.start e⟩
    case round =>
      obtain ⟨k, L, hk, rfl, hown, hb, hzr, hrl⟩ := hrel
      have HO := Lib.hid hown
      have HB := Lib.hid hb
      have HRL := Lib.hid hrl
      have hLl := hrl.len
      by_cases hlt : k < e.length
      · obtain ⟨x, hx⟩ : ∃ x, e[k]? = some x := ⟨_, List.getElem?_eq_getElem hlt⟩
        have HX := Lib.hid hx
        have HC := Lib.hid (rnode_any (.slice A e.length c) _ e L k x (valOf L) wr (HV1.out.below hb (Nat.le_refl _)) (by omega) (ints_row hLl (Nat.le_refl _) (by unfold maxLen; omega) hown hzr) hx (fun q hq => HAH.out k x hx q hq) (fun j hj => by
          have := (hrl.val rfl hj).2
          have hjl : j < L.length := by omega
          rw [List.getElem?_eq_getElem hjl]
          simp [List.getD, List.getElem?_eq_getElem hjl] at this
          simp [this]) (fun j hj => inT_le _ _ (hrl.val rfl hj).1))
        clear hown hb hrl hx
        cases hst : stepI x.op ((kidsM x).map fun j => valOf L j.toNat) with
        | none =>
          have HS := Lib.hid hst
          rw [stepR_none hst] at HC
          have HE : Hid (R = (0, 11)) := Lib.hid (by
            rw [← HR.out]
            exact ofM_none HM.out hlt (by rw [inT_step HAH.out HX.out (valOf L) (fun i hi => (HRL.out.val rfl hi).1)]; exact HS.out))
          clear hst
          go_wp2_with fail
          refine HC.out.mono ?_
          rintro r w3 ⟨rfl, hb3⟩
          have HB3 := Lib.hid (HB1.out.trans ((HB.out.trans (hb3.mono (by omega))).mono HB1.out.size))
          clear hb3
          go_wp2
          go_ret2
          exact ⟨ret2 HE.out, HB3.out⟩
        | some u =>
          have HS := Lib.hid hst
          rw [stepR_some hst] at HC
          have hu : u ≤ 1 := step_le x.op _ (by
            intro y hy
            obtain ⟨q, hq, rfl⟩ := List.mem_map.1 hy
            have := HAH.out k x HX.out q hq
            exact inT_le _ _ (HRL.out.val rfl (j := q.toNat) (by omega)).1) u hst
          have HN := Lib.hid (HRL.out.next (E' := false) (u := (u : Int)) HAH.out HX.out (fun h => h) (fun _ _ => ⟨u, hst, rfl⟩) (fun _ h => by cases h))
          clear hst
          go_wp2_with fail
          refine HC.out.mono ?_
          rintro r w3 ⟨rfl, hb3⟩
          have HO3 := Lib.hid (own_below HO.out hb3)
          have HB3 := Lib.hid (HB.out.trans (hb3.mono (by omega)))
          have hz3 := hb3.size
          have c1 := (HO3.out.cellAt k (by omega)).trans (intsOf_get _ k _ (HRL.out.rest k (Nat.le_refl _) hlt))
          have f1 := HO3.out.frozenAt k
          clear hb3
          go_wp2
          refine ⟨⟨k + 1, L.set k (u : Int), by omega, by go_num, ?_, HB3.out.setCell (by simp) _, by simp [World.setCell]; omega, HN.out⟩, by simp [intOf]; omega⟩
          rw [intsOf_set]
          exact (HO3.out.stored k (.int .i64 (u : Int))).1
      · have hkl : k = e.length := by omega
        subst hkl
        obtain ⟨u, hu1, hu2⟩ := hrl.ok rfl (e.length - 1) (by omega)
        have c1 := (hown.cellAt (e.length - 1) (by omega)).trans (intsOf_get _ _ _ hu2)
        have HE : Hid (R = ((u : Int), 0)) := Lib.hid (by rw [← HR.out]; exact ofM_good HM.out hrl hu2)
        have e2 : (e.length : Int) - 1 = ((e.length - 1 : Nat) : Int) := by omega
        clear hu1 hu2 hown hb hrl
        go_wp2
        go_ret2
        exact ⟨ret2 HE.out, HB1.out.trans (HB.out.mono HB1.out.size)⟩
end Go.Proofs.Ytndmhbocfmnhgaa.In

/- The program's Of for layer inits. Conditions: the slice is read as a list of nodes. -/
namespace Go.Proofs.Ytndmhbocfmnhgaa.In
open Go.ChangeShapes Go.WideShapes Go.ChangeAt Go.RowKit Go.Proofs.Ytndmhbocfmnhgaa.Tr
set_option linter.unusedVariables false
set_option linter.unusedSimpArgs false

/-- What lies in memory at each place of the way. -/
structure InS (e : List Nd) (w0 w : World) (B FB EB : Nat) (L : List Int) (E : Bool) : Prop where
  own : w.ownsRow B 3 1 (.slice (some ⟨B, 0, none⟩) e.length e.length) e.length (intsOf L)
  fb : w.heap[FB]? = some (.cells #[.slice (some ⟨B, 0, none⟩) e.length e.length] 48 (0, 0))
  eb : w.heap[EB]? = some (.cells #[.bool E] 4 (0, 0))
  low : Below w0.heap.size w0 w
  hB : w0.heap.size ≤ B
  hF : w0.heap.size ≤ FB
  hE : w0.heap.size ≤ EB
  nF : FB ≠ B
  nE : EB ≠ B
theorem InS.below {e : List Nd} {w0 w w' : World} {B FB EB : Nat} {L : List Int} {E : Bool} (h : InS e w0 w B FB EB L E) (hb : Below w.heap.size w w') : InS e w0 w' B FB EB L E :=
  ⟨own_below h.own hb, (hb.block _ (lt_of_block h.fb)).trans h.fb, (hb.block _ (lt_of_block h.eb)).trans h.eb, h.low.trans (hb.mono h.low.size), h.hB, h.hF, h.hE, h.nF, h.nE⟩
theorem InS.must {e : List Nd} {w0 w w' : World} {B FB EB : Nat} {L : List Int} {E E' : Bool} (h : InS e w0 w B FB EB L E) (hx : w'.heap[EB]? = some (.cells #[.bool E'] 4 (0, 0))) (hg : w.grownBy w' (some EB)) : InS e w0 w' B FB EB L E' := by
  have hFE : FB ≠ EB := by
    rintro rfl
    have := h.fb.symm.trans h.eb
    simp at this
  exact ⟨own_block h.own (fun g hgb => by injection hgb with hgb; subst hgb; exact hg.block _ (h.own.lt _ rfl).2 (fun e => h.nE (by injection e with e; exact e.symm))), (hg.block _ (lt_of_block h.fb) (fun e => hFE (by injection e))).trans h.fb, hx,
    ⟨hg.os.trans h.low.os, hg.tape.trans h.low.tape, hg.output.trans h.low.output, Nat.le_trans h.low.size hg.size, fun i hi => (hg.block i (Nat.lt_of_lt_of_le hi h.low.size) (fun e => by injection e with e; have := h.hE; omega)).trans (h.low.block i hi)⟩, h.hB, h.hF, h.hE, h.nF, h.nE⟩
theorem InS.set {e : List Nd} {w0 w : World} {B FB EB : Nat} {L : List Int} {E : Bool} (h : InS e w0 w B FB EB L E) (k : Nat) (hk : k < e.length) (u : Int) : InS e w0 (w.setCell ⟨B, k, none⟩ (.int .i64 u)) B FB EB (L.set k u) E :=
  ⟨by rw [intsOf_set]; exact (h.own.stored k (.int .i64 u)).1, (Below.heap_setCell w _ _ _ (by simpa using h.nF)).trans h.fb, (Below.heap_setCell w _ _ _ (by simpa using h.nE)).trans h.eb, h.low.setCell (by exact h.hB) _, h.hB, h.hF, h.hE, h.nF, h.nE⟩
theorem InS.call {e : List Nd} {w0 w : World} {B FB EB : Nat} {L : List Int} {E : Bool} (h : InS e w0 w B FB EB L E) (hLl : L.length = e.length) (hn : e.length ≤ maxLen) {kv : Value} {kl : List Int} (hk : Ints w kv kl) (hkl : kl.length ≤ 1000000) (hin : ∀ q ∈ kl, 0 ≤ q ∧ q.toNat < e.length) (hkE : ∀ g o n c, kv = .slice (some ⟨g, o, none⟩) n c → g ≠ EB) :
    Calls Try.prog 23 #[kv, .pointer (some ⟨EB, 0, none⟩), .pointer (some ⟨FB, 0, none⟩)] w fun r w' => r = .returned (.tuple #[]) ∧ InS e w0 w' B FB EB L (E || anyL L kl) ∧ w.grownBy w' (some EB) :=
  (must_any kv _ kl L EB FB E w hk (ints_row hLl (Nat.le_refl _) hn h.own (h.own.lt _ rfl).2) h.eb h.fb (fun q hq => by rw [hLl]; exact hin q hq) hkE (fun g o n c e => by simp at e; intro hh; exact h.nE (by rw [← hh, e.1.1])) hkl).mono fun r w' ⟨h1, h2, h3⟩ => ⟨h1, h.must h2 h3, h3⟩
theorem rel_21 {e : List Nd} {k : Nat} {L : List Int} {E : Bool} {x : Nd} (ha : Ahead e) (hx : e[k]? = some x) (h : Rel e k L E) (ho : x.op = 21) : Rel e (k + 1) (L.set k 1) (E || anyL L (kidsM x)) := by
  have hk := ha k x hx
  refine h.next ha hx (fun hE => by rw [hE]; rfl) (fun hE h1 => ?_) (fun hE h1 => ?_)
  · subst hE
    rw [Bool.false_or, any_most h hk, decide_eq_false_iff_not, Classical.not_not] at h1
    exact ⟨1, by unfold stepI; rw [if_pos ho, if_pos h1], rfl⟩
  · subst hE
    rw [Bool.false_or, any_most h hk, decide_eq_true_iff] at h1
    unfold stepI; rw [if_pos ho, if_neg h1]
theorem rel_all {e : List Nd} {k : Nat} {L : List Int} {E : Bool} {x : Nd} (ha : Ahead e) (hx : e[k]? = some x) (h : Rel e k L E) (h1 : x.op ≠ 21) (h2 : x.op ≠ 19) (ho : allB x.op = true) : Rel e (k + 1) L (E || anyL L (kidsM x)) := by
  have hk := ha k x hx
  have hkl := (List.getElem?_eq_some_iff.1 hx).1
  have hs : L.set k 0 = L := by
    have := h.rest k (Nat.le_refl _) hkl
    apply List.ext_getElem? ; intro i
    by_cases hi : k = i
    · subst hi; rw [List.getElem?_set_self (by rw [h.len]; exact hkl), this]
    · rw [List.getElem?_set_ne hi]
  rw [← hs]
  rw [show anyL (L.set k 0) (kidsM x) = anyL L (kidsM x) by rw [hs]]
  refine h.next ha hx (fun hE => by rw [hE]; rfl) (fun hE h3 => ?_) (fun hE h3 => ?_)
  · subst hE
    rw [Bool.false_or, any_most h hk, decide_eq_false_iff_not, Classical.not_not] at h3
    exact ⟨0, by unfold stepI; rw [if_neg h1, if_neg h2, if_pos ho, if_pos h3], rfl⟩
  · subst hE
    rw [Bool.false_or, any_most h hk, decide_eq_true_iff] at h3
    unfold stepI; rw [if_neg h1, if_neg h2, if_pos ho, if_neg h3]
theorem rel_19 {e : List Nd} {k : Nat} {L : List Int} {E : Bool} {x : Nd} (ha : Ahead e) (hx : e[k]? = some x) (h : Rel e k L E) (ho : x.op = 19) : Rel e (k + 1) L (E || anyL L [x.a]) := by
  have hk := ha k x hx
  have hkl := (List.getElem?_eq_some_iff.1 hx).1
  have hb : kidsM x = [x.a, x.b] := kidsM_bin x (by rw [ho]; decide)
  have hxa := hk x.a (by rw [hb]; simp)
  have hs : L.set k 0 = L := by
    have := h.rest k (Nat.le_refl _) hkl
    apply List.ext_getElem? ; intro i
    by_cases hi : k = i
    · subst hi; rw [List.getElem?_set_self (by rw [h.len]; exact hkl), this]
    · rw [List.getElem?_set_ne hi]
  rw [← hs]
  rw [show anyL (L.set k 0) [x.a] = anyL L [x.a] by rw [hs]]
  have hst : stepI x.op ((kidsM x).map fun j => valOf L j.toNat) = if valOf L x.a.toNat = 0 then some 0 else none := by
    rw [hb, ho]; unfold stepI; rw [if_neg (by decide), if_pos rfl]; rfl
  refine h.next ha hx (fun hE => by rw [hE]; rfl) (fun hE h3 => ?_) (fun hE h3 => ?_)
  · subst hE
    have hv := (h.val rfl (j := x.a.toNat) (by omega)).2
    have h4 : L.getD x.a.toNat 0 = 0 := by simpa [anyL] using h3
    exact ⟨0, by rw [hst, if_pos (by omega)], rfl⟩
  · subst hE
    have hv := (h.val rfl (j := x.a.toNat) (by omega)).2
    have h4 : ¬ L.getD x.a.toNat 0 = 0 := by simpa [anyL] using h3
    rw [hst, if_neg (by omega)]
theorem rel_else {e : List Nd} {k : Nat} {L : List Int} {E : Bool} {x : Nd} (ha : Ahead e) (hx : e[k]? = some x) (h : Rel e k L E) (h1 : x.op ≠ 21) (h2 : x.op ≠ 19) (ho : allB x.op = false) : Rel e (k + 1) (L.set k (mxL L (kidsM x) (kidsM x).length)) E := by
  have hk := ha k x hx
  refine h.next ha hx (fun hE => hE) (fun hE _ => ?_) (fun hE h3 => by rw [hE] at h3; cases h3)
  refine ⟨most ((kidsM x).map fun j => valOf L j.toNat), by unfold stepI; rw [if_neg h1, if_neg h2, if_neg (by rw [ho]; decide)], ?_⟩
  exact mxL_nat L (valOf L) (kidsM x) (fun q hq => (h.val hE (j := q.toNat) (by have := hk q hq; omega)).2)
end Go.Proofs.Ytndmhbocfmnhgaa.In

