/- The document's answer for layer expr: a number behind within, and an operand. Conditions: a reader lies in memory at a token; the contract of operands at less fuel. -/
import Derived.Test.YtobkcdkffcenbaaGreatDoorKb19
import Derived.Deep.QuietTactic
import Derived.BigQuiet
import Derived.Test.YtobkcdkffcenbaaGreatDoorKb15
import Derived.Test.YtobkcdkffcenbaaGreatDoorKb17
import Derived.OwnWalk
import Derived.Deep.LoopGhost
import Derived.Maps.AppendAt
import Derived.OneCell
set_option linter.unusedVariables false
set_option linter.unusedSimpArgs false
namespace Go.Proofs.YtobkcdkffcenbaaGreatDoor.Rf
open Go.ChangeShapes Go.WideShapes Go.ChangeAt Go.RowKit
open Go.Proofs.YtobkcdkffcenbaaGreatDoor.Ex Go.Proofs.YtobkcdkffcenbaaGreatDoor.Sh
open Go.Proofs.YtobkcdkffcenbaaGreatDoor.Tr (str ret_bool ret_int Bytes Nd T joinM roomM binaryB unaryB plainB)
theorem opnd_at {L : List Ex.Tok} {f : Nat} {r : Rd} {p : Pt} {r' : Rd} {w : World} {b : Nat} (H : ROpnd L f) (h : run f .opnd r = some (p, r')) (hr : Rf w b L r) : Calls Tryz.prog 114 #[.pointer (some ⟨b, 0, none⟩)] w (Got w b L p r') := H r p r' h w b hr
theorem Rf.adv {w : World} {b : Nat} {L : List Ex.Tok} {r : Rd} (h : Rf w b L r) (hc : r.code = 0) (hi : r.next < L.length) : ∃ i : Nat, i < L.length ∧ w.cell? ⟨b, 1, none⟩ = some (.int .i64 (i : Int)) ∧ w.frozen? ⟨b, 1, none⟩ = false ∧ RfTo w (w.setCell ⟨b, 1, none⟩ (.int .i64 ((i : Int) + 1))) b L r.adv := by
  obtain ⟨lv, i, o, c, a, hat⟩ := h
  have hil : i < L.length := by
    rcases hat.st with ⟨_, _, _, h4⟩ | ⟨h1, _⟩
    · omega
    · exact absurd hc h1
  exact ⟨i, hil, rf_cell hat.blk 1, rf_free hat.blk 1, hat.setI hc hil⟩
theorem Rf.cells {w : World} {b : Nat} {L : List Ex.Tok} {r : Rd} (h : Rf w b L r) (hc : r.code = 0) : ∃ A cc, L.length ≤ cc ∧ cc ≤ maxLen ∧ w.cell? ⟨b, 0, none⟩ = some (.slice A L.length cc) ∧ w.cell? ⟨b, 1, none⟩ = some (.int .i64 (r.next : Int)) ∧ w.cell? ⟨b, 3, none⟩ = some (.int .i64 0) ∧ r.next ≤ L.length ∧
    ∀ t, L[r.next]? = some t → ∃ g, A = some ⟨g, 0, none⟩ ∧ g < b ∧ g < w.heap.size ∧ w.cell? ⟨g, r.next * 3, none⟩ = some (.int .i64 t.kind) ∧ w.cell? ⟨g, r.next * 3 + 1, none⟩ = some (.string (str t.text)) ∧ w.cell? ⟨g, r.next * 3 + 2, none⟩ = some (.int .i64 (t.at_ : Int)) := by
  obtain ⟨lv, i, o, c, a, hat⟩ := h
  obtain ⟨A, cc, rfl, h1, h2, hA⟩ := hat.tok
  obtain ⟨q1, q2, q3, q4⟩ := hat.st.resolve_right (fun h => h.1 hc)
  subst q2; subst q4
  exact ⟨A, cc, h1, h2, rf_cell hat.blk 0, rf_cell hat.blk 1, rf_cell hat.blk 3, hat.ile, fun t ht => hA _ t ht⟩
theorem Rf.code_cell {w : World} {b : Nat} {L : List Ex.Tok} {r : Rd} (h : Rf w b L r) : ∃ c, w.cell? ⟨b, 3, none⟩ = some (.int .i64 c) ∧ (c = 0 ↔ r.code = 0) := by
  obtain ⟨lv, i, o, c, a, hat⟩ := h
  refine ⟨c, rf_cell hat.blk 3, ?_⟩
  rcases hat.st with ⟨h1, h2, _⟩ | ⟨h1, h2, _⟩
  · exact ⟨fun _ => h1, fun _ => h2⟩
  · rw [h2]
theorem cur_at {L : List Ex.Tok} {r : Rd} (hl : r.l = L) {t : Ex.Tok} (h : L[r.next]? = some t) : r.cur = t := by unfold Rd.cur; rw [hl, h]; rfl
set_option maxRecDepth 100000 in
set_option maxHeartbeats 4000000 in
theorem within_any (L : List Ex.Tok) (hok : OkL L) (ht0 : ∀ t ∈ L, t.text.length ≤ 1000000) (f : Nat) (H : ROpnd L f) (r0 : Rd) (hc0 : r0.code = 0) (hi0 : r0.next < L.length) (q : Pt) (r1 : Rd) (k : run f .opnd (r0.adv.numR 1000) = some (q, r1)) (w : World) (b : Nat) (hr : Rf w b L r0) :
    Calls Tryz.prog 119 #[.pointer (some ⟨b, 0, none⟩)] w (Got w b L (joined 25 (r0.adv.num 1000 : Nat) [] [q]) r1) := by
  have HH := Lib.hid H
  have HR := Lib.hid hr
  have hL : L.length ≤ 100000 := by have := hok.len; omega
  have HLEN := Lib.hid hok.len
  have HK := Lib.hid k
  obtain ⟨i, hi, x1, f1, hset⟩ := hr.adv hc0 hi0
  obtain ⟨w1, hw1⟩ : ∃ w1, w.setCell ⟨b, 1, none⟩ (.int .i64 ((i : Int) + 1)) = w1 := ⟨_, rfl⟩
  have HW1 := Lib.hid hw1
  rw [hw1] at hset
  have HT1 := Lib.hid hset
  have hc1 : r0.adv.code = 0 := hc0
  obtain ⟨A, cc, z1, z2, d0, d1, d3, hle, hA⟩ := hset.rd.cells hc1
  unfold maxLen at z2
  have HA := Lib.hid hA
  have hlive := Lib.hid (hset.rd.live hc1)
  obtain ⟨NX, hNX⟩ : ∃ NX, r0.adv.next = NX := ⟨_, rfl⟩
  rw [hNX] at d1 hle
  have HNX := Lib.hid hNX
  have hlt := hset.rd.lt
  clear H hr k hset hw1 hA hNX
  by_cases hin : NX < L.length
  rotate_left
  · -- at the end
    have hn : numB 1000 r0.adv.cur = false := by
      have : r0.adv.cur = noTok := by unfold Rd.cur; rw [hlive.out, HNX.out, List.getElem?_eq_none (by omega)]; rfl
      rw [this]; rfl
    have HF : Hid (r0.adv.numR 1000 = r0.adv.fail 5) := Lib.hid (by unfold Rd.numR; rw [hn]; rfl)
    have e1 : decide ((L.length : Int) ≤ (NX : Int)) = true := decide_eq_true (by omega)
    have e2 : decide (L.length ≤ NX) = true := decide_eq_true (by omega)
    clear hn
    go_enter Tryz.func119, Tryz.ntmps119
    go_wp2
    rw [HW1.out]
    go_quiet (fail)
    go_wp2_with fail
    refine (rfail_any b L r0.adv 5 (by decide) _ (HT1.out.then_below (Tr.below_drewN (Below.refl _ _) _)).rd hL).mono ?_
    rintro e w2 ⟨rfl, hto⟩
    have HT2 : Hid (RfTo w w2 b L (r0.adv.fail 5)) := Lib.hid ((HT1.out.then_below (Tr.below_drewN (Below.refl _ _) _)).trans hto)
    clear hto
    go_wp2
    go_ret
    have hd := HT2.out.rd.run_dead (t := .opnd) (fail_code 5 (by decide) _) (by rw [← HF.out]; exact HK.out) trivial
    exact ⟨_, [], rfl, PtW.nil _ _ rfl, fun hc => absurd hc hd.2, ⟨hd.1, HT2.out.grown⟩⟩
  obtain ⟨t, ht⟩ : ∃ t, L[NX]? = some t := ⟨_, List.getElem?_eq_getElem hin⟩
  obtain ⟨g, hAg, _, hg, t0, t1, t2⟩ := HA.out t (by rw [HNX.out]; exact ht)
  subst hAg
  rw [HNX.out] at t0 t1 t2
  have HCUR := Lib.hid (cur_at hlive.out (by rw [HNX.out]; exact ht))
  have hgood := hok.good t (List.mem_of_getElem? ht)
  have htl := ht0 t (List.mem_of_getElem? ht)
  obtain ⟨K, TX, P⟩ := t
  simp only at t0 t1 t2 hgood htl
  clear ht
  have e1 : decide ((L.length : Int) ≤ (NX : Int)) = false := decide_eq_false (by omega)
  have e2 : decide (L.length ≤ NX) = false := decide_eq_false (by omega)
  by_cases hK : K = 2
  rotate_left
  · -- no number
    have hKb : (K != 2) = true := by simpa using hK
    have hn : numB 1000 r0.adv.cur = false := by rw [HCUR.out]; unfold numB; simp [hK]
    have HF : Hid (r0.adv.numR 1000 = r0.adv.fail 5) := Lib.hid (by unfold Rd.numR; rw [hn]; rfl)
    clear hn hK hgood
    go_enter Tryz.func119, Tryz.ntmps119
    go_wp2
    rw [HW1.out]
    go_quiet (fail)
    go_wp2_with fail
    refine (rfail_any b L r0.adv 5 (by decide) _ (HT1.out.then_below (Tr.below_drewN (Below.refl _ _) _)).rd hL).mono ?_
    rintro e w2 ⟨rfl, hto⟩
    have HT2 : Hid (RfTo w w2 b L (r0.adv.fail 5)) := Lib.hid ((HT1.out.then_below (Tr.below_drewN (Below.refl _ _) _)).trans hto)
    clear hto
    go_wp2
    go_ret
    have hd := HT2.out.rd.run_dead (t := .opnd) (fail_code 5 (by decide) _) (by rw [← HF.out]; exact HK.out) trivial
    exact ⟨_, [], rfl, PtW.nil _ _ rfl, fun hc => absurd hc hd.2, ⟨hd.1, HT2.out.grown⟩⟩
  subst hK
  have hdig := (good_cur (r := r0.adv) (by rw [hlive.out]; exact hok.good)).1 (by rw [HCUR.out])
  rw [HCUR.out] at hdig
  simp only at hdig
  obtain ⟨g1, g2, g3⟩ := hdig
  have HVAL : Hid (∀ w : World, Calls Tryz.prog 78 #[.string (str TX)] w (fun e w' => e = .returned (.int .i64 (Lx.val TX : Int)) ∧ w = w')) := Lib.hid (fun w => value_tok htl g1 g3)
  obtain ⟨V, hV⟩ : ∃ V, Lx.val TX = V := ⟨_, rfl⟩
  rw [hV] at HVAL g3
  have HV := Lib.hid hV
  have hKb : ((2 : Int) != 2) = false := by decide
  clear hV hgood
  by_cases hbig : V ≤ 1000
  rotate_left
  · -- too great
    have e3 : decide ((1000 : Int) < (V : Int)) = true := decide_eq_true (by omega)
    have e4 : decide (1000 < V) = true := decide_eq_true (by omega)
    have hn : numB 1000 r0.adv.cur = false := by rw [HCUR.out]; unfold numB; simp only [HV.out]; simp; omega
    have HF : Hid (r0.adv.numR 1000 = r0.adv.fail 5) := Lib.hid (by unfold Rd.numR; rw [hn]; rfl)
    clear hn
    go_enter Tryz.func119, Tryz.ntmps119
    go_wp2
    rw [HW1.out]
    go_quiet ((go_at_call 78; exact Calls.quiet_of_same ((HVAL.out _).mono fun e w' h => ⟨h.1, h.2.symm⟩)))
    go_wp2_with fail
    refine (rfail_any b L r0.adv 5 (by decide) _ (HT1.out.then_below (Tr.below_drewN (Below.refl _ _) _)).rd hL).mono ?_
    rintro e w2 ⟨rfl, hto⟩
    have HT2 : Hid (RfTo w w2 b L (r0.adv.fail 5)) := Lib.hid ((HT1.out.then_below (Tr.below_drewN (Below.refl _ _) _)).trans hto)
    clear hto
    go_wp2
    go_ret
    have hd := HT2.out.rd.run_dead (t := .opnd) (fail_code 5 (by decide) _) (by rw [← HF.out]; exact HK.out) trivial
    exact ⟨_, [], rfl, PtW.nil _ _ rfl, fun hc => absurd hc hd.2, ⟨hd.1, HT2.out.grown⟩⟩
  · have e3 : decide ((1000 : Int) < (V : Int)) = false := decide_eq_false (by omega)
    have e4 : decide (1000 < V) = false := decide_eq_false (by omega)
    have hn : numB 1000 r0.adv.cur = true := by rw [HCUR.out]; unfold numB; simp only [HV.out]; simp; omega
    have HF : Hid (r0.adv.numR 1000 = r0.adv.adv) := Lib.hid (by unfold Rd.numR; rw [hn]; rfl)
    have HN : Hid (r0.adv.num 1000 = V) := Lib.hid (by unfold Rd.num; rw [hn, HCUR.out]; exact HV.out)
    rw [HN.out]
    clear hn
    have HNL : Hid (r0.adv.next < L.length) := Lib.hid (by rw [HNX.out]; exact hin)
    go_enter Tryz.func119, Tryz.ntmps119
    go_wp2
    rw [HW1.out]
    go_quiet ((go_at_call 78; exact Calls.quiet_of_same ((HVAL.out _).mono fun e w' h => ⟨h.1, h.2.symm⟩)))
    go_wp2
    obtain ⟨W, hW⟩ : ∃ W, w1.drewN nq = W := ⟨_, rfl⟩
    have d0' : W.cell? ⟨b, 0, none⟩ = some (.slice (some ⟨g, 0, none⟩) L.length cc) := hW ▸ d0
    have d1' : W.cell? ⟨b, 1, none⟩ = some (.int .i64 (NX : Int)) := hW ▸ d1
    have t1' : W.cell? ⟨g, NX * 3 + 1, none⟩ = some (.string (str TX)) := hW ▸ t1
    have HTW : Hid (RfTo w W b L r0.adv) := Lib.hid (hW ▸ HT1.out.then_below (Tr.below_drewN (Below.refl _ _) nq))
    rw [hW]
    clear hW d0 d1 t1 t0 t2 d3
    go_quiet ((go_at_call 78; exact Calls.quiet_of_same ((HVAL.out _).mono fun e w' h => ⟨h.1, h.2.symm⟩)))
    obtain ⟨W2, hW2⟩ : ∃ W2, W.drewN nq = W2 := ⟨_, rfl⟩
    have HT2 : Hid (RfTo w W2 b L r0.adv) := Lib.hid (hW2 ▸ HTW.out.then_below (Tr.below_drewN (Below.refl _ _) _))
    rw [hW2]
    clear hW2 d0' d1' t1'
    obtain ⟨i2, hi2, x2, f2, hset2⟩ := HT2.out.rd.adv hc1 HNL.out
    obtain ⟨w3, hw3⟩ : ∃ w3, W2.setCell ⟨b, 1, none⟩ (.int .i64 ((i2 : Int) + 1)) = w3 := ⟨_, rfl⟩
    have HW3 := Lib.hid hw3
    rw [hw3] at hset2
    have HT3 : Hid (RfTo w w3 b L r0.adv.adv) := Lib.hid (HT2.out.trans hset2)
    clear hset2 hw3
    go_wp2_with fail
    rw [HW3.out]
    have hk2 : run f .opnd r0.adv.adv = some (q, r1) := by rw [← HF.out]; exact HK.out
    have HK2 := Lib.hid hk2
    clear hk2
    refine (opnd_at HH.out HK2.out HT3.out.rd).mono ?_
    rintro e w4 ⟨ev, l, rfl, hp4, hrd, hto⟩
    have HP4 := Lib.hid hp4
    have HRD := Lib.hid hrd
    have HT4 := Lib.hid (HT3.out.trans hto)
    obtain ⟨⟨A4, c4, hv4, y1, y2, _⟩, _⟩ := hp4
    simp only at hv4 y1
    subst hv4
    unfold maxLen at y2
    clear hrd hto
    obtain ⟨cc4, x4, hiff⟩ := HT4.out.rd.code_cell
    have HSZ : Hid (r1.code = 0 → l.length ≤ 20000) := Lib.hid (fun hc => by
      have e1 := HRD.out.len hc
      have e2 := HT3.out.rd.step_len' HK2.out trivial rfl HT4.out.rd hc
      have := HLEN.out
      omega)
    by_cases h0 : cc4 = 0
    · have hd : (cc4 != 0) = false := by simp [h0]
      have HC := Lib.hid (hiff.1 h0)
      clear h0 hiff
      go_wp2_with fail
      refine (Tr.rjoin_all _ [l] 25 (V : Int) [] _ (parts_one HP4.out.1) (by have := HSZ.out HC.out; unfold roomM; simp; omega)).mono ?_
      rintro e w5 ⟨v, rfl, ho, hb⟩
      have HM := Lib.hid (make_of (below_new w4 (.cells #[.slice A4 l.length c4] 32)) ⟨v, rfl, ho, hb⟩)
      obtain ⟨A, cv, rfl, -, -, -⟩ := Tr.Nodes.of_own ho
      clear ho hb
      go_wp2
      go_ret
      obtain ⟨ev, e1, e2, e3⟩ := HM.out
      have hR := Read.one (o := 25) (n := (V : Int)) (by decide) (fun _ => by simp [plainB]; omega) HRD.out (fun hc => by have := HSZ.out hc; omega)
      rw [if_pos HC.out] at hR
      exact ⟨ev, _, e1, e2, hR, HT4.out.then_below e3⟩
    · have hd : (cc4 != 0) = true := by simp [h0]
      have HC := Lib.hid (fun h => h0 (hiff.2 h))
      clear h0 hiff
      go_wp2
      go_ret
      exact ⟨_, [], rfl, PtW.nil _ _ rfl, fun hc => absurd hc HC.out, HT4.out⟩
end Go.Proofs.YtobkcdkffcenbaaGreatDoor.Rf
namespace Go.Proofs.YtobkcdkffcenbaaGreatDoor.Ex
open Go.ChangeShapes Go.WideShapes Go.ChangeAt Go.RowKit
open Go.Proofs.YtobkcdkffcenbaaGreatDoor.Tr (str ret_bool ret_int Bytes Nd joinM roomM)
def ExprsAt (w : World) (b : Nat) (ps : List Pt) (evs : List Value) : Prop :=
  evs.length = ps.length ∧ ∀ (i : Nat) ev p, evs[i]? = some ev → ps[i]? = some p → Tr.Nodes w ev p.e ∧ (0 < p.e.length → ∀ g o n c, ev = .slice (some ⟨g, o, none⟩) n c → g < b)
theorem ExprsAt.keep {w w' : World} {b : Nat} {ps : List Pt} {evs : List Value} (h : ExprsAt w b ps evs) (hs : w.heap.size ≤ w'.heap.size) (hk : ∀ g, g < b → g < w.heap.size → w'.heap[g]? = w.heap[g]?) : ExprsAt w' b ps evs := by
  refine ⟨h.1, fun i ev p h1 h2 => ?_⟩
  obtain ⟨a, c⟩ := h.2 i ev p h1 h2
  exact ⟨a.low c hs hk, c⟩
theorem parts_of {w : World} {b : Nat} {n : Nat} {lv : Value} {evs : List Value} {ps : List Pt} (h : w.ownsRow b 32 1 lv n evs) (he : ExprsAt w w.heap.size ps evs) (hn : n = ps.length) : Tr.Parts w w.heap.size lv (ps.map Pt.e) := by
  obtain ⟨hl, h0 | ⟨g, cap, cur, rfl, hb, hh, hnc, hcm, hcs, hct⟩⟩ := h
  · obtain ⟨rfl, h0⟩ := h0
    have : ps = [] := List.length_eq_zero_iff.1 (by omega)
    subst this
    exact ⟨none, 0, rfl, by simp, by unfold maxLen; omega, fun i t h => by simp at h⟩
  · have h : w.ownsRow b 32 1 (.slice (some ⟨g, 0, none⟩) n cap) n evs := ⟨hl, .inr ⟨g, cap, cur, rfl, hb, hh, hnc, hcm, hcs, hct⟩⟩
    refine ⟨some ⟨g, 0, none⟩, cap, by rw [List.length_map, hn], by rw [List.length_map]; omega, hcm, fun i l hi => ?_⟩
    rw [List.getElem?_map] at hi
    obtain ⟨p, hp, rfl⟩ := Option.map_eq_some_iff.1 hi
    have hil : i < evs.length := by have := (List.getElem?_eq_some_iff.1 hp).1; have := he.1; omega
    have hv : evs[i]? = some (evs[i]'hil) := List.getElem?_eq_getElem hil
    obtain ⟨a, c⟩ := he.2 i _ p hv hp
    have hlg := lt_of_block hh
    exact ⟨g, 0, evs[i]'hil, rfl, hlg, hlg, by rw [Nat.zero_add, h.cellAt _ (by omega)]; exact hv, a, c⟩
end Go.Proofs.YtobkcdkffcenbaaGreatDoor.Ex
namespace Go.Proofs.YtobkcdkffcenbaaGreatDoor.Ex
open Go.ChangeShapes Go.WideShapes Go.ChangeAt Go.RowKit
open Go.Proofs.YtobkcdkffcenbaaGreatDoor.Tr (str ret_bool ret_int Bytes Nd joinM roomM own_block)
end Go.Proofs.YtobkcdkffcenbaaGreatDoor.Ex
namespace Go.Proofs.YtobkcdkffcenbaaGreatDoor.Rf
open Go.ChangeShapes Go.WideShapes Go.ChangeAt Go.RowKit
open Go.Proofs.YtobkcdkffcenbaaGreatDoor.Ex Go.Proofs.YtobkcdkffcenbaaGreatDoor.Sh
open Go.Proofs.YtobkcdkffcenbaaGreatDoor.Tr (str ret_bool ret_int Bytes Nd T joinM roomM binaryB unaryB)
theorem own_keep {w w' : World} {base : Nat} {e : TypeId} {sz : Nat} {v : Value} {n : Nat} {xs : List Value} (h : w.ownsRow base e sz v n xs) (hk : ∀ g, v.ownBlock = some g → w'.heap[g]? = w.heap[g]?) : w'.ownsRow base e sz v n xs := by
  obtain ⟨hl, h0 | ⟨g, cap, cur, rfl, hb, hh, hr⟩⟩ := h
  · exact ⟨hl, .inl h0⟩
  · exact ⟨hl, .inr ⟨g, cap, cur, rfl, hb, (hk g rfl).trans hh, hr⟩⟩
structure AList (w : World) (base : Nat) (ov : Value) (ls : List (List Nd)) (evs : List Value) : Prop where
  own : w.ownsRow base 32 1 ov ls.length evs
  len : evs.length = ls.length
  el : ∀ (i : Nat) ev l, evs[i]? = some ev → ls[i]? = some l → PtW w (ev, ⟨l, 0, 0⟩)
theorem AList.grownR {w w' : World} {base b : Nat} {L : List Ex.Tok} {r : Rd} {ov : Value} {ls : List (List Nd)} {evs : List Value} (h : AList w base ov ls evs) (hr : Rf w b L r) (hb : b < base) (hg : w.grownBy w' (some b)) : AList w' base ov ls evs :=
  ⟨own_keep h.own (fun g hg' => hg.block g (h.own.lt g hg').2 (fun e => by injection e with e; have := (h.own.lt g hg').1; omega)), h.len, fun i ev l h1 h2 => PtW.grownR (h.el i ev l h1 h2) hr hg⟩
theorem AList.below {w w' : World} {base : Nat} {ov : Value} {ls : List (List Nd)} {evs : List Value} (h : AList w base ov ls evs) (hb : Below w.heap.size w w') : AList w' base ov ls evs :=
  ⟨own_keep h.own (fun g hg' => hb.block g (h.own.lt g hg').2), h.len, fun i ev l h1 h2 => (h.el i ev l h1 h2).below hb⟩
theorem AList.parts {w : World} {base : Nat} {ov : Value} {ls : List (List Nd)} {evs : List Value} (h : AList w base ov ls evs) : Tr.Parts w w.heap.size ov ls := by
  have hp := parts_of (ps := ls.map fun l => (⟨l, 0, 0⟩ : Pt)) h.own ⟨by rw [h.len, List.length_map], fun i ev p h1 h2 => by
    rw [List.getElem?_map] at h2
    obtain ⟨l, h3, rfl⟩ := Option.map_eq_some_iff.1 h2
    exact ⟨(h.el i ev l h1 h3).1, nodes_low (h.el i ev l h1 h3).1⟩⟩ (by rw [List.length_map])
  have e : (ls.map fun l => (⟨l, 0, 0⟩ : Pt)).map Pt.e = ls := by rw [List.map_map]; conv => rhs; rw [← List.map_id ls]
                                                                  rfl
  rw [e] at hp
  exact hp
theorem AList.snoc {w W w' : World} {base : Nat} {ov ov' ev : Value} {ls : List (List Nd)} {evs : List Value} {l : List Nd} (h : AList w base ov ls evs) (hev : PtW w (ev, ⟨l, 0, 0⟩)) (hW : Below w.heap.size w W) (hown : w'.ownsRow base 32 1 ov' (ls.length + 1) (evs ++ [ev])) (hg : W.grownBy w' ov.ownBlock) : AList w' base ov' (ls ++ [l]) (evs ++ [ev]) := by
  have hk : ∀ g : Nat, (∃ (cs : Array Value) (f : Nat × Nat), W.heap[g]? = some (Obj.cells cs 70 f)) → w'.heap[g]? = W.heap[g]? := fun g ⟨cs, f, hc⟩ => hg.block g (lt_of_block hc) (fun e => by
    obtain ⟨_, h0 | ⟨g', cap, cur, hv, hb, hh, _⟩⟩ := h.own
    · rw [h0.1] at e; cases e
    · rw [hv] at e
      injection e with e
      subst e
      rw [hW.block g (lt_of_block hh), hh] at hc
      simp only [Option.some.injEq, Obj.cells.injEq] at hc
      exact absurd hc.2.1 (by decide))
  refine ⟨by rw [List.length_append]; exact hown, by rw [List.length_append, List.length_append, h.len]; rfl, fun i v m h1 h2 => ?_⟩
  by_cases hi : i < evs.length
  · rw [List.getElem?_append_left hi] at h1
    rw [List.getElem?_append_left (by rw [← h.len]; exact hi)] at h2
    exact ((h.el i v m h1 h2).below hW).keep hg.size hk
  · rw [List.getElem?_append_right (by omega)] at h1
    rw [List.getElem?_append_right (by rw [← h.len]; omega)] at h2
    have e0 : i - evs.length = 0 := by
      have := (List.getElem?_eq_some_iff.1 h1).1
      simp at this; omega
    rw [e0] at h1
    rw [← h.len, e0] at h2
    simp at h1 h2
    subst h1; subst h2
    exact (hev.below hW).keep hg.size hk
theorem own_slice {w : World} {base : Nat} {e : TypeId} {sz : Nat} {v : Value} {n : Nat} {xs : List Value} (h : w.ownsRow base e sz v n xs) : ∃ A c, v = .slice A n c ∧ n ≤ c ∧ c ≤ maxLen := by
  obtain ⟨hl, ⟨rfl, rfl⟩ | ⟨g, cap, cur, rfl, hb, hh, hnc, hcm, _⟩⟩ := h
  · exact ⟨none, 0, rfl, Nat.le_refl _, by unfold maxLen; omega⟩
  · exact ⟨some ⟨g, 0, none⟩, cap, rfl, hnc, hcm⟩
theorem RfTo.row {w w2 W w3 : World} {b : Nat} {L : List Ex.Tok} {q : Rd} {row : Option Nat} (h : RfTo w w2 b L q) (hlt : b < w.heap.size) (hW : Below w2.heap.size w2 W) (hg : W.grownBy w3 row) (hrow : ∀ g, row = some g → w.heap.size ≤ g) : RfTo w w3 b L q := by
  have hs := h.grown.size
  have hs2 := hW.size
  have hk : ∀ g, g < w.heap.size → w3.heap[g]? = w2.heap[g]? := fun g hg' => (hg.block g (by omega) (fun e => by have := hrow g e.symm; omega)).trans (hW.block g (by omega))
  obtain ⟨lv, i, o, c, a, hat⟩ := h.rd
  refine ⟨⟨lv, i, o, c, a, hat.keep (Nat.le_trans hs2 hg.size) (fun g h1 _ => hk g (by omega)) (hk b hlt)⟩, ⟨(hg.os.trans hW.os).trans h.grown.os, (hg.tape.trans hW.tape).trans h.grown.tape, (hg.output.trans hW.output).trans h.grown.output, Nat.le_trans hs (Nat.le_trans hs2 hg.size), fun i hi hne => (hk i hi).trans (h.grown.block i hi hne)⟩⟩
theorem Rf.code_cell' {w : World} {b : Nat} {L : List Ex.Tok} {r : Rd} (h : Rf w b L r) : ∃ c, w.cell? ⟨b, 3, none⟩ = some (.int .i64 c) ∧ (c = 0 ↔ r.code = 0) := by
  obtain ⟨lv, i, o, c, a, hat⟩ := h
  refine ⟨c, rf_cell hat.blk 3, ?_⟩
  rcases hat.st with ⟨h1, h2, _⟩ | ⟨h1, h2, _⟩
  · exact ⟨fun _ => h1, fun _ => h2⟩
  · rw [h2]
theorem args_end {g : Nat} {s : Bytes} {ps : List Pt} {q r' : Rd} {x : Pt} (h : run (g + 1) (.args s ps) q = some (x, r')) (hn : q.isB [44] = false) : x = joined 27 0 s ps ∧ r' = q.need rp := by
  rw [run, hn] at h
  simp only [Bool.false_eq_true, if_false, Option.some.injEq, Prod.mk.injEq] at h
  exact ⟨h.1.symm, h.2.symm⟩
theorem args_more {g : Nat} {s : Bytes} {ps : List Pt} {q r' : Rd} {x : Pt} (h : run (g + 1) (.args s ps) q = some (x, r')) (hn : q.isB [44] = true) : ∃ p q1, run g (.lev 1) q.adv = some (p, q1) ∧ run g (.args s (ps ++ [p])) q1 = some (x, r') := by
  rw [run, if_pos hn] at h
  obtain ⟨⟨p, q1⟩, a, b⟩ := bind_some h
  exact ⟨p, q1, a, b⟩
structure Dead (rr r' : Rd) : Prop where
  c0 : rr.code ≠ 0
  c : r'.code = rr.code
  a : r'.at_ = rr.at_
  l : r'.l = []
  b : r'.begun = rr.begun
theorem Dead.rf {w : World} {b : Nat} {L : List Ex.Tok} {rr r' : Rd} (h : Rf w b L rr) (d : Dead rr r') : Rf w b L r' := h.dead d.c0 d.c d.a d.l d.b
theorem Dead.of_run {r r' : Rd} {f : Nat} {t : Task} {p : Pt} (h0 : r.code ≠ 0) (hf : r.fine) (hr : run f t r = some (p, r')) (hp : t.pre r) : Dead r r' := by
  have h1 := run_code _ _ _ _ _ hr h0
  have hs := (run_step _ _ _ _ _ hr hf hp).1
  exact ⟨h0, h1.1, h1.2, hs.fine hf (by rw [h1.1]; exact h0), hs.beg⟩
structure AAt (w : World) (b : Nat) (L : List Ex.Tok) (s : Bytes) (x : Pt) (r' : Rd) (g : Nat) (wr : World) (rr : Rd) (ov : Value) (ps : List Pt) (ls : List (List Nd)) (evs : List Value) : Prop where
  al : AList wr w.heap.size ov ls evs
  rto : RfTo w wr b L rr
  live : rr.code = 0 → (∃ p q1, run g (.lev 1) rr = some (p, q1) ∧ run g (.args s (ps ++ [p])) q1 = some (x, r')) ∧ (∃ ts : List T, (∀ t ∈ ts, okT t) ∧ ps = ts.map ptOf ∧ ls = ts.map (fun t => t.flat 0)) ∧ (ps.map Pt.nodes).sum + ps.length ≤ rr.mu
  dead : rr.code ≠ 0 → Dead rr r'
  small : ls.length ≤ 100000
def ArgsTo (w : World) (b : Nat) (L : List Ex.Tok) (s : Bytes) (x : Pt) (r' : Rd) (e : Ending) (w' : World) : Prop :=
  ∃ v n c A ls, v = .slice A n c ∧ n ≤ c ∧ c ≤ maxLen ∧ e = .returned v ∧ RfTo w w' b L r' ∧ (r'.code = 0 → Tr.Parts w' w'.heap.size v ls ∧ roomM ls ≤ 80000 ∧ ∃ ts : List T, (∀ t ∈ ts, okT t) ∧ ls = ts.map (fun t => t.flat 0) ∧ x = joined 27 0 s (ts.map ptOf))
theorem info24' : (Tryz.prog.info? 32).map (fun i => (i.zero, i.size, i.bytes)) = some (some (.slice none 0 0), 1, 24) := by kernel_rfl
theorem sizes {ts : List T} : ((ts.map fun t => t.flat 0).map List.length).sum = ((ts.map ptOf).map Pt.nodes).sum := by
  induction ts with
  | nil => rfl
  | cons t r ih => simp only [List.map_cons, List.sum_cons, ih, Tr.T.flat_len]; rfl
set_option maxRecDepth 100000 in
set_option maxHeartbeats 8000000 in
theorem args_any (L : List Ex.Tok) (hok : OkL L) (f : Nat) (H : ∀ g, g ≤ f → RLev L g) (s : Bytes) (r : Rd) (x : Pt) (r' : Rd) (hnr : r.isB rp = false) (p : Pt) (q1 : Rd) (k1 : run f (.lev 1) r = some (p, q1)) (k2 : run f (.args s [p]) q1 = some (x, r')) (w : World) (b : Nat) (hr : Rf w b L r) :
    Calls Tryz.prog 122 #[.pointer (some ⟨b, 0, none⟩)] w (ArgsTo w b L s x r') := by
  have HH := Lib.hid H
  have HR := Lib.hid hr
  have hlt := hr.lt
  have hL : L.length ≤ 100000 := by have := hok.len; omega
  have HLEN := Lib.hid hok.len
  have HK1 := Lib.hid k1
  have HK2 := Lib.hid k2
  have HNR := Lib.hid hnr
  obtain ⟨i0, hi, hz0, hz1, hz2⟩ := info_parts info24'
  cases f with
  | zero => cases k1
  | succ f =>
  clear H hr k1 k2 hnr
  go_enter Tryz.func122, Tryz.ntmps122
  go_wp2_with fail
  refine (take_ok (s := rp) rfl HNR.out HR.out hL).mono ?_
  rintro e w1 ⟨rfl, ht1⟩
  have HT1 : Hid (RfTo w w1 b L r) := Lib.hid ht1
  have hs1 := ht1.grown.size
  clear ht1
  go_wp2
  go_loopg [3] (f + 1) (fun g s3 wr => ∃ (rr : Rd) (ov : Value) (ps : List Pt) (ls : List (List Nd)) (evs : List Value), g ≤ f + 1 ∧ ov = s3 ∧ AAt w b L s x r' g wr rr ov ps ls evs)
  case atStart =>
    refine ⟨r, _, [], [], [], Nat.le_refl _, rfl, ⟨⟨World.ownsRow_nil _ _ _ _, rfl, fun i ev l h => by simp at h⟩, HT1.out, fun _ => ⟨⟨p, q1, HK1.out, HK2.out⟩, ⟨[], by simp, rfl, rfl⟩, by simp⟩, fun hc => ?_, by simp⟩⟩
    have d1 := Dead.of_run hc HR.out.fine HK1.out (by simp [Task.pre])
    have hf1 : q1.fine := (run_step _ _ _ _ _ HK1.out HR.out.fine (by simp [Task.pre])).1.fine HR.out.fine
    have d2 := Dead.of_run (by rw [d1.c]; exact hc) hf1 HK2.out (by simp only [Task.pre, List.mem_singleton]; rintro y rfl; exact (run_step _ _ _ _ _ HK1.out HR.out.fine (by simp [Task.pre])).2.1)
    exact ⟨hc, d2.c.trans d1.c, d2.a.trans d1.a, d2.l, d2.b.trans d1.b⟩
  case round =>
    obtain ⟨rr, ov, ps, ls, evs, hgf, hov, hat⟩ := hrel
    subst hov
    have HAT := Lib.hid hat
    have hsm := hat.small
    obtain ⟨c, x3, hciff⟩ := hat.rto.rd.code_cell'
    have hown := hat.al.own
    obtain ⟨A0, c0, hov, hn1, hn2⟩ := own_slice hown
    subst hov
    unfold maxLen at hn2
    clear hat
    by_cases h0 : c = 0
    rotate_left
    · have hd : (c == 0) = false := by simpa using h0
      have hdead := Lib.hid (HAT.out.dead (fun h => h0 (hciff.2 h)))
      clear h0 hciff hown
      go_wp2
      go_ret
      exact ⟨_, 0, 0, none, [], rfl, Nat.le_refl _, by unfold maxLen; omega, rfl, ⟨hdead.out.rf HAT.out.rto.rd, HAT.out.rto.grown⟩, fun hc => absurd (hdead.out.c ▸ hc) hdead.out.c0⟩
    · have hd : (c == 0) = true := by simpa using h0
      obtain ⟨⟨p1, q2, k1, k2⟩, htr, hmu⟩ := HAT.out.live (hciff.1 h0)
      have HK1' := Lib.hid k1
      have HK2' := Lib.hid k2
      have HMU := Lib.hid hmu
      have HTR := Lib.hid htr
      have HC0 := Lib.hid (hciff.1 h0)
      clear h0 hciff k1 k2 htr hmu hown
      go_wp2_with fail
      refine (rlev_at (n := 1) (HH.out gk hgf) HK1'.out (by omega) (by omega) rfl HAT.out.rto.rd).mono ?_
      rintro e w2 ⟨ev, l, rfl, hp2, hrd2, hto2⟩
      have HP2 := Lib.hid hp2
      have HRD2 := Lib.hid hrd2
      have HT2 := Lib.hid (HAT.out.rto.trans hto2)
      have HAL2 := Lib.hid (HAT.out.al.grownR HAT.out.rto.rd hlt hto2.grown)
      have hsz2 := HT2.out.grown.size
      obtain ⟨⟨A2, c2, hv2, y1, y2, _⟩, _⟩ := hp2
      simp only at hv2 y1
      subst hv2
      unfold maxLen at y2
      clear hrd2 hto2
      go_wp2_with (at_builtin; refine wpList_append_own _ rfl (.tmp 12) (.tmp 15) 41 rfl w.heap.size 32 i0 _ 1 24 Tryz.underlying41 hi hz0 hz1 hz2 rfl (by decide) _ ls.length evs rfl (HAL2.out.own.alloc _) ⟨w2.heap.size, 0, none⟩ 1 1 [.slice A2 l.length c2] rfl rfl ?a1 ?b1 ?c1 ?d1 ?e1 ?_)
      case a1 => exact cell_one_new _ _ _
      case b1 => intro u hu; simp at hu; subst hu; rfl
      case c1 => unfold maxLen; omega
      case d1 => omega
      case e1 => simp; omega
      intro v3 w3 hown3 hgrow3 _
      have HAL3 := Lib.hid (HAL2.out.snoc HP2.out (below_new w2 _) hown3 hgrow3)
      have HT3 := Lib.hid (HT2.out.row hlt (below_new w2 _) hgrow3 (fun g hg => (HAL2.out.own.lt g hg).1))
      obtain ⟨A3, c3, hv3, y3, y4⟩ := own_slice hown3
      subst hv3
      unfold maxLen at y4
      clear hown3 hgrow3
      have HST := Lib.hid (run_step _ _ _ _ _ HK1'.out HAT.out.rto.rd.fine (by simp [Task.pre])).2.2
      obtain ⟨B, hB⟩ : ∃ B, q2.isB rp = B := ⟨_, rfl⟩
      obtain ⟨B2, hB2⟩ : ∃ B, q2.isB [44] = B := ⟨_, rfl⟩
      have HB := Lib.hid hB
      have HB2 := Lib.hid hB2
      clear hB hB2
      have HPS : Hid (ls.length = ps.length) := Lib.hid (by obtain ⟨ts, _, e1, e2⟩ := HTR.out; rw [e1, e2, List.length_map, List.length_map])
      go_wp2_with fail
      refine (take_ok (s := rp) rfl HB.out HT3.out.rd hL).mono ?_
      rintro e w4 ⟨rfl, ht4⟩
      cases gk with
      | zero => have := HK1'.out; cases this
      | succ gk =>
      cases B with
      | true =>
        have HT4 : Hid (RfTo w w4 b L q2.adv) := Lib.hid (HT3.out.trans ht4)
        have HAL4 := Lib.hid (HAL3.out.grownR HT3.out.rd hlt (show w3.grownBy w4 (some b) from ht4.grown))
        clear ht4
        have HE : Hid (x = joined 27 0 s (ps ++ [p1]) ∧ r' = q2.adv) := Lib.hid (by
          have hb2 : q2.isB [44] = false := isB_other HB.out (by decide)
          obtain ⟨e1, e2⟩ := args_end HK2'.out hb2
          exact ⟨e1, by rw [e2]; unfold Rd.need; rw [if_pos HB.out]⟩)
        have HC2 : Hid (q2.code = 0) := Lib.hid (code_of_isB HT3.out.rd HB.out)
        have HNL := Lib.hid (HT3.out.rd.next_le HC2.out)
        go_wp2
        go_ret
        refine ⟨_, _, _, _, ls ++ [l], rfl, y3, by unfold maxLen; exact y4, rfl, ⟨by rw [HE.out.2]; exact HT4.out.rd, HT4.out.grown⟩, fun _ => ⟨HAL4.out.parts, ?_, ?_⟩⟩
        · obtain ⟨t1, _, e1, e2⟩ := HRD2.out HC2.out
          obtain ⟨ts, _, e3, e4⟩ := HTR.out
          have h1 := HMU.out
          have h2 := HST.out
          have h3 := HNL.out
          have h4 := HLEN.out
          unfold Rd.mu at h1 h2
          rw [if_pos HC0.out] at h1 h2
          rw [if_pos HC2.out] at h2
          simp only [Task.base] at h2
          rw [Tr.room_sum, List.map_append, List.sum_append, List.length_append, e4, sizes, ← e3, List.length_map]
          have h5 := HRD2.out.len HC2.out
          have h6 : ts.length = ps.length := by rw [e3, List.length_map]
          simp only [List.map_cons, List.map_nil, List.sum_cons, List.sum_nil, List.length_cons, List.length_nil]
          omega
        · obtain ⟨t1, ht1, e1, e2⟩ := HRD2.out HC2.out
          obtain ⟨ts, hts, e3, e4⟩ := HTR.out
          exact ⟨ts ++ [t1], fun u hu => by rcases List.mem_append.1 hu with h | h; exact hts u h; simp at h; subst h; exact ht1, by rw [e4, e2, List.map_append]; rfl, by rw [HE.out.1, e3, e1, List.map_append]; rfl⟩
      | false =>
        have HT4 : Hid (RfTo w w4 b L q2) := Lib.hid (HT3.out.trans ht4)
        have HAL4 := Lib.hid (HAL3.out.grownR HT3.out.rd hlt (show w3.grownBy w4 (some b) from ht4.grown))
        clear ht4
        go_wp2_with fail
        refine (need_at (s := [44]) rfl HT4.out.rd hL).mono ?_
        rintro e w5 ⟨rfl, ht5⟩
        have HT5 := Lib.hid (HT4.out.trans ht5)
        have HAL5 := Lib.hid (HAL4.out.grownR HT4.out.rd hlt ht5.grown)
        clear ht5
        have hlen2 : ls.length ≤ 30000 := by
          have h1 := HMU.out
          have h2 := HAT.out.rto.rd.next_le HC0.out
          have h3 := HLEN.out
          unfold Rd.mu at h1
          rw [if_pos HC0.out] at h1
          rw [HPS.out]; omega
        go_wp2
        go_roundg gk
        case measure => omega
        case rel =>
          refine ⟨q2.need [44], _, ps ++ [p1], ls ++ [l], _, by omega, rfl, ⟨HAL5.out, HT5.out, fun hc => ?_, fun hc => ?_, by simp; omega⟩⟩
          · have hc2 : q2.code = 0 := need_code hc
            obtain ⟨hb2, hn2⟩ := need_ok hc
            obtain ⟨p3, q3, k3, k4⟩ := args_more HK2'.out hb2
            obtain ⟨t1, ht1, e1, e2⟩ := HRD2.out hc2
            obtain ⟨ts, hts, e3, e4⟩ := HTR.out
            refine ⟨⟨p3, q3, by rw [hn2]; exact k3, k4⟩, ⟨ts ++ [t1], fun u hu => by rcases List.mem_append.1 hu with h | h; exact hts u h; simp at h; subst h; exact ht1, by rw [e3, e1, List.map_append]; rfl, by rw [e4, e2, List.map_append]; rfl⟩, ?_⟩
            have h1 := HMU.out
            have h2 := HST.out
            simp only [Task.base] at h2
            rw [hn2, adv_mu, List.map_append, List.sum_append, List.length_append]
            simp only [List.map_cons, List.map_nil, List.sum_cons, List.sum_nil, List.length_cons, List.length_nil]
            omega
          · have hb2 : q2.isB [44] = false := by
              apply Classical.byContradiction; intro h
              have h' : q2.isB [44] = true := by simpa using h
              have h0 := code_of_isB HT4.out.rd h'
              apply hc; unfold Rd.need; rw [if_pos h']; exact h0
            obtain ⟨e1, e2⟩ := args_end HK2'.out hb2
            have e3 : q2.need [44] = q2.fail 5 := by unfold Rd.need; rw [if_neg (by rw [hb2]; decide)]
            have e4 : q2.need rp = q2.fail 5 := by unfold Rd.need; rw [if_neg (by rw [HB.out]; decide)]
            rw [e2, e4, e3]
            refine ⟨fail_code 5 (by decide) _, rfl, rfl, ?_, rfl⟩
            unfold Rd.fail; split <;> rfl
end Go.Proofs.YtobkcdkffcenbaaGreatDoor.Rf
namespace Go.Proofs.YtobkcdkffcenbaaGreatDoor.Rf
open Go.ChangeShapes Go.WideShapes Go.ChangeAt Go.RowKit
open Go.Proofs.YtobkcdkffcenbaaGreatDoor.Ex Go.Proofs.YtobkcdkffcenbaaGreatDoor.Sh
open Go.Proofs.YtobkcdkffcenbaaGreatDoor.Tr (str ret_bool ret_int Bytes Nd T joinM roomM binaryB unaryB plainB)
set_option maxHeartbeats 1600000 in
theorem args_none (L : List Ex.Tok) (hL : L.length ≤ 100000) (r : Rd) (hB : r.isB rp = true) (w : World) (b : Nat) (hr : Rf w b L r) :
    Calls Tryz.prog 122 #[.pointer (some ⟨b, 0, none⟩)] w (fun e w' => e = .returned (.slice none 0 0) ∧ RfTo w w' b L r.adv) := by
  have HR := Lib.hid hr
  have HB := Lib.hid hB
  clear hr hB
  go_enter Tryz.func122, Tryz.ntmps122
  go_wp2_with fail
  refine (take_ok (s := rp) rfl HB.out HR.out hL).mono ?_
  rintro e w1 ⟨rfl, ht1⟩
  have HT1 : Hid (RfTo w w1 b L r.adv) := Lib.hid ht1
  clear ht1
  go_wp2
  go_ret
  exact ⟨rfl, HT1.out⟩
theorem Read.call {s : Bytes} {ts : List T} {r' : Rd} {ls : List (List Nd)} (hs : s ≠ []) (hts : ∀ t ∈ ts, okT t) (hl : ls = ts.map (fun t => t.flat 0)) (hr : roomM ls ≤ 80000) : Read (joined 27 0 s (ts.map ptOf)) r' (joinM 27 0 s ls) := fun _ => by
  subst hl
  refine ⟨callT s ts, okT_call hs hts, ptOf_call s ts, joinM_call s ts ?_⟩
  rw [callT_size]
  rw [Tr.room_sum] at hr
  have : ((ts.map fun t => t.flat 0).map List.length).sum = (ts.map T.size).sum := by
    rw [List.map_map]; congr 1; apply List.map_congr_left; intro t _; exact T.flat_len t 0
  rw [this, List.length_map] at hr
  omega
set_option maxRecDepth 100000 in
set_option maxHeartbeats 4000000 in
theorem named_any (L : List Ex.Tok) (hok : OkL L) (f : Nat) (H : ∀ g, g ≤ f → RLev L g) (s : Bytes) (hs : s ≠ []) (r0 : Rd) (hc0 : r0.code = 0) (hi0 : r0.next < L.length) (x : Pt) (r' : Rd) (k : run (f + 1) (.named s) r0 = some (x, r')) (w : World) (b : Nat) (hr : Rf w b L r0) :
    Calls Tryz.prog 117 #[.pointer (some ⟨b, 0, none⟩), .string (str s)] w (Got w b L x r') := by
  have HH := Lib.hid H
  have HR := Lib.hid hr
  have hL : L.length ≤ 100000 := by have := hok.len; omega
  have HOK := Lib.hid hok
  obtain ⟨i, hi, x1, f1, hset⟩ := hr.adv hc0 hi0
  obtain ⟨w1, hw1⟩ : ∃ w1, w.setCell ⟨b, 1, none⟩ (.int .i64 ((i : Int) + 1)) = w1 := ⟨_, rfl⟩
  have HW1 := Lib.hid hw1
  rw [hw1] at hset
  have HT1 := Lib.hid hset
  obtain ⟨B, hB⟩ : ∃ B, r0.adv.isB lp = B := ⟨_, rfl⟩
  have HB := Lib.hid hB
  rw [run, hB] at k
  clear H hr hset hw1 hB
  cases B with
  | false =>
    simp only [Bool.false_eq_true, if_false, Option.some.injEq, Prod.mk.injEq] at k
    obtain ⟨rfl, rfl⟩ := k
    go_enter Tryz.func117, Tryz.ntmps117
    go_wp2_with fail
    rw [HW1.out]
    refine (take_ok (s := lp) rfl HB.out HT1.out.rd hL).mono ?_
    rintro e w2 ⟨rfl, ht2⟩
    have HT2 : Hid (RfTo w w2 b L r0.adv) := Lib.hid (HT1.out.trans ht2)
    clear ht2
    go_wp2_with fail
    refine (Tr.rjoin_all _ [] 3 0 s _ (parts_none _) (by show (0 : Nat) ≤ 80000; omega)).mono ?_
    rintro e w3 ⟨v, rfl, ho, hb⟩
    have HM := Lib.hid (make_of (Below.refl _ _) ⟨v, rfl, ho, hb⟩)
    obtain ⟨A, cv, rfl, -, -, -⟩ := Tr.Nodes.of_own ho
    clear ho hb
    go_wp2
    go_ret
    obtain ⟨ev, e1, e2, e3⟩ := HM.out
    have hpl : plainB ⟨3, 0, s⟩ = true := by simp [plainB, hs]
    exact ⟨ev, _, e1, e2, Read.leaf (by omega) hpl, HT2.out.then_below e3⟩
  | true =>
    simp only [if_true] at k
    obtain ⟨B2, hB2⟩ : ∃ B, r0.adv.adv.isB rp = B := ⟨_, rfl⟩
    have HB2 := Lib.hid hB2
    rw [hB2] at k
    clear hB2
    cases B2 with
    | true =>
      simp only [if_true, Option.some.injEq, Prod.mk.injEq] at k
      obtain ⟨rfl, rfl⟩ := k
      have hcode : r0.adv.adv.adv.code = 0 := hc0
      go_enter Tryz.func117, Tryz.ntmps117
      go_wp2_with fail
      rw [HW1.out]
      refine (take_ok (s := lp) rfl HB.out HT1.out.rd hL).mono ?_
      rintro e w2 ⟨rfl, ht2⟩
      have HT2 : Hid (RfTo w w2 b L r0.adv.adv) := Lib.hid (HT1.out.trans ht2)
      clear ht2
      go_wp2_with fail
      refine (args_none L hL _ HB2.out _ b HT2.out.rd).mono ?_
      rintro e w3 ⟨rfl, ht3⟩
      have HT3 := Lib.hid (HT2.out.trans ht3)
      clear ht3
      obtain ⟨cc, x3, hiff⟩ := HT3.out.rd.code_cell
      have hd : (cc != 0) = false := by simp [hiff.2 hcode]
      clear hiff
      go_wp2_with fail
      refine (Tr.rjoin_all _ [] 27 0 s _ (parts_none _) (by show (0 : Nat) ≤ 80000; omega)).mono ?_
      rintro e w4 ⟨v, rfl, ho, hb⟩
      have HM := Lib.hid (make_of (Below.refl _ _) ⟨v, rfl, ho, hb⟩)
      obtain ⟨A, cv, rfl, -, -, -⟩ := Tr.Nodes.of_own ho
      clear ho hb
      go_wp2
      go_ret
      obtain ⟨ev, e1, e2, e3⟩ := HM.out
      exact ⟨ev, _, e1, e2, Read.call (ts := []) hs (by simp) rfl (by show (0 : Nat) ≤ 80000; omega), HT3.out.then_below e3⟩
    | false =>
      simp only [Bool.false_eq_true, if_false] at k
      obtain ⟨⟨p, q1⟩, k1, k2⟩ := bind_some k
      have HK1 := Lib.hid k1
      have HK2 := Lib.hid k2
      clear k k1 k2
      go_enter Tryz.func117, Tryz.ntmps117
      go_wp2_with fail
      rw [HW1.out]
      refine (take_ok (s := lp) rfl HB.out HT1.out.rd hL).mono ?_
      rintro e w2 ⟨rfl, ht2⟩
      have HT2 : Hid (RfTo w w2 b L r0.adv.adv) := Lib.hid (HT1.out.trans ht2)
      clear ht2
      go_wp2_with fail
      refine (args_any L HOK.out f HH.out s _ x r' HB2.out p q1 HK1.out HK2.out _ b HT2.out.rd).mono ?_
      rintro e w3 ⟨v, n, c, A, ls, rfl, z1, z2, rfl, ht3, hgot⟩
      unfold maxLen at z2
      have HT3 := Lib.hid (HT2.out.trans ht3)
      have HG := Lib.hid hgot
      clear ht3 hgot
      obtain ⟨cc, x3, hiff⟩ := HT3.out.rd.code_cell
      by_cases h0 : cc = 0
      · have hd : (cc != 0) = false := by simp [h0]
        have HC := Lib.hid (hiff.1 h0)
        clear h0 hiff
        obtain ⟨hp, hroom, ts, hts, hls, hx⟩ := HG.out HC.out
        have HP := Lib.hid hp
        have HX := Lib.hid (show Read x r' (joinM 27 0 s ls) from by rw [hx]; exact Read.call hs hts hls hroom)
        clear hp hts hls hx
        go_wp2_with fail
        refine (Tr.rjoin_all _ ls 27 0 s _ HP.out hroom).mono ?_
        rintro e w4 ⟨v, rfl, ho, hb⟩
        have HM := Lib.hid (make_of (Below.refl _ _) ⟨v, rfl, ho, hb⟩)
        obtain ⟨A, cv, rfl, -, -, -⟩ := Tr.Nodes.of_own ho
        clear ho hb
        go_wp2
        go_ret
        obtain ⟨ev, e1, e2, e3⟩ := HM.out
        exact ⟨ev, _, e1, e2, HX.out, HT3.out.then_below e3⟩
      · have hd : (cc != 0) = true := by simp [h0]
        have HC := Lib.hid (fun h => h0 (hiff.2 h))
        clear h0 hiff
        go_wp2
        go_ret
        exact ⟨_, [], rfl, PtW.nil _ _ rfl, fun hc => absurd hc HC.out, HT3.out⟩
def BegunRun (f : Nat) (r0 : Rd) (p : Pt) (r1 : Rd) : Prop :=
  match r0.sign 9 with
  | none => run f .single r0 = some (p, r1)
  | some s => ∃ q, run f .opnd (if s.1 = 25 then r0.adv.numR 1000 else r0.adv) = some (q, r1) ∧ p = joined s.1 (if s.1 = 25 then (r0.adv.num 1000 : Nat) else 0) [] [q]
end Go.Proofs.YtobkcdkffcenbaaGreatDoor.Rf
namespace Go.Proofs.YtobkcdkffcenbaaGreatDoor.Rf
open Go.ChangeShapes Go.WideShapes Go.ChangeAt Go.RowKit
open Go.Proofs.YtobkcdkffcenbaaGreatDoor.Ex Go.Proofs.YtobkcdkffcenbaaGreatDoor.Sh
open Go.Proofs.YtobkcdkffcenbaaGreatDoor.Tr (str ret_bool ret_int Bytes Nd T joinM roomM binaryB unaryB plainB)
set_option maxRecDepth 100000 in
set_option maxHeartbeats 4000000 in
theorem begun_a (L : List Ex.Tok) (hok : OkL L) (ht0 : ∀ t ∈ L, t.text.length ≤ 1000000) (f : Nat) (HL : ∀ g, g ≤ f → RLev L g) (HO : ∀ g, g ≤ f → ROpnd L g) (r0 : Rd) (hc0 : r0.code = 0) (hi0 : r0.next < L.length) (t : Ex.Tok) (htok : L[r0.next]? = some t) (p : Pt) (r1 : Rd) (hrun : BegunRun f r0 p r1) (w : World) (b : Nat) (hr : Rf w b L r0) (hk : t.kind = 2) :
    Calls Tryz.prog 116 #[.pointer (some ⟨b, 0, none⟩), .agg #[.int .i64 t.kind, .string (str t.text), .int .i64 (t.at_ : Int)]] w (Got w b L p r1) := by
  have HLL := Lib.hid HL
  have HOO := Lib.hid HO
  have HR := Lib.hid hr
  have hL : L.length ≤ 100000 := by have := hok.len; omega
  have HLEN := Lib.hid hok.len
  have hlive := hr.live hc0
  have hcur := cur_at hlive htok
  have hgood := hok.good t (List.mem_of_getElem? htok)
  have htl := ht0 t (List.mem_of_getElem? htok)
  have hlt := hr.lt
  have hdig := (good_cur (r := r0) (by rw [hlive]; exact hok.good)).1 (by rw [hcur]; exact hk)
  rw [hcur] at hdig
  obtain ⟨g1, g2, g3⟩ := hdig
  have hp : p = joined 1 (Lx.val t.text : Nat) [] [] ∧ r1 = r0.adv := by
    have hn : numB 2147483647 r0.cur = true := by rw [hcur]; unfold numB; rw [hk]; simp; exact g3
    have hs : r0.sign 9 = none := no_sign (.inl (by rw [hcur]; exact hk)) 9
    obtain ⟨f', e⟩ := gets_num (r := r0) (by rw [hcur]; exact hk) hn
    have hrun' := hrun
    unfold BegunRun at hrun'
    rw [hs] at hrun'
    have := Gets.det ⟨f', e⟩ hrun'
    rw [hcur] at this
    exact this
  obtain ⟨rfl, rfl⟩ := hp
  obtain ⟨K, TX, P⟩ := t
  simp only at hk g1 g2 g3 htl ⊢
  subst hk
  have HVAL := Lib.hid (value_tok (w := w) htl g1 g3)
  have HVAL : Hid (∀ w : World, Calls Tryz.prog 78 #[.string (str TX)] w (fun e w' => e = .returned (.int .i64 (Lx.val TX : Int)) ∧ w = w')) := Lib.hid (fun w => value_tok htl g1 g3)
  have G3 := Lib.hid g3
  obtain ⟨i, hi, x1, f1, hset⟩ := hr.adv hc0 hi0
  obtain ⟨w1, hw1⟩ : ∃ w1, (w.setCell ⟨b, 1, none⟩ (.int .i64 ((i : Int) + 1))).alloc (.cells #[.int .i64 2, .string (str TX), .int .i64 (P : Int)] 105) = w1 := ⟨_, rfl⟩
  have HW1 := Lib.hid hw1
  have HT1 : Hid (RfTo w w1 b L r0.adv) := Lib.hid (by rw [← hw1]; exact hset.then_below (below_new _ _))
  have YB : w1.heap[w.heap.size]? = some (.cells #[.int .i64 2, .string (str TX), .int .i64 (P : Int)] 105 (0, 0)) := by rw [← hw1]; exact new_blk (by simp [World.setCell])
  have z1 : w1.cell? ⟨w.heap.size, 1, none⟩ = some (.string (str TX)) := (cell_at YB 1).trans rfl
  have z0 : w1.cell? ⟨w.heap.size, 0, none⟩ = some (.int .i64 2) := (cell_at YB 0).trans rfl
  have lz := lt_of_block YB
  clear HL HO hr hrun hlive hcur hgood g1 g2 g3 hset hw1 htok YB
  go_enter Tryz.func116, Tryz.ntmps116
  go_wp2_with fail
  rw [HW1.out]
  refine (HVAL.out _).mono ?_
  rintro e w' ⟨rfl, rfl⟩
  go_wp2_with fail
  refine (Tr.rjoin_all _ [] 1 (Lx.val TX : Int) [] _ (parts_none _) (by decide)).mono ?_
  rintro e w2 ⟨v, rfl, ho, hb⟩
  have HM := Lib.hid (make_of (Below.refl _ _) ⟨v, rfl, ho, hb⟩)
  obtain ⟨A, cv, rfl, -, -, -⟩ := Tr.Nodes.of_own ho
  clear ho hb
  go_wp2
  go_ret
  obtain ⟨ev, e1, e2, e3⟩ := HM.out
  have hpl : plainB ⟨1, (Lx.val TX : Int), []⟩ = true := by have := G3.out; simp [plainB]; omega
  exact ⟨ev, _, e1, e2, Read.leaf (by omega) hpl, HT1.out.then_below e3⟩
end Go.Proofs.YtobkcdkffcenbaaGreatDoor.Rf
namespace Go.Proofs.YtobkcdkffcenbaaGreatDoor.Rf
open Go.ChangeShapes Go.WideShapes Go.ChangeAt Go.RowKit
open Go.Proofs.YtobkcdkffcenbaaGreatDoor.Ex Go.Proofs.YtobkcdkffcenbaaGreatDoor.Sh
open Go.Proofs.YtobkcdkffcenbaaGreatDoor.Tr (str ret_bool ret_int Bytes Nd T joinM roomM binaryB unaryB plainB)
set_option maxRecDepth 100000 in
set_option maxHeartbeats 4000000 in
theorem begun_b (L : List Ex.Tok) (hok : OkL L) (ht0 : ∀ t ∈ L, t.text.length ≤ 1000000) (f : Nat) (HL : ∀ g, g ≤ f → RLev L g) (HO : ∀ g, g ≤ f → ROpnd L g) (r0 : Rd) (hc0 : r0.code = 0) (hi0 : r0.next < L.length) (t : Ex.Tok) (htok : L[r0.next]? = some t) (p : Pt) (r1 : Rd) (hrun : BegunRun f r0 p r1) (w : World) (b : Nat) (hr : Rf w b L r0) (hk : t.kind = 1) :
    Calls Tryz.prog 116 #[.pointer (some ⟨b, 0, none⟩), .agg #[.int .i64 t.kind, .string (str t.text), .int .i64 (t.at_ : Int)]] w (Got w b L p r1) := by
  have HLL := Lib.hid HL
  have HOO := Lib.hid HO
  have HR := Lib.hid hr
  have hL : L.length ≤ 100000 := by have := hok.len; omega
  have HLEN := Lib.hid hok.len
  have hlive := hr.live hc0
  have hcur := cur_at hlive htok
  have hgood := hok.good t (List.mem_of_getElem? htok)
  have htl := ht0 t (List.mem_of_getElem? htok)
  have hlt := hr.lt
  have hs : t.text ≠ [] := by
    rcases hgood with ⟨_, h2, _⟩ | ⟨_, h2, _⟩ | ⟨_, h2⟩
    · exact h2
    · exact h2
    · omega
  have hp : ∃ g, g ≤ f ∧ run (g + 1) (.named t.text) r0 = some (p, r1) := by
    have hsg : r0.sign 9 = none := no_sign (.inr (by rw [hcur]; exact hk)) 9
    have hrun' := hrun
    unfold BegunRun at hrun'
    rw [hsg] at hrun'
    cases f with
    | zero => cases hrun'
    | succ f =>
      have hk1 : r0.cur.kind = 1 := by rw [hcur]; exact hk
      simp only at hrun'
      rw [run, if_neg (by rw [no_ws (.inr hk1)]; decide), if_neg (by rw [no_ws (.inr hk1)]; decide), if_neg (by rw [no_ws (.inr hk1)]; decide), if_neg (by rw [no_ws (.inr hk1)]; decide), if_neg (by omega), if_pos ⟨hk1, by rw [hcur]; exact hs⟩, hcur] at hrun'
      cases f with
      | zero => cases hrun'
      | succ f => exact ⟨f, by omega, hrun'⟩
  obtain ⟨g, hg, hnm⟩ := hp
  have HNM := Lib.hid hnm
  have HOK := Lib.hid hok
  obtain ⟨K, TX, P⟩ := t
  simp only at hk htl hs HNM ⊢
  subst hk
  have HRB : Hid (Rf (w.alloc (.cells #[.int .i64 1, .string (str TX), .int .i64 (P : Int)] 105)) b L r0) := Lib.hid (hr.below (below_new w _))
  have HBW := Lib.hid (below_new w (.cells #[.int .i64 1, .string (str TX), .int .i64 (P : Int)] 105))
  clear HL HO hr hrun hlive hcur hgood htok hnm
  go_enter Tryz.func116, Tryz.ntmps116
  go_wp2_with fail
  refine (named_any L HOK.out g (fun g' hg' => HLL.out g' (by omega)) TX hs r0 hc0 hi0 p r1 HNM.out _ b HRB.out).mono ?_
  rintro e w2 ⟨ev, l, rfl, hp2, hrd2, hto2⟩
  have HT2 := Lib.hid (RfTo.below HBW.out hlt hto2)
  have HP2 := Lib.hid hp2
  have HRD2 := Lib.hid hrd2
  obtain ⟨⟨A2, c2, hv2, y1, y2, _⟩, _⟩ := hp2
  simp only at hv2 y1
  subst hv2
  unfold maxLen at y2
  clear hrd2 hto2
  go_wp2
  go_ret
  exact ⟨_, l, rfl, HP2.out, HRD2.out, HT2.out⟩
end Go.Proofs.YtobkcdkffcenbaaGreatDoor.Rf
namespace Go.Proofs.YtobkcdkffcenbaaGreatDoor.Rf
open Go.ChangeShapes Go.WideShapes Go.ChangeAt Go.RowKit
open Go.Proofs.YtobkcdkffcenbaaGreatDoor.Ex Go.Proofs.YtobkcdkffcenbaaGreatDoor.Sh
open Go.Proofs.YtobkcdkffcenbaaGreatDoor.Tr (str ret_bool ret_int Bytes Nd T joinM roomM binaryB unaryB plainB)
set_option maxRecDepth 100000 in
set_option maxHeartbeats 4000000 in
theorem begun_c (L : List Ex.Tok) (hok : OkL L) (ht0 : ∀ t ∈ L, t.text.length ≤ 1000000) (f : Nat) (HL : ∀ g, g ≤ f → RLev L g) (HO : ∀ g, g ≤ f → ROpnd L g) (r0 : Rd) (hc0 : r0.code = 0) (hi0 : r0.next < L.length) (t : Ex.Tok) (htok : L[r0.next]? = some t) (p : Pt) (r1 : Rd) (hrun : BegunRun f r0 p r1) (w : World) (b : Nat) (hr : Rf w b L r0) (hk : t.kind = 3 ∨ t.kind = 4) (hsel : t.text = [119, 105, 116, 104, 105, 110]) :
    Calls Tryz.prog 116 #[.pointer (some ⟨b, 0, none⟩), .agg #[.int .i64 t.kind, .string (str t.text), .int .i64 (t.at_ : Int)]] w (Got w b L p r1) := by
  have HLL := Lib.hid HL
  have HOO := Lib.hid HO
  have HR := Lib.hid hr
  have hL : L.length ≤ 100000 := by have := hok.len; omega
  have HLEN := Lib.hid hok.len
  have hlive := hr.live hc0
  have hcur := cur_at hlive htok
  have hgood := hok.good t (List.mem_of_getElem? htok)
  have htl := ht0 t (List.mem_of_getElem? htok)
  have hlt := hr.lt
  have hK1 : (t.kind == 2) = false := by rcases hk with h | h <;> rw [h] <;> decide
  have hK2 : (t.kind == 1) = false := by rcases hk with h | h <;> rw [h] <;> decide
  have hws : r0.ws = true := by unfold Rd.ws; rw [hcur, hlive]; rcases hk with h | h <;> simp [h, hi0]
  have hisB : ∀ s, r0.isB s = (t.text == s) := fun s => by unfold Rd.isB; rw [hws, hcur]; rfl
  have hsg9 : r0.sign 9 = (signsM 9).lookup t.text := by unfold Rd.sign; rw [if_pos hws, hcur]
  have HPRE := Lib.hid (prefix_any t.text)
  have hp : ∃ q, run f .opnd (r0.adv.numR 1000) = some (q, r1) ∧ p = joined 25 (r0.adv.num 1000 : Nat) [] [q] := by
    have h := hrun
    unfold BegunRun at h
    rw [hsg9, hsel] at h
    exact h
  obtain ⟨q, hq, rfl⟩ := hp
  have HQ := Lib.hid hq
  obtain ⟨K, TX, P⟩ := t
  simp only at hK1 hK2 htl hisB hsg9 HPRE hk hsel ⊢
  have HOK := Lib.hid hok
  have hK3 : (K != 4) = true → (K != 3) = false := by rcases hk with h | h <;> simp [h]
  have HRB : Hid (Rf (w.alloc (.cells #[.int .i64 K, .string (str TX), .int .i64 (P : Int)] 105)) b L r0) := Lib.hid (hr.below (below_new w _))
  have HBW := Lib.hid (below_new w (.cells #[.int .i64 K, .string (str TX), .int .i64 (P : Int)] 105))
  have HI0 := Lib.hid hi0
  have HC0 := Lib.hid hc0
  subst hsel
  have HP25 := Lib.hid (show preM [119, 105, 116, 104, 105, 110] = 25 from rfl)
  rw [HP25.out] at HPRE
  have HT0 := Lib.hid ht0
  clear HL HO hr hrun hlive hcur hgood htok hq hisB hsg9 hws hi0 hc0 ht0
  obtain ⟨G, hG⟩ : ∃ G, (K != 4) = G := ⟨_, rfl⟩
  have hG3 : G = true → (K != 3) = false := fun h => hK3 (by rw [hG]; exact h)
  clear hK3 hk
  cases G
  all_goals
    first | have hG4 := hG3 rfl | skip
    go_enter Tryz.func116, Tryz.ntmps116
    go_wp2_with fail
    refine (HPRE.out _).mono ?_
    rintro e w' ⟨rfl, rfl⟩
    go_wp2_with fail
    refine (within_any L HOK.out HT0.out f (HOO.out f (Nat.le_refl _)) r0 HC0.out HI0.out q r1 HQ.out _ b HRB.out).mono ?_
    rintro e w2 ⟨ev, l, rfl, hp2, hrd2, hto2⟩
    have HT2 := Lib.hid (RfTo.below HBW.out hlt hto2)
    have HP2 := Lib.hid hp2
    have HRD2 := Lib.hid hrd2
    obtain ⟨⟨A2, c2, hv2, y1, y2, _⟩, _⟩ := hp2
    simp only at hv2 y1
    subst hv2
    unfold maxLen at y2
    clear hrd2 hto2
    go_wp2
    go_ret
    exact ⟨_, l, rfl, HP2.out, HRD2.out, HT2.out⟩
end Go.Proofs.YtobkcdkffcenbaaGreatDoor.Rf
namespace Go.Proofs.YtobkcdkffcenbaaGreatDoor.Rf
open Go.ChangeShapes Go.WideShapes Go.ChangeAt Go.RowKit
open Go.Proofs.YtobkcdkffcenbaaGreatDoor.Ex Go.Proofs.YtobkcdkffcenbaaGreatDoor.Sh
open Go.Proofs.YtobkcdkffcenbaaGreatDoor.Tr (str ret_bool ret_int Bytes Nd T joinM roomM binaryB unaryB plainB)
set_option maxRecDepth 100000 in
set_option maxHeartbeats 4000000 in
theorem begun_d (L : List Ex.Tok) (hok : OkL L) (ht0 : ∀ t ∈ L, t.text.length ≤ 1000000) (f : Nat) (HL : ∀ g, g ≤ f → RLev L g) (HO : ∀ g, g ≤ f → ROpnd L g) (r0 : Rd) (hc0 : r0.code = 0) (hi0 : r0.next < L.length) (t : Ex.Tok) (htok : L[r0.next]? = some t) (p : Pt) (r1 : Rd) (hrun : BegunRun f r0 p r1) (w : World) (b : Nat) (hr : Rf w b L r0) (hk : t.kind = 3 ∨ t.kind = 4) (o : Int) (ho25 : o ≠ 25) (hsel : (signsM 9).lookup t.text = some (o, false)) :
    Calls Tryz.prog 116 #[.pointer (some ⟨b, 0, none⟩), .agg #[.int .i64 t.kind, .string (str t.text), .int .i64 (t.at_ : Int)]] w (Got w b L p r1) := by
  have HLL := Lib.hid HL
  have HOO := Lib.hid HO
  have HR := Lib.hid hr
  have hL : L.length ≤ 100000 := by have := hok.len; omega
  have HLEN := Lib.hid hok.len
  have hlive := hr.live hc0
  have hcur := cur_at hlive htok
  have hgood := hok.good t (List.mem_of_getElem? htok)
  have htl := ht0 t (List.mem_of_getElem? htok)
  have hlt := hr.lt
  have hK1 : (t.kind == 2) = false := by rcases hk with h | h <;> rw [h] <;> decide
  have hK2 : (t.kind == 1) = false := by rcases hk with h | h <;> rw [h] <;> decide
  have hws : r0.ws = true := by unfold Rd.ws; rw [hcur, hlive]; rcases hk with h | h <;> simp [h, hi0]
  have hisB : ∀ s, r0.isB s = (t.text == s) := fun s => by unfold Rd.isB; rw [hws, hcur]; rfl
  have hsg9 : r0.sign 9 = (signsM 9).lookup t.text := by unfold Rd.sign; rw [if_pos hws, hcur]
  have HPRE := Lib.hid (prefix_any t.text)
  have hp : ∃ q, run f .opnd r0.adv = some (q, r1) ∧ p = joined o 0 [] [q] := by
    have h := hrun
    unfold BegunRun at h
    rw [hsg9, hsel] at h
    simp only [if_neg ho25] at h
    exact h
  obtain ⟨q, hq, rfl⟩ := hp
  have HQ := Lib.hid hq
  have hpre : preM t.text = o := by unfold preM; rw [hsel]
  rw [hpre] at HPRE
  have hob : unaryB o = true ∧ 4 ≤ o ∧ o ≤ 24 := by
    have h1 : (t.text, o, false) ∈ signsM 9 := lookup_mem _ _ _ hsel
    simp [signsM] at h1
    rcases h1 with ⟨_, rfl⟩ | ⟨_, rfl⟩ | ⟨_, rfl⟩ | ⟨_, rfl⟩ | ⟨_, rfl⟩ | ⟨_, rfl⟩ | ⟨_, rfl⟩ <;> first | exact absurd rfl ho25 | exact ⟨by decide, by omega, by omega⟩
  have HOB := Lib.hid hob
  have hpo : decide ((0 : Int) < o) = true := decide_eq_true (by omega)
  have hn25 : (o == 25) = false := by simpa using ho25
  obtain ⟨K, TX, P⟩ := t
  simp only at hK1 hK2 htl hisB hsg9 HPRE hk hsel ⊢
  obtain ⟨i, hi, x1, f1, hset⟩ := hr.adv hc0 hi0
  obtain ⟨w1, hw1⟩ : ∃ w1, (w.setCell ⟨b, 1, none⟩ (.int .i64 ((i : Int) + 1))).alloc (.cells #[.int .i64 K, .string (str TX), .int .i64 (P : Int)] 105) = w1 := ⟨_, rfl⟩
  have HW1 := Lib.hid hw1
  have HT1 : Hid (RfTo w w1 b L r0.adv) := Lib.hid (by rw [← hw1]; exact hset.then_below (below_new _ _))
  have YB : w1.heap[w.heap.size]? = some (.cells #[.int .i64 K, .string (str TX), .int .i64 (P : Int)] 105 (0, 0)) := by rw [← hw1]; exact new_blk (by simp [World.setCell])
  have z1 : w1.cell? ⟨w.heap.size, 1, none⟩ = some (.string (str TX)) := (cell_at YB 1).trans rfl
  have z0 : w1.cell? ⟨w.heap.size, 0, none⟩ = some (.int .i64 K) := (cell_at YB 0).trans rfl
  have lz := lt_of_block YB
  have HOK := Lib.hid hok
  have hK3 : (K != 4) = true → (K != 3) = false := by rcases hk with h | h <;> simp [h]
  clear HL HO hr hrun hlive hcur hgood htok hq hisB hsg9 hws hi0 hc0 ht0 hset hw1 hob hpre hsel
  obtain ⟨G, hG⟩ : ∃ G, (K != 4) = G := ⟨_, rfl⟩
  have hG3 : G = true → (K != 3) = false := fun h => hK3 (by rw [hG]; exact h)
  clear hK3 hk
  cases G
  all_goals
    first | have hG4 := hG3 rfl | skip
    go_enter Tryz.func116, Tryz.ntmps116
    go_wp2_with fail
    refine (HPRE.out _).mono ?_
    rintro e w' ⟨rfl, rfl⟩
    go_wp2_with fail
    rw [HW1.out]
    refine (opnd_at (HOO.out f (Nat.le_refl _)) HQ.out HT1.out.rd).mono ?_
    rintro e w4 ⟨ev, l, rfl, hp4, hrd, hto⟩
    have HP4 := Lib.hid hp4
    have HRD := Lib.hid hrd
    have HT4 := Lib.hid (HT1.out.trans hto)
    obtain ⟨⟨A4, c4, hv4, y1, y2, _⟩, _⟩ := hp4
    simp only at hv4 y1
    subst hv4
    unfold maxLen at y2
    clear hrd hto
    obtain ⟨cc4, x4, hiff⟩ := HT4.out.rd.code_cell
    have HSZ : Hid (r1.code = 0 → l.length ≤ 20000) := Lib.hid (fun hc => by
      have e1 := HRD.out.len hc
      have e2 := HT1.out.rd.step_len' HQ.out trivial rfl HT4.out.rd hc
      have := HLEN.out
      omega)
    by_cases h0 : cc4 = 0
    · have hd : (cc4 != 0) = false := by simp [h0]
      have HC := Lib.hid (hiff.1 h0)
      clear h0 hiff
      go_wp2_with fail
      refine (Tr.rjoin_all _ [l] o 0 [] _ (parts_one HP4.out.1) (by have := HSZ.out HC.out; unfold roomM; simp; omega)).mono ?_
      rintro e w5 ⟨v, rfl, ho, hb⟩
      have HM := Lib.hid (make_of (below_new w4 (.cells #[.slice A4 l.length c4] 32)) ⟨v, rfl, ho, hb⟩)
      obtain ⟨A, cv, rfl, -, -, -⟩ := Tr.Nodes.of_own ho
      clear ho hb
      go_wp2
      go_ret
      obtain ⟨ev, e1, e2, e3⟩ := HM.out
      have hR := Read.one (o := o) (n := 0) HOB.out.1 (fun _ => plain_op o HOB.out.2) HRD.out (fun hc => by have := HSZ.out hc; omega)
      rw [if_pos HC.out] at hR
      exact ⟨ev, _, e1, e2, hR, HT4.out.then_below e3⟩
    · have hd : (cc4 != 0) = true := by simp [h0]
      have HC := Lib.hid (fun h => h0 (hiff.2 h))
      clear h0 hiff
      go_wp2
      go_ret
      exact ⟨_, [], rfl, PtW.nil _ _ rfl, fun hc => absurd hc HC.out, HT4.out⟩
end Go.Proofs.YtobkcdkffcenbaaGreatDoor.Rf
namespace Go.Proofs.YtobkcdkffcenbaaGreatDoor.Rf
open Go.ChangeShapes Go.WideShapes Go.ChangeAt Go.RowKit
open Go.Proofs.YtobkcdkffcenbaaGreatDoor.Ex Go.Proofs.YtobkcdkffcenbaaGreatDoor.Sh
open Go.Proofs.YtobkcdkffcenbaaGreatDoor.Tr (str ret_bool ret_int Bytes Nd T joinM roomM binaryB unaryB plainB)
set_option maxRecDepth 100000 in
set_option maxHeartbeats 4000000 in
theorem begun_e (L : List Ex.Tok) (hok : OkL L) (ht0 : ∀ t ∈ L, t.text.length ≤ 1000000) (f : Nat) (HL : ∀ g, g ≤ f → RLev L g) (HO : ∀ g, g ≤ f → ROpnd L g) (r0 : Rd) (hc0 : r0.code = 0) (hi0 : r0.next < L.length) (t : Ex.Tok) (htok : L[r0.next]? = some t) (p : Pt) (r1 : Rd) (hrun : BegunRun f r0 p r1) (w : World) (b : Nat) (hr : Rf w b L r0) (hk : t.kind = 3 ∨ t.kind = 4) (hsel : t.text = [116, 114, 117, 101]) :
    Calls Tryz.prog 116 #[.pointer (some ⟨b, 0, none⟩), .agg #[.int .i64 t.kind, .string (str t.text), .int .i64 (t.at_ : Int)]] w (Got w b L p r1) := by
  have HLL := Lib.hid HL
  have HOO := Lib.hid HO
  have HR := Lib.hid hr
  have hL : L.length ≤ 100000 := by have := hok.len; omega
  have HLEN := Lib.hid hok.len
  have hlive := hr.live hc0
  have hcur := cur_at hlive htok
  have hgood := hok.good t (List.mem_of_getElem? htok)
  have htl := ht0 t (List.mem_of_getElem? htok)
  have hlt := hr.lt
  have hK1 : (t.kind == 2) = false := by rcases hk with h | h <;> rw [h] <;> decide
  have hK2 : (t.kind == 1) = false := by rcases hk with h | h <;> rw [h] <;> decide
  have hws : r0.ws = true := by unfold Rd.ws; rw [hcur, hlive]; rcases hk with h | h <;> simp [h, hi0]
  have hisB : ∀ s, r0.isB s = (t.text == s) := fun s => by unfold Rd.isB; rw [hws, hcur]; rfl
  have hsg9 : r0.sign 9 = (signsM 9).lookup t.text := by unfold Rd.sign; rw [if_pos hws, hcur]
  have HPRE := Lib.hid (prefix_any t.text)
  have hpre : preM t.text = 0 := by rw [hsel]; rfl
  rw [hpre] at HPRE
  have hBtrue : r0.isB [116, 114, 117, 101] = true := by rw [hisB, hsel]; decide
  have HBtrue := Lib.hid hBtrue
  have hBfalse : r0.isB [102, 97, 108, 115, 101] = false := by rw [hisB, hsel]; decide
  have HBfalse := Lib.hid hBfalse
  have hBlp : r0.isB [40] = false := by rw [hisB, hsel]; decide
  have HBlp := Lib.hid hBlp
  have hBif : r0.isB [105, 102] = false := by rw [hisB, hsel]; decide
  have HBif := Lib.hid hBif
  have hsgl : ∃ g, g + 1 = f ∧ run (g + 1) .single r0 = some (p, r1) := by
    have h := hrun
    unfold BegunRun at h
    rw [hsg9] at h
    rw [hsel] at h
    cases f with
    | zero => cases h
    | succ g => exact ⟨g, rfl, h⟩
  obtain ⟨g, rfl, hsg⟩ := hsgl
  have hp : p = joined 2 1 [] [] ∧ r1 = r0.adv := by
    have h := hsg
    rw [run, if_neg (by rw [show lp = [40] from rfl, hBlp]; decide), if_neg (by rw [hBif]; decide), if_pos hBtrue] at h
    simp only [Option.some.injEq, Prod.mk.injEq] at h
    exact ⟨h.1.symm, h.2.symm⟩
  obtain ⟨rfl, rfl⟩ := hp
  clear hsg
  obtain ⟨K, TX, P⟩ := t
  simp only at hK1 hK2 htl hisB hsg9 HPRE hk hsel ⊢
  have HOK := Lib.hid hok
  have hK3 : (K != 4) = true → (K != 3) = false := by rcases hk with h | h <;> simp [h]
  have HRB : Hid (Rf (w.alloc (.cells #[.int .i64 K, .string (str TX), .int .i64 (P : Int)] 105)) b L r0) := Lib.hid (hr.below (below_new w _))
  have HBW := Lib.hid (below_new w (.cells #[.int .i64 K, .string (str TX), .int .i64 (P : Int)] 105))
  have HI0 := Lib.hid hi0
  have HC0 := Lib.hid hc0
  clear HL HO hr hrun hlive hcur hgood htok hisB hsg9 hws hi0 hc0 ht0 hpre hsel hBtrue hBfalse hBlp hBif
  obtain ⟨G, hG⟩ : ∃ G, (K != 4) = G := ⟨_, rfl⟩
  have hG3 : G = true → (K != 3) = false := fun h => hK3 (by rw [hG]; exact h)
  clear hK3 hk
  cases G
  all_goals
    first | have hG4 := hG3 rfl | skip
    go_enter Tryz.func116, Tryz.ntmps116
    go_wp2_with fail
    refine (HPRE.out _).mono ?_
    rintro e w' ⟨rfl, rfl⟩
    have HTw0 : Hid (RfTo w (w.alloc (.cells #[.int .i64 K, .string (str TX), .int .i64 (P : Int)] 105)) b L r0) := Lib.hid (RfTo.of_below HR.out HBW.out)
    go_wp2_with fail
    refine (take_ok (s := [116, 114, 117, 101]) rfl HBtrue.out HTw0.out.rd hL).mono ?_
    rintro e w1 ⟨rfl, ht⟩
    have HTw1 : Hid (RfTo w w1 b L r0.adv) := Lib.hid (HTw0.out.trans ht)
    clear ht
    go_wp2_with fail
    refine (Tr.rjoin_all _ [] 2 1 [] _ (parts_none _) (by show (0 : Nat) ≤ 80000; omega)).mono ?_
    rintro e w9 ⟨v, rfl, ho, hb⟩
    have HM := Lib.hid (make_of (Below.refl _ _) ⟨v, rfl, ho, hb⟩)
    obtain ⟨A, cv, rfl, -, -, -⟩ := Tr.Nodes.of_own ho
    clear ho hb
    go_wp2
    go_ret
    obtain ⟨ev, e1, e2, e3⟩ := HM.out
    exact ⟨ev, _, e1, e2, Read.leaf (o := 2) (n := 1) (by omega) (by decide), HTw1.out.then_below e3⟩
end Go.Proofs.YtobkcdkffcenbaaGreatDoor.Rf

