/- Layer sched: an operator is counted as taken. Conditions: the queue lies in memory; at most 1000 operators. -/
import Derived.Test.YtcphjehjdhgheaaNtX
namespace Go.Proofs.Ytcphjehjdhgheaa.Nt
open Go.ChangeShapes Go.WideShapes Go.ChangeAt Go.RowKit Go.Proofs.Ytcphjehjdhgheaa.Tr
set_option linter.unusedVariables false
set_option linter.unusedSimpArgs false

theorem filter_len (n : Nat) (p : Nat → Bool) : ((List.range n).filter p).length ≤ n := by have := List.length_filter_le p (List.range n); simpa using this
theorem natI_len (l : List Nat) : (natI l).length = l.length := by unfold natI; simp
def TookPost (w : World) (base B gw gc : Nat) (vr : Value) (wv : Nat → Value) (G : Gr) (t : List Nat) (e : Ending) (w' : World) : Prop :=
  e = .returned (.tuple #[]) ∧ ∃ vr' H', QAt w' base B gw gc G.n vr' wv (wlA G) (cntA G t) H' ∧ H'.Perm (natI ((List.range G.n).filter (freeB G t))) ∧ QKp w w' B gc vr vr'
theorem wt_le {G : Gr} (hG : ∀ j, (G.nd j).length ≤ 3) (t wl : List Nat) (p j : Nat) : wtP G t wl p j ≤ 3 := by
  unfold wtP wt
  have := List.length_filter_le (fun k => !t.contains k) (G.nd j)
  have := hG j
  omega
set_option maxRecDepth 100000 in
set_option maxHeartbeats 8000000 in
theorem took_any (w : World) (base B gw gc : Nat) (vr : Value) (wv : Nat → Value) (G : Gr) (hG : ∀ j, (G.nd j).length ≤ 3) (t : List Nat) (i : Nat) (H : List Int)
    (h : QAt w base B gw gc G.n vr wv (wlA G) (cntA G t) H) (hv : Valid G t) (hi : i < G.n) (hf : freeB G t i = true) (hH : H.Perm (natI (rdP G t i (wlA G i) 0))) (hn : G.n ≤ 1000) :
    Calls Try.prog 49 #[.pointer (some ⟨B, 0, none⟩), .int .i64 (i : Int)] w (TookPost w base B gw gc vr wv G (t ++ [i])) := by
  have hit := (free_iff.1 hf).1
  have hL4 : (wlA G i).length ≤ 4000 := by have := wlP_len G hG G.n 0 i; unfold wlA; omega
  obtain ⟨n, hnn⟩ : ∃ n, G.n = n := ⟨_, rfl⟩
  have HG3 := Lib.hid hG
  have HV := Lib.hid hv
  have HF := Lib.hid hf
  have HNN := Lib.hid hnn
  obtain ⟨L, hL⟩ : ∃ L, (wlA G i).length = L := ⟨_, rfl⟩
  have HL := Lib.hid hL
  rw [hL] at hL4
  have HPS : Hid (∀ vr' (H' : List Int) W, QAt W base B gw gc G.n vr' wv (wlA G) (cntA G (t ++ [i])) H' → H'.Perm (natI ((List.range G.n).filter (freeB G (t ++ [i])))) → QKp w W B gc vr vr' → TookPost w base B gw gc vr wv G (t ++ [i]) (.returned (.tuple #[])) W) := Lib.hid (fun vr' H' W h1 h2 h3 => ⟨rfl, vr', H', h1, h2, h3⟩)
  rw [hnn] at h hi hn HPS
  have HQ0 := Lib.hid h
  have HH := Lib.hid hH
  have HIT := Lib.hid hit
  have hcB := h.hp.row.cell
  have k0 : w.cell? ⟨B, 0, none⟩ = some (rowV gw n) := by simp [World.cell?, hcB]
  have cw := (h.wrow.cellAt i (by omega)).trans (show ((List.range n).map wv)[i]? = some (wv i) by rw [List.getElem?_map, List.getElem?_range hi]; rfl)
  have hgl := h.lts.2.1
  obtain ⟨A3, c3, e3, z1, z2⟩ := ints_form (Ints.of_own (l := natI (wlA G i)) (by rw [natI_len]; exact h.wl i hi))
  rw [natI_len, hL] at e3 z1
  rw [e3] at cw
  have HE3 := Lib.hid e3
  unfold maxLen at z2
  clear h hv hf hH hit hcB e3 hnn hL hG
  go_enter Try.func49, Try.ntmps49
  go_wp2_with fail
  go_loopw [14] (fun vi wr => ∃ (p : Nat) (vr' : Value) (H' : List Int), p ≤ L ∧ vi = .int .i64 (p : Int) ∧ QAt wr base B gw gc n vr' wv (wlA G) (cntT G t (wlA G i) p) H' ∧ H'.Perm (natI (rdP G t i (wlA G i) p)) ∧ QKp w wr B gc vr vr') (fun vi _ => L - (intOf vi).toNat)
  case atStart => exact ⟨0, vr, H, Nat.zero_le _, rfl, by rw [cntT_zero]; exact HQ0.out, HH.out, QKp.refl _ _ _ _⟩
  case round =>
    obtain ⟨p, vr', H', hp, rfl, hq, hpm, hkp⟩ := hrel
    have HQ := Lib.hid hq
    have HP := Lib.hid hpm
    have HK := Lib.hid hkp
    by_cases hpl : p < L
    · obtain ⟨k, hk⟩ : ∃ k, (wlA G i)[p]? = some k := ⟨_, List.getElem?_eq_getElem (by rw [HL.out]; exact hpl)⟩
      have hkn : k < n := by have := (wlA_mem (List.mem_of_getElem? hk)).1; rw [HNN.out] at this; exact this
      have hk2 : (natI (wlA G i))[p]? = some (k : Int) := by unfold natI; rw [List.getElem?_map, hk]; rfl
      have hwi := Ints.of_own (l := natI (wlA G i)) (by rw [natI_len]; exact hq.wl i hi)
      rw [HE3.out] at hwi
      obtain ⟨g, o, rfl, hg, d0⟩ := ints_at hwi hk2
      have hx0 := wtP_pos (G := G) (t := t) HIT.out hk
      obtain ⟨x, hx⟩ : ∃ x, wtP G t (wlA G i) p k = x := ⟨_, rfl⟩
      have hx3 := wt_le HG3.out t (wlA G i) p k
      rw [hx] at hx0 hx3
      have cc := (hq.cnt.cellAt k (by omega)).trans (intsOf_get _ k _ (cntT_at (G := G) (t := t) (wl := wlA G i) (p := p) (by rw [HNN.out]; exact hkn)))
      rw [hx] at cc
      have fc := hq.cnt.frozenAt k
      have hcB2 := hq.hp.row.cell
      have b1 : wr.cell? ⟨B, 1, none⟩ = some (rowV gc n) := by simp [World.cell?, hcB2]
      have hgc := hq.gc_ne.1
      have hgc2 := hgc.symm
      have hll := hq.lts.1
      have HQS : Hid (QAt (wr.setCell ⟨gc, k, none⟩ (.int .i64 ((x : Int) - 1))) base B gw gc n vr' wv (wlA G) (cntT G t (wlA G i) (p + 1)) H') := Lib.hid (by
        have := hq.cntSet k ((x : Int) - 1)
        rw [← hx, cntT_set hk (by rw [hx]; exact hx0)] at this
        rw [← hx]; exact this)
      have HKS : Hid (QKp w (wr.setCell ⟨gc, k, none⟩ (.int .i64 ((x : Int) - 1))) B gc vr vr') := Lib.hid HK.out.set
      have HX := Lib.hid hx
      have HKK := Lib.hid hk
      have hwx : wrap64 ((x : Int) - 1) = (x : Int) - 1 := by unfold wrap64; omega
      clear hq hpm hkp hk hk2 hwi hx hcB2 hgc
      by_cases hx1 : x = 1
      · subst hx1
        have HPU := Lib.hid (hpush_any _ base B _ _ vr' H' (k : Int) HQS.out.hp HQS.out.lo.2 (by rw [HP.out.length_eq, natI_len]; have := filter_len G.n (fun j => !(t ++ [i]).contains j && wtP G t (wlA G i) p j == 0); unfold rdP; have := HNN.out; omega))
        go_wp2_with fail
        refine HPU.out.mono ?_
        rintro e w5 ⟨rfl, v5, l5, hp5, hh5, ho5, hk5⟩
        have HQ5 := Lib.hid (HQS.out.heap hh5 ho5 hk5)
        have HK5 := Lib.hid (HKS.out.push hk5 ho5)
        have HP5 : Hid (l5.Perm (natI (rdP G t i (wlA G i) (p + 1)))) := Lib.hid (by
          refine hp5.trans ((List.Perm.cons _ HP.out).trans ?_)
          have h1 := wait_not HV.out HIT.out (List.mem_of_getElem? HKK.out) HF.out
          have := (rdP_more (G := G) (t := t) (i := i) HKK.out (by rw [HNN.out]; exact hkn) h1 HX.out).symm
          have e := List.Perm.map Int.ofNat this
          unfold natI; exact e)
        clear hp5 hh5 ho5 hk5
        go_wp2_with fail
        exact ⟨⟨p + 1, v5, l5, by omega, by go_num, HQ5.out, HP5.out, HK5.out⟩, by simp [intOf]; omega⟩
      · have HP6 : Hid (H'.Perm (natI (rdP G t i (wlA G i) (p + 1)))) := Lib.hid (by rw [rdP_same HKK.out (by rw [HX.out]; exact hx1) (by rw [HX.out]; exact hx0)]; exact HP.out)
        have hxd : (((x : Int) - 1) == 0) = false := by simp; omega
        go_wp2_with fail
        exact ⟨⟨p + 1, vr', H', by omega, by go_num, HQS.out, HP6.out, HKS.out⟩, by simp [intOf]; omega⟩
    · have hpe : p = L := by omega
      subst hpe
      clear hq hpm hkp
      go_wp2_with fail
      go_end0
      refine HPS.out vr' H' _ ?_ ?_ HK.out
      · have := HQ.out
        rw [← HL.out, cntT_end HIT.out (Nat.le_refl _)] at this
        exact this
      · have := HP.out
        rw [← HL.out, rdP_end HIT.out (Nat.le_refl _)] at this
        rw [← HNN.out]; exact this
end Go.Proofs.Ytcphjehjdhgheaa.Nt
