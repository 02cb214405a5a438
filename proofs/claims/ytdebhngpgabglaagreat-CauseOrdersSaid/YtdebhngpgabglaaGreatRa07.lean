/- The function queued fills the queue. Conditions: the slice is read as equations, at most 4000. -/
import Derived.Test.YtdebhngpgabglaaGreatRa05
import Derived.Test.YtdebhngpgabglaaGreatRa06
set_option linter.unusedVariables false
set_option linter.unusedSimpArgs false
namespace Go.Proofs.YtdebhngpgabglaaGreat.Ca
open Go.ChangeShapes Go.WideShapes Go.ChangeAt Go.RowKit Go.Maps Go.WideMaps Go.Proofs.YtdebhngpgabglaaGreat.Tr
open Go.Proofs.YtdebhngpgabglaaGreat.Pg (Eqn)
abbrev queV (bl bw gw N : Nat) (vr : Value) : Value := .agg #[.map (some bl), .map (some bw), wtV gw N, vr]
theorem qu_start {w wm w2 : World} {N b : Nat} (hm0 : wm = ((w.alloc (.map #[] 0)).alloc (.map #[] 0))) (hb : b ≤ w.heap.size) (hown : w2.ownsRow wm.heap.size 3 1 (wtV wm.heap.size N) N (intsOf (List.replicate N 0))) (hg : wm.grownBy w2 none) :
 QuAt (w2.alloc (.cells #[.map (some w.heap.size), .map (some (w.heap.size + 1)), wtV wm.heap.size N, nilS] 73)) b w2.heap.size w.heap.size (w.heap.size + 1) wm.heap.size N nilS (fun _ => none) (fun _ => none) 0 0 (fun _ => 0) (fun _ => []) (List.replicate N 0) [] := by
 have hsz : wm.heap.size = w.heap.size + 2 := by rw [hm0]; simp
 have hs2 := hg.size
 have e1 : (w.alloc (.map #[] 0)).heap.size = w.heap.size + 1 := by simp
 have m1 : MapIs wm w.heap.size 0 (fun _ => none) := by rw [hm0]; exact (MapIs.made w).alloc _
 have m2 : MapIs wm (w.heap.size + 1) 0 (fun _ => none) := by rw [hm0, ← e1]; exact MapIs.made (w.alloc (.map #[] 0))
 have st : ∀ k, k < wm.heap.size → w2.heap[k]? = wm.heap[k]? := fun k hk => hg.block k hk (fun e => by cases e)
 refine ⟨⟨⟨heap_alloc_new _ _, World.ownsRow_nil _ _ _ _⟩, fun k k0 kn => by simp at kn⟩, (m1.keep (st _ (by omega))).alloc _, fun s => rfl, (m2.keep (st _ (by omega))).alloc _, fun s => World.ownsRow_nil _ _ _ _, ?_, by simp, by omega, ⟨by omega, by omega, by omega, by simp; omega⟩, (fun e => by cases e), (fun s e => by cases e), (fun s k e => by cases e), (fun s s' k _ e => by cases e)⟩
 exact own_base (own_below hown (below_new w2 _)) (by omega)
theorem made_int0 (n : Nat) : (madeCells #[Value.int .i64 0] n).toList = intsOf (List.replicate n 0) := made_ints n
theorem eqs_at {w : World} {A : Option Addr} {c : Nat} {l : List Eqn} (h : EqsAt w (.slice A l.length c) l) {i : Nat} {q : Eqn} (hi : l[i]? = some q) : ∃ g o ev, A = some ⟨g, o, none⟩ ∧ g < w.heap.size ∧ w.cell? ⟨g, o + i * 2, none⟩ = some (.string (str q.name)) ∧ w.cell? ⟨g, o + i * 2 + 1, none⟩ = some ev ∧ Nodes w ev q.e ∧ q.name.length ≤ maxLen ∧ Short q.e := by
 obtain ⟨A', c', e, h1, h2, h3⟩ := h
 simp only [Value.slice.injEq, true_and] at e
 obtain ⟨rfl, rfl⟩ := e
 exact h3 i q hi
theorem QuAt.below_of {w w1 w2 : World} {base B bl bw gw N : Nat} {vr : Value} {f g : Bytes → Option Value} {nl nw : Nat} {LF : Bytes → Nat} {CF : Bytes → List Nat} {W H : List Int} (h : QuAt w1 base B bl bw gw N vr f g nl nw LF CF W H) (hb : Below base w w1) (hg : w1.grownBy w2 (some bl)) : Below base w w2 :=
 hb.grown hg h.lo.2.2.2 (fun k hk => by cases hk; exact h.lo.2.1)
theorem QuAt.wait_step {w wA wa w1 w7 : World} {base B bl bw gw N : Nat} {vr : Value} {f g : Bytes → Option Value} {nl nw : Nat} {LF : Bytes → Nat} {CF : Bytes → List Nat} {W H : List Int} (h : QuAt w base B bl bw gw N vr f g nl nw LF CF W H) (hA : Below base wA w) {b T sz n : Nat} {nv : Value} {xs : List Value} (hno : w.ownsRow b T sz nv n xs) (hT : T ≠ 3)
 (hb : Below w.heap.size w wa) (s : Bytes) (hg : wa.grownBy w1 (wOf g s).ownBlock) (hg7 : w1.grownBy w7 (some bw)) : Below base wA w7 ∧ w7.ownsRow b T sz nv n xs := by
 have s1 := hb.size
 have s2 := hg.size
 have hlo := h.lo.2.2.2
 refine ⟨((hA.trans (hb.mono hlo)).grown hg (by omega) (fun k hk => ((h.waitV s).lt k hk).1)).grown hg7 (by omega) (fun k hk => by cases hk; exact h.lo.2.2.1), own_block hno (fun j hj => ?_)⟩
 obtain ⟨cs, hc⟩ := own_cells hno hj
 have hjl := (hno.lt j hj).2
 refine (hg7.block j (by omega) (fun e => ?_)).trans ((hg.block j (by omega) (fun e => own_ne hno (h.waitV s) hT j hj e.symm)).trans (hb.block j hjl))
 injection e with e
 subst e
 exact h.wait.nocells hc
theorem QuAt.set_step {w wA : World} {base B bl bw gw N : Nat} {vr : Value} {f g : Bytes → Option Value} {nl nw : Nat} {LF : Bytes → Nat} {CF : Bytes → List Nat} {W H : List Int} (h : QuAt w base B bl bw gw N vr f g nl nw LF CF W H) (hA : Below base wA w) {b T sz n : Nat} {nv : Value} {xs : List Value} (hno : w.ownsRow b T sz nv n xs) (hT : T ≠ 3) (k : Nat) (u : Value) :
 Below base wA (w.setCell ⟨gw, k, none⟩ u) ∧ (w.setCell ⟨gw, k, none⟩ u).ownsRow b T sz nv n xs :=
 ⟨hA.setCell (p := ⟨gw, k, none⟩) ((h.wts.lt gw rfl).1) _, own_block hno (fun j hj => Below.heap_setCell _ _ _ _ (fun e => own_ne hno h.wts hT j hj (by rw [e]; rfl)))⟩
theorem QuAt.qb_lo {w : World} {base B bl bw gw N : Nat} {vr : Value} {f g : Bytes → Option Value} {nl nw : Nat} {LF : Bytes → Nat} {CF : Bytes → List Nat} {W H : List Int} (h : QuAt w base B bl bw gw N vr f g nl nw LF CF W H) {k : Nat} (hk : Qb B bl bw gw vr g k) : base ≤ k := by
 rcases hk with rfl | rfl | rfl | rfl | e | ⟨s, e⟩
 · exact h.lo.1
 · exact h.lo.2.1
 · exact h.lo.2.2.1
 · exact (h.wts.lt _ rfl).1
 · exact (h.hp.row.own.lt k e).1
 · exact ((h.waitV s).lt k e).1
theorem set4 {w : World} {R T : Nat} {c0 c1 c2 c3 : Value} (h : w.heap[R]? = some (.cells #[c0, c1, c2, c3] T (0, 0))) (a b c d : Value) {W : World} (hW : W = (((w.setCell ⟨R, 0, none⟩ a).setCell ⟨R, 1, none⟩ b).setCell ⟨R, 2, none⟩ c).setCell ⟨R, 3, none⟩ d) :
 W.heap[R]? = some (.cells #[a, b, c, d] T (0, 0)) ∧ W.heap.size = w.heap.size ∧ (∀ k, k ≠ R → W.heap[k]? = w.heap[k]?) ∧ ∀ n (w0 : World), n ≤ R → Below n w0 w → Below n w0 W := by
 subst hW
 refine ⟨by simp [World.setCell, Array.getElem?_modify, h], by simp, fun k hk => ?_, fun n w0 hn hb => (((hb.setCell (p := ⟨R, 0, none⟩) hn _).setCell (p := ⟨R, 1, none⟩) hn _).setCell (p := ⟨R, 2, none⟩) hn _).setCell (p := ⟨R, 3, none⟩) hn _⟩
 rw [Below.heap_setCell _ _ _ _ hk, Below.heap_setCell _ _ _ _ hk, Below.heap_setCell _ _ _ _ hk, Below.heap_setCell _ _ _ _ hk]
def bn (i k : Nat) : Nat := i * 100000 + k
theorem bn_next (i k : Nat) : bn i k + 1 = bn i (k + 1) := by unfold bn; omega
theorem bn_round {i k : Nat} (h : k ≤ 100000) : bn i k ≤ bn (i + 1) 0 := by unfold bn; omega
theorem bn_lt {i k : Nat} (h : i ≤ 4000) (hk : k ≤ 100000) : bn i k < maxLen := by unfold bn maxLen; omega
attribute [irreducible] bn
def QueuedPost (w : World) (Q : Qs) (e : Ending) (w' : World) : Prop :=
 ∃ B bl bw gw vr f g nl nw H, e = .returned (queV bl bw gw Q.length vr) ∧ QuAt w' w.heap.size B bl bw gw Q.length vr f g nl nw (leftN Q []) (waitQ Q) ((List.range Q.length).map fun k => (waitN Q [] k : Int)) H ∧
  H.Perm (natI ((List.range Q.length).filter (freeB Q []))) ∧ Below w.heap.size w w' ∧ nl ≤ 4000
set_option maxRecDepth 100000 in
set_option maxHeartbeats 16000000 in
theorem queued_any (v : Value) (l : List Eqn) (w : World) (hv : EqsAt w v l) (hn : l.length ≤ 4000) : Calls Tryz.prog 23 #[v] w (QueuedPost w (qsOf l)) := by
 have hmm := @run_makeMap Tryz.prog
 obtain ⟨i0, hi, hz0, hz1, hz2⟩ := info_parts info3
 have HV := Lib.hid hv
 obtain ⟨A, c, rfl, h1, h2, h3⟩ := hv
 clear h3
 unfold maxLen at h2
 have HQL := Lib.hid (qs_len l)
 obtain ⟨wA, hwA⟩ : ∃ W, w.alloc (.cells #[.map none, .map none, .slice none 0 0, .slice none 0 0] 73) = W := ⟨_, rfl⟩
 have hbA : Below w.heap.size w wA := hwA ▸ below_new w _
 have hRA : wA.heap[w.heap.size]? = some (.cells #[.map none, .map none, .slice none 0 0, .slice none 0 0] 73 (0, 0)) := hwA ▸ heap_alloc_new w _
 have hsA : wA.heap.size = w.heap.size + 1 := by rw [← hwA]; simp
 have HWA := Lib.hid hwA
 have HBA := Lib.hid hbA
 have HRA := Lib.hid hRA
 have HSA := Lib.hid hsA
 have HVA := Lib.hid (HV.out.below hbA)
 clear hwA hbA hRA hsA
 go_enter Tryz.func23, Tryz.ntmps23
 go_wp2_with (at_make; refine wpList_make_full _ rfl _ _ 31 rfl (wA.heap.size + 2) 3 i0 _ 1 Tryz.underlying31 hi hz0 hz1 _ _ _ _ l.length rfl rfl rfl rfl (by rw [hz2]; omega) (by unfold maxLen; omega) (by rw [← HWA.out]; simp) ?_)
 intro w2 hown hgrow
 have hQL := HQL.out
 have HQ0 : Hid (QuAt (w2.alloc (.cells #[.map (some (w.heap.size + 1)), .map (some (w.heap.size + 1 + 1)), wtV (w.heap.size + 1 + 1 + 1) l.length, nilS] 73)) (w.heap.size + 1) w2.heap.size (w.heap.size + 1) (w.heap.size + 1 + 1) (w.heap.size + 1 + 1 + 1) l.length nilS (fun _ => none) (fun _ => none) 0 0 (lfP (qsOf l) 0) (fun _ => []) (List.replicate l.length 0) []) := Lib.hid (by
  have h0 := qu_start (w := wA) (wm := (wA.alloc (.map #[] 0)).alloc (.map #[] 0)) (w2 := w2) (N := l.length) (b := w.heap.size + 1) rfl (by rw [HSA.out]; exact Nat.le_refl _)
  have e2 : ((wA.alloc (.map #[] 0)).alloc (.map #[] 0)).heap.size = w.heap.size + 1 + 1 + 1 := by simp [HSA.out]
  rw [e2, HSA.out] at h0
  refine h0 ?_ ?_
  · rw [← made_int0]; exact own_base hown (by rw [HSA.out]; exact Nat.le_refl _)
  · rw [← HWA.out]; exact hgrow)
 have HB0 : Hid (Below (w.heap.size + 1) wA (w2.alloc (.cells #[.map (some (w.heap.size + 1)), .map (some (w.heap.size + 1 + 1)), wtV (w.heap.size + 1 + 1 + 1) l.length, nilS] 73))) := Lib.hid (by
  have e2 : ((wA.alloc (.map #[] 0)).alloc (.map #[] 0)).heap.size = w.heap.size + 1 + 1 + 1 := by simp [HSA.out]
  have hgrow : ((wA.alloc (.map #[] 0)).alloc (.map #[] 0)).grownBy w2 none := by rw [← HWA.out]; exact hgrow
  have b1 : Below (w.heap.size + 1) wA ((wA.alloc (.map #[] 0)).alloc (.map #[] 0)) := ((Below.refl _ _).alloc (by rw [HSA.out]; exact Nat.le_refl _) _).alloc (by simp [HSA.out]) _
  have b2 := b1.grown hgrow (by rw [e2]; omega) (fun k hk => by cases hk)
  have := hgrow.size
  exact b2.alloc (by omega) _)
 have hmd := fun (W : World) (h : Below (w.heap.size + 1) wA W) => HVA.out.below (by rw [HSA.out]; exact h)
 have HVW := Lib.hid hmd
 obtain ⟨B, hB⟩ : ∃ B, w2.heap.size = B := ⟨_, rfl⟩
 rw [hB] at HQ0
 obtain ⟨w4, hw4⟩ : ∃ W, w2.alloc (.cells #[.map (some (w.heap.size + 1)), .map (some (w.heap.size + 1 + 1)), wtV (w.heap.size + 1 + 1 + 1) l.length, nilS] 73) = W := ⟨_, rfl⟩
 rw [hw4] at HQ0 HB0
 have HW4 := Lib.hid hw4
 have HBB := Lib.hid hB
 clear hown hgrow hmd hB hw4
 go_wp2_with fail
 rw [HW4.out, HBB.out]
 go_loopw [18] (fun vi wr => ∃ (k : Nat) (f : Bytes → Option Value), k ≤ l.length ∧ vi = .int .i64 (k : Int) ∧ QuAt wr (w.heap.size + 1) B (w.heap.size + 1) (w.heap.size + 1 + 1) (w.heap.size + 1 + 1 + 1) l.length nilS f (fun _ => none) k 0 (lfP (qsOf l) k) (fun _ => []) (List.replicate l.length 0) [] ∧ Below (w.heap.size + 1) wA wr) (fun vi _ => l.length - (intOf vi).toNat)
 case atStart => exact ⟨0, _, Nat.zero_le _, rfl, HQ0.out, HB0.out⟩
 case round =>
  obtain ⟨k, f, hk, rfl, hq, hb⟩ := hrel
  have HQ := Lib.hid hq
  have HB := Lib.hid hb
  have hcB := hq.hp.row.cell
  have hBl := hq.hp.row.lt
  by_cases hlt : k < l.length
  · obtain ⟨q, hqk⟩ : ∃ q, l[k]? = some q := ⟨_, List.getElem?_eq_getElem hlt⟩
    obtain ⟨gq, oq, ev, rfl, g1, g2, g3, g4, g5, g6⟩ := eqs_at (HVW.out wr hb) hqk
    have hqs := qs_at hqk
    have hnm := Lib.hid hqs.1
    have hlf := lfP_le (qsOf l) k q.name
    obtain ⟨m, hm⟩ : ∃ m, lfP (qsOf l) k q.name = m := ⟨_, rfl⟩
    rw [hm] at hlf
    obtain ⟨Ae, ne, ce, rfl⟩ : ∃ A n c, ev = .slice A n c := by obtain ⟨A, c, e, _⟩ := g4; exact ⟨A, _, c, e⟩
    clear g4
    obtain ⟨wa, hwa⟩ : ∃ W, wr.alloc (.cells #[.string (str q.name), .slice Ae ne ce] 52) = W := ⟨_, rfl⟩
    have HA := Lib.hid (show QuAt wa (w.heap.size + 1) B (w.heap.size + 1) (w.heap.size + 1 + 1) (w.heap.size + 1 + 1 + 1) l.length nilS f (fun _ => none) k 0 (lfP (qsOf l) k) (fun _ => []) (List.replicate l.length 0) [] from hwa ▸ hq.alloc (.cells #[.string (str q.name), .slice Ae ne ce] 52))
    have HBA' : Hid (Below (w.heap.size + 1) wA wa) := Lib.hid (hwa ▸ HB.out.alloc HQ.out.lo.2.2.2 _)
    have l1 := HA.out.left.lookN Tryz.underlying67 (zeroI _) q.name g5
    rw [HA.out.leftV, hm] at l1
    have k0 : wr.cell? ⟨B, 0, none⟩ = some (.map (some (w.heap.size + 1))) := by simp [World.cell?, hcB]
    have HWa := Lib.hid hwa
    clear hwa
    obtain ⟨w5, hrun, ⟨f5, hq5⟩, hg5⟩ := HA.out.leftPut (by unfold maxLen; omega) q.name g5 (m + 1)
    rw [show ((m + 1 : Nat) : Int) = (m : Int) + 1 by omega] at hrun
    have hm4 : m ≤ 4000 := by omega
    have HF : Hid ((fun x => if x = q.name then m + 1 else lfP (qsOf l) k x) = lfP (qsOf l) (k + 1)) := Lib.hid (by rw [← hm, ← lfP_next, hnm.out])
    rw [HF.out] at hq5
    have HQ5 := Lib.hid hq5
    have HB5 : Hid (Below (w.heap.size + 1) wA w5) := Lib.hid (HA.out.below_of HBA'.out hg5)
    have hne : gq ≠ wr.heap.size := by omega
    clear hqk hqs hm hq hb hcB hq5 hg5
    go_wp2_with (at_lookup; rw [HWa.out])
    refine ⟨⟨k + 1, f5, by omega, by go_num, HQ5.out, HB5.out⟩, by simp [intOf]; omega⟩
  · obtain rfl : k = l.length := by omega
    have HQ2 : Hid (QuAt wr (w.heap.size + 1) B (w.heap.size + 1) (w.heap.size + 1 + 1) (w.heap.size + 1 + 1 + 1) l.length nilS f (fun _ => none) l.length 0 (leftN (qsOf l) []) (cfP (qsOf l) 0 0) (wpP (qsOf l) 0 0) []) := Lib.hid (by
     rw [cfP_start, wpP_start, ← lfP_end, hQL]; exact hq)
    clear hq hb hcB hlt hk
    obtain ⟨wL, hwL⟩ : ∃ W, W = wr := ⟨_, rfl⟩
    subst hwL
    go_wp2
    go_loopw [31] (fun vi wr => ∃ (i nw : Nat) (vr : Value) (g : Bytes → Option Value) (H : List Int), i ≤ l.length ∧ vi = .int .i64 (i : Int) ∧ QuAt wr (w.heap.size + 1) B (w.heap.size + 1) (w.heap.size + 1 + 1) (w.heap.size + 1 + 1 + 1) l.length vr f g l.length nw (leftN (qsOf l) []) (cfP (qsOf l) i 0) (wpP (qsOf l) i 0) H ∧ H.Perm (natI (rdP (qsOf l) i)) ∧ Below (w.heap.size + 1) wA wr ∧ nw ≤ bn i 0) (fun vi _ => l.length - (intOf vi).toNat)
    case atStart => exact ⟨0, 0, nilS, _, [], Nat.zero_le _, rfl, HQ2.out, List.Perm.refl _, HB.out, Nat.zero_le _⟩
    case round =>
     obtain ⟨i, nw, vr, g, H, hi', rfl, hq, hp, hb, hnw⟩ := hrel
     have HQ := Lib.hid hq
     have HP := Lib.hid hp
     have HB := Lib.hid hb
     by_cases hlt : i < l.length
     · obtain ⟨q, hqk⟩ : ∃ q, l[i]? = some q := ⟨_, List.getElem?_eq_getElem hlt⟩
       obtain ⟨gq, oq, ev, rfl, g1, g2, g3, g4, g5, g6⟩ := eqs_at (HVW.out wr hb) hqk
       have hqs := qs_at hqk
       have HND := Lib.hid hqs.2
       have hne : gq ≠ wr.heap.size := by omega
       have HEV := Lib.hid g4
       have HSH := Lib.hid g6
       have hEf : ∃ A n c, ev = .slice A n c := by obtain ⟨A, c, e, _⟩ := g4; exact ⟨A, _, c, e⟩
       obtain ⟨Ae, ne, ce, rfl⟩ := hEf
       clear hqk hqs hq hp hb g4 g6
       go_wp2_with fail
       refine (needs_any _ q.e _ (HEV.out.below (below_new wr _) (Nat.le_refl _)) HSH.out).mono ?_
       rintro e w5 ⟨nv, rfl, hno, hb5⟩
       have hb5' := (below_new wr (.cells #[.string (str q.name), .slice Ae ne ce] 52)).trans (hb5.mono (by simp))
       have HQ5 := Lib.hid (HQ.out.below hb5')
       have HB5 := Lib.hid (HB.out.trans (hb5'.mono HQ.out.lo.2.2.2))
       have hno0 : w5.ownsRow (w.heap.size + 1) 9 1 nv (needsM q.e).length (strsOf (needsM q.e)) := own_base hno (by have := HQ.out.lo.2.2.2; simp; omega)
       have HNO := Lib.hid hno0
       obtain ⟨An, cn, rfl, n1, n2, _⟩ := Strs.of_own hno0
       unfold maxLen at n2
       have hnl := needs_len q.e
       have HSN := Lib.hid (needs_short HSH.out)
       clear hno hb5 hb5' hno0
       go_wp2
       go_loopw [40] (fun vk wr => ∃ (k nw : Nat) (g : Bytes → Option Value), k ≤ (needsM q.e).length ∧ vk = .int .i64 (k : Int) ∧ QuAt wr (w.heap.size + 1) B (w.heap.size + 1) (w.heap.size + 1 + 1) (w.heap.size + 1 + 1 + 1) l.length vr f g l.length nw (leftN (qsOf l) []) (cfP (qsOf l) i k) (wpP (qsOf l) i k) H ∧ Below (w.heap.size + 1) wA wr ∧ nw ≤ bn i k ∧ wr.ownsRow (w.heap.size + 1) 9 1 (.slice An (needsM q.e).length cn) (needsM q.e).length (strsOf (needsM q.e))) (fun vk _ => (needsM q.e).length - (intOf vk).toNat)
       case atStart => exact ⟨0, nw, g, Nat.zero_le _, rfl, HQ5.out, HB5.out, hnw, HNO.out⟩
       case round =>
        obtain ⟨k, nw, g, hk, rfl, hq, hb, hnw, hno⟩ := hrel
        have HQ := Lib.hid hq
        have HB := Lib.hid hb
        have HNO := Lib.hid hno
        by_cases hkl : k < (needsM q.e).length
        · obtain ⟨s, hs⟩ : ∃ s, (needsM q.e)[k]? = some s := ⟨_, List.getElem?_eq_getElem hkl⟩
          obtain ⟨A4, c4, e4, _, _, hA4⟩ := Strs.of_own hno
          simp only [Value.slice.injEq, true_and] at e4
          obtain ⟨rfl, rfl⟩ := e4
          obtain ⟨g4, o4, rfl, hg4, d0⟩ := hA4 k s hs
          have hsl := HSN.out s (List.mem_of_getElem? hs)
          have HS : Hid ((ndQ (qsOf l) i)[k]? = some s) := Lib.hid (by rw [HND.out]; exact hs)
          obtain ⟨m, hm⟩ : ∃ m, leftN (qsOf l) [] s = m := ⟨_, rfl⟩
          have hLB : leftB (qsOf l) [] s = decide (0 < m) := by rw [← hm]; exact left_zero
          have hml : m ≤ 4000 := by rw [← hm]; exact Nat.le_trans (filter_le _ _) (by rw [hQL]; exact hn)
          have l1 := hq.left.lookN Tryz.underlying67 (zeroI wr) s hsl
          rw [hq.leftV, hm] at l1
          have hcB := hq.hp.row.cell
          have hBl := hq.hp.row.lt
          have k0 : wr.cell? ⟨B, 0, none⟩ = some (.map (some (w.heap.size + 1))) := by simp [World.cell?, hcB]
          have k1 : wr.cell? ⟨B, 1, none⟩ = some (.map (some (w.heap.size + 1 + 1))) := by simp [World.cell?, hcB]
          clear hs hA4 hq hb hno hm hcB
          by_cases hm0 : 0 < m
          · rw [decide_eq_true hm0] at hLB
            have HLB := Lib.hid hLB
            have hd : decide ((0 : Int) < (m : Int)) = true := decide_eq_true (by omega)
            clear hLB
            obtain ⟨CS, hCS⟩ : ∃ x, cfP (qsOf l) i k s = x := ⟨_, rfl⟩
            have hown := HQ.out.waitV s
            rw [hCS] at hown
            have hCl : CS.length ≤ 4000 := by
             rw [← hCS]; unfold cfP
             rw [if_pos HLB.out, List.length_append]
             have := filter_le i (fun j => (ndQ (qsOf l) j).contains s)
             have : (if s ∈ (ndQ (qsOf l) i).take k then [i] else []).length ≤ 1 := by split <;> simp
             omega
            have hNl : (natI CS).length = CS.length := by unfold natI; simp
            obtain ⟨v5, hv5⟩ : ∃ x, wOf g s = x := ⟨_, rfl⟩
            rw [hv5] at hown
            have HOWN := Lib.hid hown
            have l3 : ∀ W, W.heap[(w.heap.size + 1 + 1)]? = wr.heap[(w.heap.size + 1 + 1)]? → Sem.run Tryz.prog (Instr.lookup 68 (.map (some (w.heap.size + 1 + 1))) (.string (str s)) false) W = .ok v5 W := fun W hW => by
             have := (HQ.out.wait.keep hW).lookN Tryz.underlying68 (zeroS W) s hsl
             rw [this]; show _ = Result.ok v5 W; rw [← hv5]; rfl
            have l4 := l3 wr.drew rfl
            have l5 : ∀ o, Sem.run Tryz.prog (Instr.lookup 68 (.map (some (w.heap.size + 1 + 1))) (.string (str s)) false) ((wr.alloc o).drew) = .ok v5 ((wr.alloc o).drew) := fun o => l3 _ (Below.heap_alloc _ _ _ HQ.out.wait.lt)
            have HWP := Lib.hid (fun (wa w1 : World) (hb : Below wr.heap.size wr wa) (g1 c1 : Nat) => HQ.out.waitPut hb (w1 := w1) s hsl (Nat.lt_of_le_of_lt hnw (bn_lt (by omega) (by omega))) i (g1 := g1) (c1 := c1))
            rw [hCS, hv5] at HWP
            have HK6 : Hid (∀ o w6, ((wr.alloc o).drew).grownBy w6 v5.ownBlock → w6.cell? ⟨B, 1, none⟩ = some (.map (some (w.heap.size + 1 + 1)))) := Lib.hid (fun o w6 hg => by
             have e := (hg.block B (by simp; omega) (fun e => by rw [← hv5] at e; exact (HQ.out.w_ne e.symm).1 rfl)).trans (Below.heap_alloc _ _ _ hBl)
             have e2 := e.trans HQ.out.hp.row.cell
             simp [World.cell?, e2])
            have HCF : Hid ((fun x => if x = s then CS ++ [i] else cfP (qsOf l) i k x) = cfP (qsOf l) i (k + 1)) := Lib.hid (by rw [← hCS]; exact cfP_yes (qs_nodup l i) HS.out HLB.out)
            have hgwl : (w.heap.size + 1 + 1 + 1) < wr.heap.size := (HQ.out.wts.lt _ rfl).2
            obtain ⟨cn0, hcn⟩ : ∃ x, cnP (qsOf l) i k = x := ⟨_, rfl⟩
            have hcl : cn0 ≤ 100000 := by rw [← hcn]; exact Nat.le_trans (List.length_filter_le _ _) (by rw [List.length_take, HND.out]; omega)
            have HWX := Lib.hid (wpP_yes HS.out HLB.out (by rw [hQL]; exact hlt))
            have HWG : Hid ((wpP (qsOf l) i k)[i]? = some (cn0 : Int)) := Lib.hid (by rw [← hcn, ← wpN_at]; exact wpP_get _ _ _ (by rw [hQL]; exact hlt))
            rw [hcn] at HWX
            have HBD := Lib.hid (HQ.out.lo)
            rw [hNl] at hown
            have HVS := Lib.hid hv5
            clear hCS hv5 l3 hcn
            rcases hown.2 with ⟨rfl, h0⟩ | ⟨g0, cap0, cur, rfl, hbg, hh, hc1, hc2, -, -⟩
            · obtain rfl : CS = [] := List.length_eq_zero_iff.1 h0
              have HOX : Hid (wr.ownsRow (w.heap.size + 1) 3 1 (.slice none 0 0) 0 []) := Lib.hid (World.ownsRow_nil _ _ _ _)
              clear hown h0
              go_wp2_with fail
              go_region_law (refine step_append_lies _ (by rfl) _ _ _ (by rfl) (w.heap.size + 1) 3 i0 _ 1 8 Tryz.underlying31 hi hz0 hz1 hz2 rfl (by omega) (.slice none 0 0) 0 [] (by rfl) (by exact HOX.out.alloc _) ⟨wr.heap.size, 0, none⟩ 1 1 [.int .i64 (i : Int)] (by rfl) (by rfl) (World.news_of_block (cs := #[.int .i64 (i : Int)]) (t := 3) (fr := (0, 0)) (heap_alloc_new _ _)) (by simp [Value.oneCell']) (by omega) (by unfold maxLen; omega) (by omega) (by simp; omega) (wr.heap.size + 1) (by simp) ?_; intro gg cap w6 hown6 hgrow6 hat6 hlt6; have k16 := HK6.out _ w6 hgrow6; obtain ⟨w7, (hrun7 : Sem.run Tryz.prog (Instr.mapUpdate 68 (.map (some (w.heap.size + 1 + 1))) (.string (str s)) (.slice (some ⟨gg, 0, none⟩) 1 cap)) w6 = .ok () w7), ⟨g7, hq7⟩, hg7⟩ := HWP.out _ w6 ((below_new wr _).drew) gg cap hown6 hgrow6 (hat6.imp id (fun e => e.trans (by simp))); have hst := HQ.out.wait_step HB.out HNO.out (by decide) ((below_new wr (.cells #[.int .i64 (i : Int)] 3)).drew) s (by rw [HVS.out]; exact hgrow6) hg7; have c7 := hq7.hp.row.cell; have b7 : w7.cell? ⟨B, 2, none⟩ = some (wtV (w.heap.size + 1 + 1 + 1) l.length) := (by simp [World.cell?, c7]); have cg7 := (hq7.wts.cellAt i (by omega)).trans (intsOf_get _ i _ HWG.out); have fg7 := hq7.wts.frozenAt i; have gl7 := (hq7.wts.lt _ rfl).2; have HQ7 := Lib.hid hq7; have HST := Lib.hid hst; clear hown6 hgrow6 hat6 hlt6 hq7 hg7 hst c7)
              all_goals
               have HQ8 := Lib.hid (HQ7.out.wtsSet i ((cn0 : Int) + 1))
               rw [HCF.out, HWX.out] at HQ8
               have HS8 := Lib.hid (HQ7.out.set_step HST.out.1 HST.out.2 (by decide) i (.int .i64 ((cn0 : Int) + 1)))
               go_wp2
               refine ⟨⟨k + 1, _, _, by omega, by go_num, HQ8.out, HS8.out.1, by rw [← bn_next]; omega, HS8.out.2⟩, by simp [intOf]; omega⟩
            · have HOX := Lib.hid hown
              clear hown hh
              unfold maxLen at hc2
              go_wp2_with fail
              go_region_law (refine step_append_lies _ (by rfl) _ _ _ (by rfl) (w.heap.size + 1) 3 i0 _ 1 8 Tryz.underlying31 hi hz0 hz1 hz2 rfl (by omega) (.slice (some ⟨g0, 0, none⟩) CS.length cap0) CS.length (intsOf (natI CS)) (by rfl) (by exact HOX.out.alloc _) ⟨wr.heap.size, 0, none⟩ 1 1 [.int .i64 (i : Int)] (by rfl) (by rfl) (World.news_of_block (cs := #[.int .i64 (i : Int)]) (t := 3) (fr := (0, 0)) (heap_alloc_new _ _)) (by simp [Value.oneCell']) (by omega) (by unfold maxLen; omega) (by omega) (by simp; omega) (wr.heap.size + 1) (by simp) ?_; intro gg cap w6 hown6 hgrow6 hat6 hlt6; have k16 := HK6.out _ w6 hgrow6; obtain ⟨w7, (hrun7 : Sem.run Tryz.prog (Instr.mapUpdate 68 (.map (some (w.heap.size + 1 + 1))) (.string (str s)) (.slice (some ⟨gg, 0, none⟩) (CS.length + 1) cap)) w6 = .ok () w7), ⟨g7, hq7⟩, hg7⟩ := HWP.out _ w6 ((below_new wr _).drew) gg cap hown6 hgrow6 (hat6.imp id (fun e => e.trans (by simp))); have hst := HQ.out.wait_step HB.out HNO.out (by decide) ((below_new wr (.cells #[.int .i64 (i : Int)] 3)).drew) s (by rw [HVS.out]; exact hgrow6) hg7; have c7 := hq7.hp.row.cell; have b7 : w7.cell? ⟨B, 2, none⟩ = some (wtV (w.heap.size + 1 + 1 + 1) l.length) := (by simp [World.cell?, c7]); have cg7 := (hq7.wts.cellAt i (by omega)).trans (intsOf_get _ i _ HWG.out); have fg7 := hq7.wts.frozenAt i; have gl7 := (hq7.wts.lt _ rfl).2; have HQ7 := Lib.hid hq7; have HST := Lib.hid hst; clear hown6 hgrow6 hat6 hlt6 hq7 hg7 hst c7)
              all_goals
               have HQ8 := Lib.hid (HQ7.out.wtsSet i ((cn0 : Int) + 1))
               rw [HCF.out, HWX.out] at HQ8
               have HS8 := Lib.hid (HQ7.out.set_step HST.out.1 HST.out.2 (by decide) i (.int .i64 ((cn0 : Int) + 1)))
               go_wp2
               refine ⟨⟨k + 1, _, _, by omega, by go_num, HQ8.out, HS8.out.1, by rw [← bn_next]; omega, HS8.out.2⟩, by simp [intOf]; omega⟩
          · rw [decide_eq_false hm0] at hLB
            have HLB := Lib.hid hLB
            have hd : decide ((0 : Int) < (m : Int)) = false := decide_eq_false (by omega)
            clear hLB
            have HQN : Hid (QuAt wr (w.heap.size + 1) B (w.heap.size + 1) (w.heap.size + 1 + 1) (w.heap.size + 1 + 1 + 1) l.length vr f g l.length nw (leftN (qsOf l) []) (cfP (qsOf l) i (k + 1)) (wpP (qsOf l) i (k + 1)) H) := Lib.hid (by
             rw [cfP_no HS.out HLB.out, wpP_no HS.out HLB.out]; exact HQ.out)
            go_wp2
            refine ⟨⟨k + 1, nw, g, by omega, by go_num, HQN.out, HB.out, by rw [← bn_next]; omega, HNO.out⟩, by simp [intOf]; omega⟩
        · have hke : k = (needsM q.e).length := by omega
          subst hke
          have hq2 : QuAt wr (w.heap.size + 1) B (w.heap.size + 1) (w.heap.size + 1 + 1) (w.heap.size + 1 + 1 + 1) l.length vr f g l.length nw (leftN (qsOf l) []) (cfP (qsOf l) (i + 1) 0) (wpP (qsOf l) (i + 1) 0) H := by
           rw [← cfP_round (qsOf l) i (needsM q.e).length (by rw [HND.out]; exact Nat.le_refl _), ← wpP_round (qsOf l) i (needsM q.e).length (by rw [HND.out]; exact Nat.le_refl _)]; exact hq
          have HQ2 := Lib.hid hq2
          obtain ⟨x, hx⟩ : ∃ x, waitN (qsOf l) [] i = x := ⟨_, rfl⟩
          have hwg : (wpP (qsOf l) (i + 1) 0)[i]? = some (x : Int) := by
           rw [wpP_get _ _ _ (by rw [hQL]; exact hlt)]; unfold wpN; rw [if_pos (by omega), hx]
          have cg := (hq2.wts.cellAt i (by omega)).trans (intsOf_get _ i _ hwg)
          have hgwl : (w.heap.size + 1 + 1 + 1) < wr.heap.size := (hq2.wts.lt _ rfl).2
          have hcB := hq2.hp.row.cell
          have b2 : wr.cell? ⟨B, 2, none⟩ = some (wtV (w.heap.size + 1 + 1 + 1) l.length) := by simp [World.cell?, hcB]
          have hBl := hq2.hp.row.lt
          have hnw2 : nw ≤ bn (i + 1) 0 := Nat.le_trans hnw (bn_round hnl)
          have HX := Lib.hid hx
          clear hq hb hno hx hwg hcB hq2 hnw
          by_cases hx0 : x = 0
          · subst hx0
            have HPU := Lib.hid (hpush_any wr (w.heap.size + 1) B _ _ _ vr H (i : Int) HQ2.out.hp HQ2.out.lo.2.2.2 (by rw [HP.out.length_eq]; unfold natI; rw [List.length_map]; exact Nat.le_trans (filter_le _ _) (by omega)))
            go_wp2_with fail
            refine HPU.out.mono ?_
            rintro e w6 ⟨rfl, v6, l6, hp6, hh6, ho6, hk6⟩
            have HQ6 := Lib.hid (HQ2.out.heap hh6 ho6 hk6)
            have HP6 : Hid (l6.Perm (natI (rdP (qsOf l) (i + 1)))) := Lib.hid (by
             refine hp6.trans ((List.Perm.cons _ HP.out).trans ?_)
             have e := List.Perm.map Int.ofNat (rdP_yes HX.out)
             unfold natI; exact e)
            have HB6 : Hid (Below (w.heap.size + 1) wA w6) := Lib.hid (HB.out.trans (hk6.below HQ2.out.lo.2.2.2 (fun j hj e => by
             rcases e with e | e
             · rw [e]; exact HQ2.out.lo.1
             · exact (HQ2.out.hp.row.own.lt j e).1)))
            clear hp6 hh6 ho6 hk6
            go_wp2
            refine ⟨⟨i + 1, nw, v6, g, l6, by omega, by go_num, HQ6.out, HP6.out, HB6.out, hnw2⟩, by simp [intOf]; omega⟩
          · have HP6 : Hid (H.Perm (natI (rdP (qsOf l) (i + 1)))) := Lib.hid (by rw [rdP_no (by rw [HX.out]; exact hx0)]; exact HP.out)
            go_wp2
            refine ⟨⟨i + 1, nw, vr, g, H, by omega, by go_num, HQ2.out, HP6.out, HB.out, hnw2⟩, by simp [intOf]; omega⟩
     · obtain rfl : i = l.length := by omega
       have hrun := hq.hp.row.cell
       have b0 : wr.cell? ⟨B, 0, none⟩ = some (.map (some (w.heap.size + 1))) := by simp [World.cell?, hrun]
       have b1 : wr.cell? ⟨B, 1, none⟩ = some (.map (some (w.heap.size + 1 + 1))) := by simp [World.cell?, hrun]
       have b2 : wr.cell? ⟨B, 2, none⟩ = some (wtV (w.heap.size + 1 + 1 + 1) l.length) := by simp [World.cell?, hrun]
       have b3 : wr.cell? ⟨B, 3, none⟩ = some vr := by simp [World.cell?, hrun]
       have hR : wr.heap[w.heap.size]? = some (.cells #[.map none, .map none, .slice none 0 0, .slice none 0 0] 73 (0, 0)) := (hb.block _ (by omega)).trans HRA.out
       have r0 : wr.cell? ⟨w.heap.size, 0, none⟩ = some (.map none) := by simp [World.cell?, hR]
       have r1 : wr.cell? ⟨w.heap.size, 1, none⟩ = some (.map none) := by simp [World.cell?, hR]
       have r2 : wr.cell? ⟨w.heap.size, 2, none⟩ = some (.slice none 0 0) := by simp [World.cell?, hR]
       have r3 : wr.cell? ⟨w.heap.size, 3, none⟩ = some (.slice none 0 0) := by simp [World.cell?, hR]
       have f0 : ∀ k, wr.frozen? ⟨w.heap.size, k, none⟩ = false := fun k => by simp [World.frozen?, hR]
       have f00 := f0 0
       have f01 := f0 1
       have f02 := f0 2
       have f03 := f0 3
       have hvf : ∃ A n c, vr = .slice A n c := by
        obtain ⟨-, h1 | ⟨g, cap, cur, e, -⟩⟩ := hq.hp.row.own
        · exact ⟨_, _, _, h1.1⟩
        · exact ⟨_, _, _, e⟩
       obtain ⟨Av, nv, cv, rfl⟩ := hvf
       have hRB : w.heap.size ≠ B := by have := hq.lo.1; omega
       have hRl : w.heap.size < wr.heap.size := lt_of_block hR
       have HEND : Hid (∀ W, W = (((wr.setCell ⟨w.heap.size, 0, none⟩ (.map (some (w.heap.size + 1)))).setCell ⟨w.heap.size, 1, none⟩ (.map (some (w.heap.size + 1 + 1)))).setCell ⟨w.heap.size, 2, none⟩ (wtV (w.heap.size + 1 + 1 + 1) l.length)).setCell ⟨w.heap.size, 3, none⟩ (.slice Av nv cv) → W.heap[w.heap.size]? = some (.cells #[.map (some (w.heap.size + 1)), .map (some (w.heap.size + 1 + 1)), wtV (w.heap.size + 1 + 1 + 1) l.length, .slice Av nv cv] 73 (0, 0)) ∧ QueuedPost w (qsOf l) (.returned (queV (w.heap.size + 1) (w.heap.size + 1 + 1) (w.heap.size + 1 + 1 + 1) l.length (.slice Av nv cv))) W) := Lib.hid (fun W hW => by
        obtain ⟨q1, q2, q3, q4⟩ := set4 hR _ _ _ _ hW
        refine ⟨q1, B, (w.heap.size + 1), (w.heap.size + 1 + 1), (w.heap.size + 1 + 1 + 1), .slice Av nv cv, f, g, l.length, nw, H, by rw [hQL], ?_, ?_, (HBA.out.trans (HB.out.mono (Nat.le_succ _))) |> q4 _ _ (Nat.le_refl _), hn⟩
        · have h0 := hq.keep (w' := W) (by omega) (fun k hk hqb => q3 k (by have := hq.qb_lo hqb; omega))
          rw [← hQL, cfP_end, wpP_end, hQL] at h0
          rw [hQL]
          exact ⟨⟨⟨h0.hp.row.cell, own_base h0.hp.row.own (Nat.le_succ _)⟩, h0.hp.heap⟩, h0.left, h0.leftV, h0.wait, fun s => own_base (h0.waitV s) (Nat.le_succ _), own_base h0.wts (Nat.le_succ _), h0.wlen, h0.ne, ⟨by have := h0.lo.1; omega, by have := h0.lo.2.1; omega, by have := h0.lo.2.2.1; omega, by have := h0.lo.2.2.2; omega⟩, h0.s1, h0.s2, h0.s3, h0.s4⟩
        · rw [← rdP_end, hQL]; exact hp)
       clear hrun hR hq hp hb f0
       go_wp2
       obtain ⟨W, hW⟩ : ∃ W, W = (((wr.setCell ⟨w.heap.size, 0, none⟩ (.map (some (w.heap.size + 1)))).setCell ⟨w.heap.size, 1, none⟩ (.map (some (w.heap.size + 1 + 1)))).setCell ⟨w.heap.size, 2, none⟩ (wtV (w.heap.size + 1 + 1 + 1) l.length)).setCell ⟨w.heap.size, 3, none⟩ (.slice Av nv cv) := ⟨_, rfl⟩
       rw [← hW]
       obtain ⟨e1, e2⟩ := HEND.out W hW
       have z0 : W.cell? ⟨w.heap.size, 0, none⟩ = some (.map (some (w.heap.size + 1))) := by simp [World.cell?, e1]
       have z1 : W.cell? ⟨w.heap.size, 1, none⟩ = some (.map (some (w.heap.size + 1 + 1))) := by simp [World.cell?, e1]
       have z2 : W.cell? ⟨w.heap.size, 2, none⟩ = some (wtV (w.heap.size + 1 + 1 + 1) l.length) := by simp [World.cell?, e1]
       have z3 : W.cell? ⟨w.heap.size, 3, none⟩ = some (.slice Av nv cv) := by simp [World.cell?, e1]
       clear e1 hW
       exact bodyPost_ret (v := queV (w.heap.size + 1) (w.heap.size + 1 + 1) (w.heap.size + 1 + 1 + 1) l.length (.slice Av nv cv)) (by simp [results, Tryz.results23, go_sem, z0, z1, z2, z3]) rfl e2
end Go.Proofs.YtdebhngpgabglaaGreat.Ca
