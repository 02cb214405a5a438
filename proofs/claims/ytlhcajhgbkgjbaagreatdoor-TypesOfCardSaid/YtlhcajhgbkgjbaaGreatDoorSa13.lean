/- Contracts of the document's reader of programs: streams behind var. Conditions: a reader lies in memory. -/
import Derived.Test.YtlhcajhgbkgjbaaGreatDoorSa10
import Derived.Test.YtlhcajhgbkgjbaaGreatDoorSa12
set_option linter.unusedVariables false
set_option linter.unusedSimpArgs false
namespace Go.Proofs.YtlhcajhgbkgjbaaGreatDoor.Rp
open Go.ChangeShapes Go.WideShapes Go.ChangeAt Go.RowKit
open Ex
open Tr (str ka1 ka6 Bytes Nd)
open Pg
theorem kiy : (Tryz.prog.info? 50).map (fun i => (i.zero, i.size, i.bytes)) = some (some (.agg #[.string ⟨#[]⟩, .int .i64 0]), 2, 24) := by kernel_rfl
set_option maxRecDepth 100000 in
set_option maxHeartbeats 8000000 in
theorem kj6 (b : Nat) (r : Rd) (w : World) (hr : RdIn w b r) : Calls Tryz.prog 62 #[.pointer (some ⟨b, 0, none⟩)] w (RowG 50 2 PrmV w b (varQ r)) := by
 have HR := Lib.hid hr
 have hlt := hr.lt
 obtain ⟨i0, hi, hz0, hz1, hz2⟩ := info_parts kiy
 obtain ⟨X, hX⟩ : ∃ X, varQ r = X := ⟨_, rfl⟩
 have HE0 : Hid (varF kaH [] r = X) := Lib.hid hX
 rw [hX]
 clear hX hr
 go_enter Tryz.func62, Tryz.ntmps62
 go_wp2
 go_loopg [3] kaH (fun g s3 wr => ∃ (rr : Rd) (ov : Value) (acc : List (Prm)) (xs : List (List Value)), ov = s3 /\ acc.length <= 201 /\ 1 <= g /\ (rr.code = 0 -> acc.length <= 200 /\ 202 <= acc.length + g) /\ OList 50 2 PrmV wr w.heap.size ov acc xs /\ RdBy w wr b rr /\ varF g acc rr = X)
 case atStart => exact ⟨r, _, [], [], rfl, by simp, by simp [kaH], fun _ => by simp [kaH], OList.nil _ _, (RdBy.refl HR.out), HE0.out⟩
 case round =>
  obtain ⟨rr, ov, acc, xs, hov, ha, hg1, hag, hol, hgr, hrow⟩ := hrel
  subst hov
  have HOL := Lib.hid hol
  have HGR := Lib.hid hgr
  have HROW := Lib.hid hrow
  obtain ⟨A0, c0, hv0, hn1, hn2⟩ := kbC hol.own
  subst hv0
  have hs0 := hgr.grown.size
  clear hol hgr hrow
  cases gk with
  | zero => omega
  | succ gk =>
  by_cases hc : rr.code = 0
  rotate_left
  · have HE : Hid (([], rr) = X) := Lib.hid ((kgQ hc).symm.trans HROW.out)
    have HOK := Lib.hid (kd5 (B := false) HGR.out.rd (by simpa using hc))
    clear hc
    go_wp2_with fail
    refine HOK.out.mono ?_
    rintro e w1 ⟨rfl, rfl⟩
    go_wp2
    go_ret
    exact RowG.of HE.out (RowR.nil _ _ _ _) HGR.out
  have hag' := hag hc
  have HOK := Lib.hid (kd5 (B := true) HGR.out.rd (by rw [hc]; rfl))
  clear hag
  obtain ⟨r1, k1⟩ : ∃ x, (kby acc.length rr).2 = x := ⟨_, rfl⟩
  have HK1 := Lib.hid (kdo (n := acc.length) (by omega) HGR.out.rd k1)
  obtain ⟨⟨a, r2⟩, k2⟩ : ∃ x, kaK r1 = x := ⟨_, rfl⟩
  have HO : Hid (∀ w', RdIn w' b r1 -> Calls Tryz.prog 61 #[.pointer (some ⟨b, 0, none⟩)] w' (PrmG w' b (a, r2))) := Lib.hid (fun w' h => by rw [<- k2]; exact kck b r1 w' h)
  obtain ⟨r3, k3⟩ : ∃ x, (kaj kaM r2).2 = x := ⟨_, rfl⟩
  obtain ⟨B, k4⟩ : ∃ x, kaP r3 = x := ⟨_, rfl⟩
  have HST : Hid (r3.code = 0 -> acc.length < 200) := Lib.hid (fun h => kc0 k1 (Classical.byContradiction fun hn => by
   have s1 := kbQ r1 hn
   rw [k2] at s1
   have s3 := kag kaM r2 s1
   rw [k3] at s3
   exact s3 h))
  have HE : Hid ((if B then varF gk (acc ++ [a]) r3 else (acc ++ [a], r3)) = X) := Lib.hid ((kkC hc k1 k2 k3 k4).symm.trans HROW.out)
  have K3 := Lib.hid k3
  have K4 := Lib.hid k4
  clear k1 k2 k3 k4 hc
  go_wp2_with fail
  refine HOK.out.mono ?_
  rintro e w0 ⟨rfl, rfl⟩
  go_wp2_with fail
  refine HK1.out.mono ?_
  rintro e w1 ⟨rfl, hg1⟩
  have HG1 := Lib.hid hg1
  have hs1 := hg1.grown.size
  have HOL1 := Lib.hid (HOL.out.stay (RdBy.stay HGR.out.rd hg1) (by decide) (fun a x hx => PrmV.stay (RdBy.stay HGR.out.rd hg1) a x hx))
  clear hg1
  go_wp2_with fail
  refine (HO.out w1 HG1.out.rd).mono ?_
  rintro e w2 ⟨rfl, hg2⟩
  have HG2 := Lib.hid hg2
  have hs2 := hg2.grown.size
  have HOL2 := Lib.hid (HOL1.out.stay (RdBy.stay HG1.out.rd hg2) (by decide) (fun a x hx => PrmV.stay (RdBy.stay HG1.out.rd hg2) a x hx))
  clear hg2
  have HXV : Hid (PrmV w2 a [.string (str a.name), .int .i64 a.ty]) := Lib.hid rfl
  go_wp2_with (at_builtin; refine wpList_append_own _ rfl (.tmp 10) (.tmp 13) 24 rfl w.heap.size 50 i0 _ 2 24 Tryz.underlying24 hi hz0 hz1 hz2 rfl (by decide) _ acc.length xs.flatten rfl (HOL2.out.own.alloc _) ⟨w2.heap.size, 0, none⟩ 1 1 [.string (str a.name), .int .i64 a.ty] rfl rfl ?a1 ?b1 ?c1 ?d1 ?e1 ?_)
  case a1 => first | exact (fun j u h => h) | exact ke5 _ #[.string (str a.name), .int .i64 a.ty] _ [.string (str a.name), .int .i64 a.ty] rfl rfl
  case b1 => simp [Value.oneCell']
  case c1 => unfold maxLen; omega
  case d1 => omega
  case e1 => simp; omega
  intro v3 w3 hown3 hg3 _
  have HOL3 := Lib.hid (HOL2.out.snoc HXV.out rfl (below_new w2 _) hown3 hg3 (fun st => PrmV.stay st))
  have HGR3 := Lib.hid (RdBy.row ((HGR.out.trans HG1.out).trans HG2.out) hlt (below_new w2 _) hg3 (fun g hg => (HOL2.out.own.lt g hg).1))
  obtain ⟨A3, c3, hv3, y3, y4⟩ := kbC hown3
  subst hv3
  clear hown3 hg3
  go_wp2_with fail
  refine (kad (s := kaM) rfl HGR3.out.rd K3.out).mono ?_
  rintro e w4 ⟨rfl, hg4⟩
  have HGR4 := Lib.hid (HGR3.out.trans hg4)
  have HOL4 := Lib.hid (HOL3.out.stay (RdBy.stay HGR3.out.rd hg4) (by decide) (fun a x hx => PrmV.stay (RdBy.stay HGR3.out.rd hg4) a x hx))
  clear hg4
  go_wp2_with fail
  refine (kfd HGR4.out.rd K4.out).mono ?_
  rintro e w5 ⟨rfl, hb5⟩
  have HGR5 := Lib.hid (HGR4.out.then_below hb5)
  have HOL5 := Lib.hid (HOL4.out.stay (Stay.below (P := fun t => t = 93) hb5) (by decide) (fun a x hx => PrmV.stay (Stay.below (P := fun t => t = 93) hb5) a x hx))
  clear hb5
  cases B with
  | false =>
   have HE1 : Hid ((acc ++ [a], r3) = X) := Lib.hid HE.out
   go_wp2
   go_ret
   exact RowG.of HE1.out HOL5.out.row HGR5.out
  | true =>
   have HE1 : Hid (varF gk (acc ++ [a]) r3 = X) := Lib.hid HE.out
   go_wp2
   go_roundg gk
   case measure => omega
   case rel => exact ⟨r3, _, acc ++ [a], xs ++ [[.string (str a.name), .int .i64 a.ty]], rfl, by simp; omega, by omega, fun h => by have := HST.out h; simp; omega, HOL5.out, HGR5.out, HE1.out⟩
end Go.Proofs.YtlhcajhgbkgjbaaGreatDoor.Rp

/- Contracts of the document's reader of programs: equations. Conditions: a reader lies in memory. -/
namespace Go.Proofs.YtlhcajhgbkgjbaaGreatDoor.Rp
open Go.ChangeShapes Go.WideShapes Go.ChangeAt Go.RowKit
open Ex
open Tr (str ka1 ka6 Bytes Nd)
open Pg
theorem kkk : (Tryz.prog.info? 56).map (fun i => (i.zero, i.size, i.bytes)) = some (some (.agg #[.string ⟨#[]⟩, .slice none 0 0]), 2, 40) := by kernel_rfl
set_option maxRecDepth 100000 in
set_option maxHeartbeats 8000000 in
theorem kgE (b : Nat) (r : Rd) (w : World) (hr : RdIn w b r) : Calls Tryz.prog 63 #[.pointer (some ⟨b, 0, none⟩)] w (RowG 56 2 EqnV w b (eqsQ r)) := by
 have HR := Lib.hid hr
 have hlt := hr.lt
 obtain ⟨i0, hi, hz0, hz1, hz2⟩ := info_parts kkk
 obtain ⟨⟨l, re⟩, hX⟩ : ∃ X, eqF kaH [] r = X := ⟨_, rfl⟩
 obtain ⟨rz, hz⟩ : ∃ x, (kaj wTel re).2 = x := ⟨_, rfl⟩
 have hX' : eqsQ r = (l, rz) := by unfold eqsQ; rw [pb hX, pu hz]; rfl
 obtain ⟨X, hXX⟩ : ∃ X, ((l, re) : List Eqn × Rd) = X := ⟨_, rfl⟩
 have HE0 : Hid (eqF kaH [] r = X) := Lib.hid (hX.trans hXX)
 have HXX := Lib.hid hXX
 have HZ := Lib.hid hz
 rw [hX']
 clear hX hX' hXX hz hr
 go_enter Tryz.func63, Tryz.ntmps63
 go_wp2
 go_loopg [3] kaH (fun g s3 wr => ∃ (rr : Rd) (ov : Value) (acc : List (Eqn)) (xs : List (List Value)), ov = s3 /\ acc.length <= 201 /\ 1 <= g /\ (rr.code = 0 -> acc.length <= 200 /\ 202 <= acc.length + g) /\ OList 56 2 EqnV wr w.heap.size ov acc xs /\ RdBy w wr b rr /\ eqF g acc rr = X)
 case atStart => exact ⟨r, _, [], [], rfl, by simp, by simp [kaH], fun _ => by simp [kaH], OList.nil _ _, (RdBy.refl HR.out), HE0.out⟩
 case round =>
  obtain ⟨rr, ov, acc, xs, hov, ha, hg1, hag, hol, hgr, hrow⟩ := hrel
  subst hov
  have HOL := Lib.hid hol
  have HGR := Lib.hid hgr
  have HROW := Lib.hid hrow
  obtain ⟨A0, c0, hv0, hn1, hn2⟩ := kbC hol.own
  subst hv0
  have hs0 := hgr.grown.size
  clear hol hgr hrow
  cases gk with
  | zero => omega
  | succ gk =>
  obtain ⟨B, hB⟩ : ∃ B, kaP rr = B := ⟨_, rfl⟩
  have HB := Lib.hid (kfd HGR.out.rd hB)
  cases B with
  | false =>
   have HE : Hid ((acc, rr) = X) := Lib.hid ((ko9 hB).symm.trans HROW.out)
   clear hB
   go_wp2_with fail
   refine HB.out.mono ?_
   rintro e w1 ⟨rfl, hb1⟩
   have HG1 := Lib.hid (HGR.out.then_below hb1)
   have HOL1 := Lib.hid (HOL.out.stay (Stay.below (P := fun t => t = 93) hb1) (by decide) (fun a x hx => EqnV.stay (Stay.below (P := fun t => t = 93) hb1) (by decide) a x hx))
   clear hb1
   obtain ⟨rfl, rfl⟩ : l = acc /\ re = rr := by have z := HXX.out.trans HE.out.symm; injection z with z1 z2; exact ⟨z1, z2⟩
   go_wp2_with fail
   refine (kad (s := wTel) rfl HG1.out.rd HZ.out).mono ?_
   rintro e w2 ⟨rfl, hg2⟩
   have HG2 := Lib.hid (HG1.out.trans hg2)
   have HOL2 := Lib.hid (HOL1.out.stay (RdBy.stay HG1.out.rd hg2) (by decide) (fun a x hx => EqnV.stay (RdBy.stay HG1.out.rd hg2) (by decide) a x hx))
   clear hg2
   go_wp2
   go_ret
   exact ⟨_, rfl, HOL2.out.row, HG2.out⟩
  | true =>
  have hin : rr.next < rr.l.length := by unfold kaP at hB; simp at hB; exact hB.1
  have hc : rr.code = 0 := HGR.out.rd.alive hin
  have hag' := hag hc
  obtain ⟨r1, k1⟩ : ∃ x, (kby acc.length rr).2 = x := ⟨_, rfl⟩
  obtain ⟨⟨n, r2⟩, k2⟩ : ∃ x, kbz r1 = x := ⟨_, rfl⟩
  obtain ⟨r3, k3⟩ : ∃ x, (kaj sEq r2).2 = x := ⟨_, rfl⟩
  obtain ⟨⟨E, r4⟩, k4⟩ : ∃ x, kbj r3 = x := ⟨_, rfl⟩
  obtain ⟨r5, k5⟩ : ∃ x, (kaj kaM r4).2 = x := ⟨_, rfl⟩
  have HO : Hid (∀ w', RdIn w' b r3 -> Calls Tryz.prog 90 #[.pointer (some ⟨b, 0, none⟩)] w' (ExpG w' b (E, r4))) := Lib.hid (fun w' h => by rw [<- k4]; exact kd1 b r3 w' h)
  have HE : Hid (eqF gk (acc ++ [⟨n, E⟩]) r5 = X) := Lib.hid ((koa hB k1 k2 k3 k4 k5).symm.trans HROW.out)
  have HST : Hid (r5.code = 0 -> acc.length < 200) := Lib.hid (fun h => kc0 k1 (Classical.byContradiction fun hn => by
   have s1 := kbR r1 hn
   rw [k2] at s1
   have s2 := kag sEq r2 s1
   rw [k3] at s2
   have s3 := kbw r3 s2
   rw [k4] at s3
   have s4 := kag kaM r4 s3
   rw [k5] at s4
   exact s4 h))
  have K1 := Lib.hid k1
  have K2 := Lib.hid k2
  have K3 := Lib.hid k3
  have K5 := Lib.hid k5
  clear k1 k2 k3 k4 k5 hc hB hag hin
  go_wp2_with fail
  refine HB.out.mono ?_
  rintro e w0 ⟨rfl, hb0⟩
  have HG0 := Lib.hid (HGR.out.then_below hb0)
  have hsb := hb0.size
  have HOL0 := Lib.hid (HOL.out.stay (Stay.below (P := fun t => t = 93) hb0) (by decide) (fun a x hx => EqnV.stay (Stay.below (P := fun t => t = 93) hb0) (by decide) a x hx))
  clear hb0
  go_wp2_with fail
  refine (kdo (n := acc.length) (by omega) HG0.out.rd K1.out).mono ?_
  rintro e w1 ⟨rfl, hg1⟩
  have HG1 := Lib.hid (HG0.out.trans hg1)
  have hs1 := hg1.grown.size
  have HOL1 := Lib.hid (HOL0.out.stay (RdBy.stay HG0.out.rd hg1) (by decide) (fun a x hx => EqnV.stay (RdBy.stay HG0.out.rd hg1) (by decide) a x hx))
  clear hg1
  go_wp2_with fail
  refine (kbW HG1.out.rd K2.out).mono ?_
  rintro e w2 ⟨rfl, hg2⟩
  have HG2 := Lib.hid (HG1.out.trans hg2)
  have hs2 := hg2.grown.size
  have HOL2 := Lib.hid (HOL1.out.stay (RdBy.stay HG1.out.rd hg2) (by decide) (fun a x hx => EqnV.stay (RdBy.stay HG1.out.rd hg2) (by decide) a x hx))
  clear hg2
  have HG2a := Lib.hid (HG2.out.then_below (below_new w2 (.cells #[.string (str n), .slice none 0 0] 56)))
  have hQ2 := heap_alloc_new w2 (.cells #[.string (str n), .slice none 0 0] 56)
  have HQ2 := Lib.hid hQ2
  have HOL2a := Lib.hid (HOL2.out.stay (Stay.below (P := fun t => t = 93) (below_new w2 (.cells #[.string (str n), .slice none 0 0] 56))) (by decide) (fun a x hx => EqnV.stay (Stay.below (P := fun t => t = 93) (below_new w2 (.cells #[.string (str n), .slice none 0 0] 56))) (by decide) a x hx))
  clear hQ2
  have hbb : b < w2.heap.size := HG2.out.rd.lt
  go_wp2_with fail
  refine (kad (s := sEq) rfl HG2a.out.rd K3.out).mono ?_
  rintro e w3 ⟨rfl, hg3⟩
  have HG3 := Lib.hid (HG2a.out.trans hg3)
  have HOL3 := Lib.hid (HOL2a.out.stay (RdBy.stay HG2a.out.rd hg3) (by decide) (fun a x hx => EqnV.stay (RdBy.stay HG2a.out.rd hg3) (by decide) a x hx))
  have HQ3 := Lib.hid (hg3.block HQ2.out (by omega))
  clear hg3
  go_wp2_with fail
  refine (HO.out w3 HG3.out.rd).mono ?_
  rintro e w4 ⟨ev, rfl, hp4, hg4⟩
  have HG4 := Lib.hid (HG3.out.trans hg4)
  have HOL4 := Lib.hid (HOL3.out.stay (RdBy.stay HG3.out.rd hg4) (by decide) (fun a x hx => EqnV.stay (RdBy.stay HG3.out.rd hg4) (by decide) a x hx))
  have HQ4 := Lib.hid (hg4.block HQ3.out (by omega))
  obtain ⟨A2, n2, c2, rfl, y1, y2⟩ := kcy hp4
  have HP4 := Lib.hid hp4
  clear hg4 hp4
  have q1 : w4.cell? ⟨w2.heap.size, 1, none⟩ = some (.slice none 0 0) := (ka0 HQ4.out 1).trans rfl
  have f1 : w4.frozen? ⟨w2.heap.size, 1, none⟩ = false := free_at HQ4.out 1
  have lq4 := lt_of_block HQ4.out
  have HQ4a : Hid ((w4.setCell ⟨w2.heap.size, 1, none⟩ (.slice A2 n2 c2)).heap[w2.heap.size]? = some (.cells #[.string (str n), .slice A2 n2 c2] 56 (0, 0))) := Lib.hid (by have z := ka2 (v := .slice A2 n2 c2) HQ4.out (k := 1) (by simp); simpa using z)
  have HG4a := Lib.hid (HG4.out.setLocal (k := 1) (B := w2.heap.size) (by omega) hlt (.slice A2 n2 c2))
  have hst4 : ∀ g, g ≠ w2.heap.size -> (w4.setCell ⟨w2.heap.size, 1, none⟩ (.slice A2 n2 c2)).heap[g]? = w4.heap[g]? := fun g hg => kbO hg
  have HOL4a := Lib.hid (HOL4.out.keep (w' := w4.setCell ⟨w2.heap.size, 1, none⟩ (.slice A2 n2 c2)) (fun g hg => hst4 g (by
   intro e
   subst e
   have z := HOL2.out.own.lt _ hg
   omega)) (fun a x hx => EqnV.stay (P := fun t => t = 56) (ka4 (P := fun t => t = 56) HQ4.out rfl _) (by decide) a x hx))
  have HP4a := Lib.hid ((ka4 (P := fun t => t = 56) (k := 1) HQ4.out rfl (.slice A2 n2 c2)).pt (by decide) HP4.out)
  clear hst4
  go_wp2_with fail
  refine (kad (s := kaM) rfl HG4a.out.rd K5.out).mono ?_
  rintro e w5 ⟨rfl, hg5⟩
  have HG5 := Lib.hid (HG4a.out.trans hg5)
  have HOL5 := Lib.hid (HOL4a.out.stay (RdBy.stay HG4a.out.rd hg5) (by decide) (fun a x hx => EqnV.stay (RdBy.stay HG4a.out.rd hg5) (by decide) a x hx))
  have HQ5 := Lib.hid (hg5.block HQ4a.out (by omega))
  have HP5 := Lib.hid ((RdBy.stay HG4a.out.rd hg5).pt (by decide) HP4a.out)
  clear hg5 q1 f1
  have HXV : Hid (EqnV w5 ⟨n, E⟩ [.string (str n), .slice A2 n2 c2]) := Lib.hid ⟨_, rfl, HP5.out⟩
  have q50 : w5.cell? ⟨w2.heap.size, 0, none⟩ = some (.string (str n)) := (ka0 HQ5.out 0).trans rfl
  have q51 : w5.cell? ⟨w2.heap.size, 1, none⟩ = some (.slice A2 n2 c2) := (ka0 HQ5.out 1).trans rfl
  have lq5 := lt_of_block HQ5.out
  go_wp2_with (at_builtin; refine wpList_append_own _ rfl (.tmp 21) (.tmp 23) 51 rfl w.heap.size 56 i0 _ 2 40 Tryz.underlying51 hi hz0 hz1 hz2 rfl (by decide) _ acc.length xs.flatten rfl (HOL5.out.own.alloc _) ⟨w5.heap.size, 0, none⟩ 1 1 [.string (str n), .slice A2 n2 c2] rfl rfl ?a1 ?b1 ?c1 ?d1 ?e1 ?_)
  case a1 => first | exact (fun j u h => h) | exact ke5 _ #[.string (str n), .slice A2 n2 c2] _ [.string (str n), .slice A2 n2 c2] rfl rfl
  case b1 => simp [Value.oneCell']
  case c1 => unfold maxLen; omega
  case d1 => omega
  case e1 => simp; omega
  intro v3 w3 hown3 hg3 _
  have HOL3 := Lib.hid (HOL5.out.snoc HXV.out rfl (below_new w5 _) hown3 hg3 (fun st => EqnV.stay st (by decide)))
  have HGR3 := Lib.hid (RdBy.row (HG5.out) hlt (below_new w5 _) hg3 (fun g hg => (HOL5.out.own.lt g hg).1))
  obtain ⟨A3, c3, hv3, y3, y4⟩ := kbC hown3
  subst hv3
  clear hown3 hg3
  go_wp2
  go_roundg gk
  case measure => omega
  case rel => exact ⟨r5, _, acc ++ [⟨n, E⟩], xs ++ [[.string (str n), .slice A2 n2 c2]], rfl, by simp; omega, by omega, fun h => by have := HST.out h; simp; omega, HOL3.out, HGR3.out, HE.out⟩
end Go.Proofs.YtlhcajhgbkgjbaaGreatDoor.Rp

/- Contracts of the document's reader of programs: a node. Conditions: a reader lies in memory. -/
namespace Go.Proofs.YtlhcajhgbkgjbaaGreatDoor.Rp
open Go.ChangeShapes Go.WideShapes Go.ChangeAt Go.RowKit
open Ex
open Tr (str ka1 ka6 Bytes Nd)
open Pg
set_option maxRecDepth 100000 in
set_option maxHeartbeats 8000000 in
theorem koH (b : Nat) (r : Rd) (w : World) (hr : RdIn w b r) (n : Bytes) (i : List Prm) (on : Bytes) (ot : Int) (l : List Itm) (vs : List Prm) (q : List Eqn) (r0 r1 r2 r3 r4 r5 r6 r7 r8 r9 r10 r11 r12 : Rd) (X : Unt × Rd) (h0 : kau kai r = (false, r)) (h1 : (kaj kdU r).2 = r0) (h2 : kbz r0 = (n, r1)) (h3 : inQ kaM kaK r1 = (i, r2)) (h4 : (kaj kbA r2).2 = r3) (h5 : (kaj [40] r3).2 = r4) (h6 : kaK r4 = (⟨on, ot⟩, r5)) (h7 : (kaj [41] r5).2 = r6) (h8 : kau kai r6 = (false, r7)) (h9 : (if false then kct else kbf []) r7 = (l, r8)) (h10 : kau wVar r8 = (false, r9)) (h11 : (if false then varQ else kbf []) r9 = (vs, r10)) (h12 : (kaj wLet r10).2 = r11) (h13 : eqsQ r11 = (q, r12)) (he : ((⟨false, n, i, ⟨on, ot⟩, vs, q, l⟩ : Unt), r12) = X) : Calls Tryz.prog 43 #[.pointer (some ⟨b, 0, none⟩)] w (UntG w b X) := by
 have HR := Lib.hid hr
 have hlt := hr.lt
 obtain ⟨rfl, rfl⟩ : l = [] /\ r8 = r7 := by have z : (([] : List Itm), r7) = (l, r8) := h9; injection z with z1 z2; exact ⟨z1.symm, z2.symm⟩
 obtain ⟨rfl, rfl⟩ : vs = [] /\ r10 = r9 := by have z : (([] : List Prm), r9) = (vs, r10) := h11; injection z with z1 z2; exact ⟨z1.symm, z2.symm⟩
 have HE := Lib.hid he
 have H0 := Lib.hid h0
 have H1 := Lib.hid h1
 have H2 := Lib.hid h2
 have H4 := Lib.hid h4
 have H5 := Lib.hid h5
 have H7 := Lib.hid h7
 have H8 := Lib.hid h8
 have H10 := Lib.hid h10
 have H12 := Lib.hid h12
 have HC3 : Hid (∀ w', RdIn w' b r1 -> Calls Tryz.prog 59 #[.pointer (some ⟨b, 0, none⟩)] w' (RowG 50 2 PrmV w' b (i, r2))) := Lib.hid (fun w' h => by rw [<- h3]; exact kcP b r1 w' h)
 have HC6 : Hid (∀ w', RdIn w' b r4 -> Calls Tryz.prog 61 #[.pointer (some ⟨b, 0, none⟩)] w' (PrmG w' b (⟨on, ot⟩, r5))) := Lib.hid (fun w' h => by rw [<- h6]; exact kck b r4 w' h)
 have HC13 : Hid (∀ w', RdIn w' b r11 -> Calls Tryz.prog 63 #[.pointer (some ⟨b, 0, none⟩)] w' (RowG 56 2 EqnV w' b (q, r12))) := Lib.hid (fun w' h => by rw [<- h13]; exact kgE b r11 w' h)
 clear h0 h1 h2 h3 h4 h5 h6 h7 h8 h10 h12 h13 h9 h11 he hr
 have hBW : Below w.heap.size w ((w.alloc (.cells #[.bool false, .string ⟨#[]⟩, .slice none 0 0, .string ⟨#[]⟩, .int .i64 0, .slice none 0 0, .slice none 0 0, .slice none 0 0] 54)).alloc (.cells #[.bool false, .string ⟨#[]⟩, .slice none 0 0, .string ⟨#[]⟩, .int .i64 0, .slice none 0 0, .slice none 0 0, .slice none 0 0] 54)) := (below_new w _).alloc (below_new w _).size _
 have X0 : Hid (((w.alloc (.cells #[.bool false, .string ⟨#[]⟩, .slice none 0 0, .string ⟨#[]⟩, .int .i64 0, .slice none 0 0, .slice none 0 0, .slice none 0 0] 54)).alloc (.cells #[.bool false, .string ⟨#[]⟩, .slice none 0 0, .string ⟨#[]⟩, .int .i64 0, .slice none 0 0, .slice none 0 0, .slice none 0 0] 54)).heap[w.heap.size]? = some (.cells #[.bool false, .string ⟨#[]⟩, .slice none 0 0, .string ⟨#[]⟩, .int .i64 0, .slice none 0 0, .slice none 0 0, .slice none 0 0] 54 (0, 0))) := Lib.hid (kdE (heap_alloc_new w _))
 have Y0 : Hid (((w.alloc (.cells #[.bool false, .string ⟨#[]⟩, .slice none 0 0, .string ⟨#[]⟩, .int .i64 0, .slice none 0 0, .slice none 0 0, .slice none 0 0] 54)).alloc (.cells #[.bool false, .string ⟨#[]⟩, .slice none 0 0, .string ⟨#[]⟩, .int .i64 0, .slice none 0 0, .slice none 0 0, .slice none 0 0] 54)).heap[w.heap.size + 1]? = some (.cells #[.bool false, .string ⟨#[]⟩, .slice none 0 0, .string ⟨#[]⟩, .int .i64 0, .slice none 0 0, .slice none 0 0, .slice none 0 0] 54 (0, 0))) := Lib.hid (kbo (by simp))
 have HG0 := Lib.hid (RdBy.of_below HR.out hBW)
 have hne : w.heap.size ≠ w.heap.size + 1 := by omega
 clear hBW
 go_enter Tryz.func43, Tryz.ntmps43
 go_wp2_with fail
 refine (kac (s := kai) rfl HG0.out.rd H0.out).mono ?_
 rintro e w1 ⟨rfl, hg1⟩
 have HG1 := Lib.hid (HG0.out.trans hg1)
 have x1 := hg1.block X0.out (by omega)
 have y1 := hg1.block Y0.out (by omega)
 have X1 := Lib.hid x1
 have Y1 := Lib.hid y1
 have lx1 := lt_of_block x1
 have ly1 := lt_of_block y1
 clear hg1 x1 y1
 go_wp2_with fail
 refine (kad (s := kdU) rfl HG1.out.rd H1.out).mono ?_
 rintro e w2 ⟨rfl, hg2⟩
 have HG2 := Lib.hid (HG1.out.trans hg2)
 have x2 := hg2.block X1.out (by omega)
 have y2 := hg2.block Y1.out (by omega)
 have X2 := Lib.hid x2
 have Y2 := Lib.hid y2
 have lx2 := lt_of_block x2
 have ly2 := lt_of_block y2
 clear hg2 x2 y2
 go_wp2_with fail
 refine (kbW HG2.out.rd H2.out).mono ?_
 rintro e w3 ⟨rfl, hg3⟩
 have HG3 := Lib.hid (HG2.out.trans hg3)
 have x3 := hg3.block X2.out (by omega)
 have y3 := hg3.block Y2.out (by omega)
 have X3 := Lib.hid x3
 have Y3 := Lib.hid y3
 have lx3 := lt_of_block x3
 have ly3 := lt_of_block y3
 clear hg3 x3 y3
 have q3_1 : w3.cell? ⟨w.heap.size + 1, 1, none⟩ = some (.string ⟨#[]⟩) := (ka0 Y3.out 1).trans rfl
 have k3_1 : w3.frozen? ⟨w.heap.size + 1, 1, none⟩ = false := free_at Y3.out 1
 have Y3a : Hid ((w3.setCell ⟨w.heap.size + 1, 1, none⟩ (.string (str n))).heap[w.heap.size + 1]? = some (.cells #[.bool false, .string (str n), .slice none 0 0, .string ⟨#[]⟩, .int .i64 0, .slice none 0 0, .slice none 0 0, .slice none 0 0] 54 (0, 0))) := Lib.hid (by have z := ka2 (v := .string (str n)) Y3.out (k := 1) (by simp); simpa using z)
 have X3a := Lib.hid (ka7 (k := 1) (v := .string (str n)) X3.out hne)
 have HG3a := Lib.hid (HG3.out.setLocal (k := 1) (B := w.heap.size + 1) (by omega) hlt (.string (str n)))
 go_wp2_with fail
 refine (HC3.out _ HG3a.out.rd).mono ?_
 rintro e w4 ⟨iv, rfl, hl4, hg4⟩
 have HG4 := Lib.hid (HG3a.out.trans hg4)
 have x4 := hg4.block X3a.out (by omega)
 have y4 := hg4.block Y3a.out (by omega)
 have X4 := Lib.hid x4
 have Y4 := Lib.hid y4
 have lx4 := lt_of_block x4
 have ly4 := lt_of_block y4
 obtain ⟨A1, n1, c1, rfl, u1, v1⟩ := kan hl4
 have F1_4 := Lib.hid hl4
 clear hg4 x4 y4 hl4
 clear q3_1 k3_1
 have q4_2 : w4.cell? ⟨w.heap.size + 1, 2, none⟩ = some (.slice none 0 0) := (ka0 Y4.out 2).trans rfl
 have k4_2 : w4.frozen? ⟨w.heap.size + 1, 2, none⟩ = false := free_at Y4.out 2
 have Y4a : Hid ((w4.setCell ⟨w.heap.size + 1, 2, none⟩ (.slice A1 n1 c1)).heap[w.heap.size + 1]? = some (.cells #[.bool false, .string (str n), .slice A1 n1 c1, .string ⟨#[]⟩, .int .i64 0, .slice none 0 0, .slice none 0 0, .slice none 0 0] 54 (0, 0))) := Lib.hid (by have z := ka2 (v := .slice A1 n1 c1) Y4.out (k := 2) (by simp); simpa using z)
 have X4a := Lib.hid (ka7 (k := 2) (v := .slice A1 n1 c1) X4.out hne)
 have HG4a := Lib.hid (HG4.out.setLocal (k := 2) (B := w.heap.size + 1) (by omega) hlt (.slice A1 n1 c1))
 have F1_4a := Lib.hid (F1_4.out.stay (ka4 (P := fun t => t = 54) (k := 2) Y4.out rfl (.slice A1 n1 c1)) (by decide) (fun a x hx => PrmV.stay (ka4 (P := fun t => t = 54) (k := 2) Y4.out rfl (.slice A1 n1 c1)) a x hx))
 go_wp2_with fail
 refine (kad (s := kbA) rfl HG4a.out.rd H4.out).mono ?_
 rintro e w5 ⟨rfl, hg5⟩
 have HG5 := Lib.hid (HG4a.out.trans hg5)
 have x5 := hg5.block X4a.out (by omega)
 have y5 := hg5.block Y4a.out (by omega)
 have X5 := Lib.hid x5
 have Y5 := Lib.hid y5
 have lx5 := lt_of_block x5
 have ly5 := lt_of_block y5
 have F1_5 := Lib.hid (F1_4a.out.stay (RdBy.stay HG4a.out.rd hg5) (by decide) (fun a x hx => PrmV.stay (RdBy.stay HG4a.out.rd hg5) a x hx))
 clear hg5 x5 y5
 clear q4_2 k4_2
 go_wp2_with fail
 refine (kad (s := [40]) rfl HG5.out.rd H5.out).mono ?_
 rintro e w6 ⟨rfl, hg6⟩
 have HG6 := Lib.hid (HG5.out.trans hg6)
 have x6 := hg6.block X5.out (by omega)
 have y6 := hg6.block Y5.out (by omega)
 have X6 := Lib.hid x6
 have Y6 := Lib.hid y6
 have lx6 := lt_of_block x6
 have ly6 := lt_of_block y6
 have F1_6 := Lib.hid (F1_5.out.stay (RdBy.stay HG5.out.rd hg6) (by decide) (fun a x hx => PrmV.stay (RdBy.stay HG5.out.rd hg6) a x hx))
 clear hg6 x6 y6
 go_wp2_with fail
 refine (HC6.out _ HG6.out.rd).mono ?_
 rintro e w7 ⟨rfl, hg7⟩
 have HG7 := Lib.hid (HG6.out.trans hg7)
 have x7 := hg7.block X6.out (by omega)
 have y7 := hg7.block Y6.out (by omega)
 have X7 := Lib.hid x7
 have Y7 := Lib.hid y7
 have lx7 := lt_of_block x7
 have ly7 := lt_of_block y7
 have F1_7 := Lib.hid (F1_6.out.stay (RdBy.stay HG6.out.rd hg7) (by decide) (fun a x hx => PrmV.stay (RdBy.stay HG6.out.rd hg7) a x hx))
 clear hg7 x7 y7
 have q7_3 : w7.cell? ⟨w.heap.size + 1, 3, none⟩ = some (.string ⟨#[]⟩) := (ka0 Y7.out 3).trans rfl
 have k7_3 : w7.frozen? ⟨w.heap.size + 1, 3, none⟩ = false := free_at Y7.out 3
 have q7_4 : w7.cell? ⟨w.heap.size + 1, 4, none⟩ = some (.int .i64 0) := (ka0 Y7.out 4).trans rfl
 have k7_4 : w7.frozen? ⟨w.heap.size + 1, 4, none⟩ = false := free_at Y7.out 4
 have Y7a : Hid ((w7.setCell ⟨w.heap.size + 1, 3, none⟩ (.string (str on))).heap[w.heap.size + 1]? = some (.cells #[.bool false, .string (str n), .slice A1 n1 c1, .string (str on), .int .i64 0, .slice none 0 0, .slice none 0 0, .slice none 0 0] 54 (0, 0))) := Lib.hid (by have z := ka2 (v := .string (str on)) Y7.out (k := 3) (by simp); simpa using z)
 have X7a := Lib.hid (ka7 (k := 3) (v := .string (str on)) X7.out hne)
 have HG7a := Lib.hid (HG7.out.setLocal (k := 3) (B := w.heap.size + 1) (by omega) hlt (.string (str on)))
 have F1_7a := Lib.hid (F1_7.out.stay (ka4 (P := fun t => t = 54) (k := 3) Y7.out rfl (.string (str on))) (by decide) (fun a x hx => PrmV.stay (ka4 (P := fun t => t = 54) (k := 3) Y7.out rfl (.string (str on))) a x hx))
 have Y7b : Hid (((w7.setCell ⟨w.heap.size + 1, 3, none⟩ (.string (str on))).setCell ⟨w.heap.size + 1, 4, none⟩ (.int .i64 ot)).heap[w.heap.size + 1]? = some (.cells #[.bool false, .string (str n), .slice A1 n1 c1, .string (str on), .int .i64 ot, .slice none 0 0, .slice none 0 0, .slice none 0 0] 54 (0, 0))) := Lib.hid (by have z := ka2 (v := .int .i64 ot) Y7a.out (k := 4) (by simp); simpa using z)
 have X7b := Lib.hid (ka7 (k := 4) (v := .int .i64 ot) X7a.out hne)
 have HG7b := Lib.hid (HG7a.out.setLocal (k := 4) (B := w.heap.size + 1) (by omega) hlt (.int .i64 ot))
 have F1_7b := Lib.hid (F1_7a.out.stay (ka4 (P := fun t => t = 54) (k := 4) Y7a.out rfl (.int .i64 ot)) (by decide) (fun a x hx => PrmV.stay (ka4 (P := fun t => t = 54) (k := 4) Y7a.out rfl (.int .i64 ot)) a x hx))
 go_wp2_with fail
 refine (kad (s := [41]) rfl HG7b.out.rd H7.out).mono ?_
 rintro e w8 ⟨rfl, hg8⟩
 have HG8 := Lib.hid (HG7b.out.trans hg8)
 have x8 := hg8.block X7b.out (by omega)
 have y8 := hg8.block Y7b.out (by omega)
 have X8 := Lib.hid x8
 have Y8 := Lib.hid y8
 have lx8 := lt_of_block x8
 have ly8 := lt_of_block y8
 have F1_8 := Lib.hid (F1_7b.out.stay (RdBy.stay HG7b.out.rd hg8) (by decide) (fun a x hx => PrmV.stay (RdBy.stay HG7b.out.rd hg8) a x hx))
 clear hg8 x8 y8
 clear q7_3 k7_3 q7_4 k7_4
 go_wp2_with fail
 refine (kac (s := kai) rfl HG8.out.rd H8.out).mono ?_
 rintro e w9 ⟨rfl, hg9⟩
 have HG9 := Lib.hid (HG8.out.trans hg9)
 have x9 := hg9.block X8.out (by omega)
 have y9 := hg9.block Y8.out (by omega)
 have X9 := Lib.hid x9
 have Y9 := Lib.hid y9
 have lx9 := lt_of_block x9
 have ly9 := lt_of_block y9
 have F1_9 := Lib.hid (F1_8.out.stay (RdBy.stay HG8.out.rd hg9) (by decide) (fun a x hx => PrmV.stay (RdBy.stay HG8.out.rd hg9) a x hx))
 clear hg9 x9 y9
 go_wp2_with fail
 refine (kac (s := wVar) rfl HG9.out.rd H10.out).mono ?_
 rintro e w10 ⟨rfl, hg10⟩
 have HG10 := Lib.hid (HG9.out.trans hg10)
 have x10 := hg10.block X9.out (by omega)
 have y10 := hg10.block Y9.out (by omega)
 have X10 := Lib.hid x10
 have Y10 := Lib.hid y10
 have lx10 := lt_of_block x10
 have ly10 := lt_of_block y10
 have F1_10 := Lib.hid (F1_9.out.stay (RdBy.stay HG9.out.rd hg10) (by decide) (fun a x hx => PrmV.stay (RdBy.stay HG9.out.rd hg10) a x hx))
 clear hg10 x10 y10
 go_wp2_with fail
 refine (kad (s := wLet) rfl HG10.out.rd H12.out).mono ?_
 rintro e w11 ⟨rfl, hg11⟩
 have HG11 := Lib.hid (HG10.out.trans hg11)
 have x11 := hg11.block X10.out (by omega)
 have y11 := hg11.block Y10.out (by omega)
 have X11 := Lib.hid x11
 have Y11 := Lib.hid y11
 have lx11 := lt_of_block x11
 have ly11 := lt_of_block y11
 have F1_11 := Lib.hid (F1_10.out.stay (RdBy.stay HG10.out.rd hg11) (by decide) (fun a x hx => PrmV.stay (RdBy.stay HG10.out.rd hg11) a x hx))
 clear hg11 x11 y11
 go_wp2_with fail
 refine (HC13.out _ HG11.out.rd).mono ?_
 rintro e w12 ⟨qv, rfl, hl12, hg12⟩
 have HG12 := Lib.hid (HG11.out.trans hg12)
 have x12 := hg12.block X11.out (by omega)
 have y12 := hg12.block Y11.out (by omega)
 have X12 := Lib.hid x12
 have Y12 := Lib.hid y12
 have lx12 := lt_of_block x12
 have ly12 := lt_of_block y12
 have F1_12 := Lib.hid (F1_11.out.stay (RdBy.stay HG11.out.rd hg12) (by decide) (fun a x hx => PrmV.stay (RdBy.stay HG11.out.rd hg12) a x hx))
 obtain ⟨A3, n3, c3, rfl, u3, v3⟩ := kan hl12
 have F3_12 := Lib.hid hl12
 clear hg12 x12 y12 hl12
 have q12_6 : w12.cell? ⟨w.heap.size + 1, 6, none⟩ = some (.slice none 0 0) := (ka0 Y12.out 6).trans rfl
 have k12_6 : w12.frozen? ⟨w.heap.size + 1, 6, none⟩ = false := free_at Y12.out 6
 have Y12a : Hid ((w12.setCell ⟨w.heap.size + 1, 6, none⟩ (.slice A3 n3 c3)).heap[w.heap.size + 1]? = some (.cells #[.bool false, .string (str n), .slice A1 n1 c1, .string (str on), .int .i64 ot, .slice none 0 0, .slice A3 n3 c3, .slice none 0 0] 54 (0, 0))) := Lib.hid (by have z := ka2 (v := .slice A3 n3 c3) Y12.out (k := 6) (by simp); simpa using z)
 have X12a := Lib.hid (ka7 (k := 6) (v := .slice A3 n3 c3) X12.out hne)
 have HG12a := Lib.hid (HG12.out.setLocal (k := 6) (B := w.heap.size + 1) (by omega) hlt (.slice A3 n3 c3))
 have F1_12a := Lib.hid (F1_12.out.stay (ka4 (P := fun t => t = 54) (k := 6) Y12.out rfl (.slice A3 n3 c3)) (by decide) (fun a x hx => PrmV.stay (ka4 (P := fun t => t = 54) (k := 6) Y12.out rfl (.slice A3 n3 c3)) a x hx))
 have F3_12a := Lib.hid (F3_12.out.stay (ka4 (P := fun t => t = 54) (k := 6) Y12.out rfl (.slice A3 n3 c3)) (by decide) (fun a x hx => EqnV.stay (ka4 (P := fun t => t = 54) (k := 6) Y12.out rfl (.slice A3 n3 c3)) (by decide) a x hx))
 have q12_0 : w12.cell? ⟨w.heap.size + 1, 0, none⟩ = some (.bool false) := (ka0 Y12.out 0).trans rfl
 have p0 : w12.cell? ⟨w.heap.size, 0, none⟩ = some (.bool false) := (ka0 X12.out 0).trans rfl
 have g0 : w12.frozen? ⟨w.heap.size, 0, none⟩ = false := free_at X12.out 0
 have q12_1 : w12.cell? ⟨w.heap.size + 1, 1, none⟩ = some (.string (str n)) := (ka0 Y12.out 1).trans rfl
 have p1 : w12.cell? ⟨w.heap.size, 1, none⟩ = some (.string ⟨#[]⟩) := (ka0 X12.out 1).trans rfl
 have g1 : w12.frozen? ⟨w.heap.size, 1, none⟩ = false := free_at X12.out 1
 have q12_2 : w12.cell? ⟨w.heap.size + 1, 2, none⟩ = some (.slice A1 n1 c1) := (ka0 Y12.out 2).trans rfl
 have p2 : w12.cell? ⟨w.heap.size, 2, none⟩ = some (.slice none 0 0) := (ka0 X12.out 2).trans rfl
 have g2 : w12.frozen? ⟨w.heap.size, 2, none⟩ = false := free_at X12.out 2
 have q12_3 : w12.cell? ⟨w.heap.size + 1, 3, none⟩ = some (.string (str on)) := (ka0 Y12.out 3).trans rfl
 have p3 : w12.cell? ⟨w.heap.size, 3, none⟩ = some (.string ⟨#[]⟩) := (ka0 X12.out 3).trans rfl
 have g3 : w12.frozen? ⟨w.heap.size, 3, none⟩ = false := free_at X12.out 3
 have q12_4 : w12.cell? ⟨w.heap.size + 1, 4, none⟩ = some (.int .i64 ot) := (ka0 Y12.out 4).trans rfl
 have p4 : w12.cell? ⟨w.heap.size, 4, none⟩ = some (.int .i64 0) := (ka0 X12.out 4).trans rfl
 have g4 : w12.frozen? ⟨w.heap.size, 4, none⟩ = false := free_at X12.out 4
 have q12_5 : w12.cell? ⟨w.heap.size + 1, 5, none⟩ = some (.slice none 0 0) := (ka0 Y12.out 5).trans rfl
 have p5 : w12.cell? ⟨w.heap.size, 5, none⟩ = some (.slice none 0 0) := (ka0 X12.out 5).trans rfl
 have g5 : w12.frozen? ⟨w.heap.size, 5, none⟩ = false := free_at X12.out 5
 have p6 : w12.cell? ⟨w.heap.size, 6, none⟩ = some (.slice none 0 0) := (ka0 X12.out 6).trans rfl
 have g6 : w12.frozen? ⟨w.heap.size, 6, none⟩ = false := free_at X12.out 6
 have q12_7 : w12.cell? ⟨w.heap.size + 1, 7, none⟩ = some (.slice none 0 0) := (ka0 Y12.out 7).trans rfl
 have p7 : w12.cell? ⟨w.heap.size, 7, none⟩ = some (.slice none 0 0) := (ka0 X12.out 7).trans rfl
 have g7 : w12.frozen? ⟨w.heap.size, 7, none⟩ = false := free_at X12.out 7
 go_wp2
 have Z := blk8 X12a.out (.bool false) (.string (str n)) (.slice A1 n1 c1) (.string (str on)) (.int .i64 ot) (.slice none 0 0) (.slice A3 n3 c3) (.slice none 0 0)
 have hsz : (w12.setCell ⟨w.heap.size + 1, 6, none⟩ (.slice A3 n3 c3)).heap.size <= (((((((((w12.setCell ⟨w.heap.size + 1, 6, none⟩ (.slice A3 n3 c3)).setCell ⟨w.heap.size, 0, none⟩ (.bool false)).setCell ⟨w.heap.size, 1, none⟩ (.string (str n))).setCell ⟨w.heap.size, 2, none⟩ (.slice A1 n1 c1)).setCell ⟨w.heap.size, 3, none⟩ (.string (str on))).setCell ⟨w.heap.size, 4, none⟩ (.int .i64 ot)).setCell ⟨w.heap.size, 5, none⟩ (.slice none 0 0)).setCell ⟨w.heap.size, 6, none⟩ (.slice A3 n3 c3)).setCell ⟨w.heap.size, 7, none⟩ (.slice none 0 0)).heap.size := by simp [World.setCell]
 have hst : Stay (fun t => t = 54) (w12.setCell ⟨w.heap.size + 1, 6, none⟩ (.slice A3 n3 c3)) (((((((((w12.setCell ⟨w.heap.size + 1, 6, none⟩ (.slice A3 n3 c3)).setCell ⟨w.heap.size, 0, none⟩ (.bool false)).setCell ⟨w.heap.size, 1, none⟩ (.string (str n))).setCell ⟨w.heap.size, 2, none⟩ (.slice A1 n1 c1)).setCell ⟨w.heap.size, 3, none⟩ (.string (str on))).setCell ⟨w.heap.size, 4, none⟩ (.int .i64 ot)).setCell ⟨w.heap.size, 5, none⟩ (.slice none 0 0)).setCell ⟨w.heap.size, 6, none⟩ (.slice A3 n3 c3)).setCell ⟨w.heap.size, 7, none⟩ (.slice none 0 0)) := kbh X12a.out rfl hsz (fun g hg => by simp only [kbO hg])
 have z0 := (ka0 Z 0).trans (show _ = some (.bool false) from rfl)
 have z1 := (ka0 Z 1).trans (show _ = some (.string (str n)) from rfl)
 have z2 := (ka0 Z 2).trans (show _ = some (.slice A1 n1 c1) from rfl)
 have z3 := (ka0 Z 3).trans (show _ = some (.string (str on)) from rfl)
 have z4 := (ka0 Z 4).trans (show _ = some (.int .i64 ot) from rfl)
 have z5 := (ka0 Z 5).trans (show _ = some (.slice none 0 0) from rfl)
 have z6 := (ka0 Z 6).trans (show _ = some (.slice A3 n3 c3) from rfl)
 have z7 := (ka0 Z 7).trans (show _ = some (.slice none 0 0) from rfl)
 clear p0 g0 p1 g1 p2 g2 p3 g3 p4 g4 p5 g5 p6 g6 p7 g7 q12_6 k12_6 q12_0 q12_1 q12_2 q12_3 q12_4 q12_5 q12_7
 exact bodyPost_ret (v := .agg #[.bool false, .string (str n), .slice A1 n1 c1, .string (str on), .int .i64 ot, .slice none 0 0, .slice A3 n3 c3, .slice none 0 0]) (by simp [results, Tryz.results43, go_sem, z0, z1, z2, z3, z4, z5, z6, z7]) rfl (UntG.of HE.out (F1_12a.out.stay hst (by decide) (fun a x hx => PrmV.stay hst a x hx)) (RowR.nil _ _ _ _) (F3_12a.out.stay hst (by decide) (fun a x hx => EqnV.stay hst (by decide) a x hx)) (RowR.nil _ _ _ _) ((((((((HG12a.out.setLocal (by omega) hlt _).setLocal (by omega) hlt _).setLocal (by omega) hlt _).setLocal (by omega) hlt _).setLocal (by omega) hlt _).setLocal (by omega) hlt _).setLocal (by omega) hlt _).setLocal (by omega) hlt _))
end Go.Proofs.YtlhcajhgbkgjbaaGreatDoor.Rp

