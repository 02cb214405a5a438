/- The method single of a reader. Conditions: the contracts of level and named at less fuel; a reader lies in memory. -/
import Derived.Test.YtgohhnbdicdenaaDoorPk19
namespace Go.Proofs.YtgohhnbdicdenaaDoor.Ex
open Go.ChangeShapes Go.WideShapes Go.ChangeAt Go.RowKit
open Go.Proofs.YtgohhnbdicdenaaDoor.Tr (str ret_bool ret_int Bytes Nd joinM roomM own_block)
set_option linter.unusedVariables false
set_option linter.unusedSimpArgs false

def NamedOk (f : Nat) : Prop := ∀ (s : Bytes) (r : Rd) (p : Pt) (r' : Rd), run f (.named s) r = some (p, r') → OkR r → r.next < r.l.length → ∀ (w : World) (b : Nat) (mv : Nat → Value), RdAt w b mv r →
  Calls Tryd.prog 107 #[.pointer (some ⟨b, 0, none⟩), .string (str s)] w (PartTo w b mv p r')
theorem take_at {b : Nat} {mv : Nat → Value} {r : Rd} {s : Bytes} {S : ByteArray} {B : Bool} {w : World} (hS : S = str s) (hB : r.isB s = B) (hr : RdAt w b mv r) (hn : r.next ≤ 1000000) :
    Calls Tryd.prog 105 #[.pointer (some ⟨b, 0, none⟩), .string S] w (BoolTo w b mv B (if B then r.adv else r)) := by
  subst hS; subst hB; exact take_any b mv r s w hr hn
theorem need_at {b : Nat} {mv : Nat → Value} {r : Rd} {s : Bytes} {S : ByteArray} {w : World} (hS : S = str s) (hr : RdAt w b mv r) (hn : r.next ≤ 1000000) :
    Calls Tryd.prog 106 #[.pointer (some ⟨b, 0, none⟩), .string S] w (fun e w' => e = .returned (.tuple #[]) ∧ RdTo w w' b mv (r.need s)) := by
  subst hS; exact need_any b mv r s w hr hn
/-- A block of the caller's stands behind whatever turns the reader alone. -/
theorem stay {w w' : World} {b B : Nat} {o : Obj} (hg : w.grownBy w' (some b)) (h : w.heap[B]? = some o) (hne : B ≠ b) : w'.heap[B]? = some o := (hg.block B (lt_of_block h) (fun e => hne (by injection e))).trans h
theorem stayA {w : World} {B : Nat} {o o' : Obj} (h : w.heap[B]? = some o) : (w.alloc o').heap[B]? = some o := (Below.heap_alloc _ _ _ (lt_of_block h)).trans h
theorem stayB {w w' : World} {B : Nat} {o : Obj} (hb : Below w.heap.size w w') (h : w.heap[B]? = some o) : w'.heap[B]? = some o := (hb.block B (lt_of_block h)).trans h
theorem joined0_at {w : World} {O n : Int} {s : Bytes} {S : ByteArray} (hS : S = str s) :
    Calls Tryd.prog 87 #[.int .i64 O, .int .i64 n, .string S, .slice none 0 0] w (JoinPost w (joined O n s [])) := by
  subst hS
  exact joined_any _ [] O n s w ⟨none, 0, rfl, by simp, by unfold maxLen; omega, fun i t h => by simp at h⟩ (by simp) (by rw [nodes_eq]; simp) (by simp) (fun _ => by simp [roomM])
theorem joined3_at {w3 : World} {a b c : Value} {p q s : Pt} (h1 : PtW w3 (a, p)) (h2 : PtW w3 (b, q)) (h3 : PtW w3 (c, s)) (k1 : p.ok) (k2 : q.ok) (k3 : s.ok) (hn : p.nodes + q.nodes + s.nodes ≤ 900000) :
    Calls Tryd.prog 87 #[.int .i64 26, .int .i64 0, .string ⟨#[]⟩, .slice (some ⟨w3.heap.size, 0, none⟩) 3 3] (w3.alloc (.cells #[a, .int .i64 (p.nodes : Int), .int .i64 (p.deep : Int), b, .int .i64 (q.nodes : Int), .int .i64 (q.deep : Int), c, .int .i64 (s.nodes : Int), .int .i64 (s.deep : Int)] 64))
      (JoinPost (w3.alloc (.cells #[a, .int .i64 (p.nodes : Int), .int .i64 (p.deep : Int), b, .int .i64 (q.nodes : Int), .int .i64 (q.deep : Int), c, .int .i64 (s.nodes : Int), .int .i64 (s.deep : Int)] 64)) (joined 26 0 [] [p, q, s])) :=
  joined_any _ [p, q, s] 26 0 [] _ (parts_block (L := [(a, p), (b, q), (c, s)]) (n := 3) (heap_alloc_new w3 _) rfl (by
    intro x hx; simp at hx
    rcases hx with rfl | rfl | rfl
    · exact (h1.below (below_new w3 _)).inn
    · exact (h2.below (below_new w3 _)).inn
    · exact (h3.below (below_new w3 _)).inn) rfl (by simp)) (by simp [k1, k2, k3]) (by rw [nodes_eq, if_neg (by decide)]; simp; omega) (by simp) (room_of 26 _ (by simp [k1, k2, k3]) (.inr (by simp)))
end Go.Proofs.YtgohhnbdicdenaaDoor.Ex

/- The method single of a reader. Conditions: the contracts of level and named at less fuel; a reader lies in memory. -/
namespace Go.Proofs.YtgohhnbdicdenaaDoor.Ex
open Go.ChangeShapes Go.WideShapes Go.ChangeAt Go.RowKit
open Go.Proofs.YtgohhnbdicdenaaDoor.Tr (str ret_bool ret_int Bytes Nd joinM roomM own_block)
set_option linter.unusedVariables false
set_option linter.unusedSimpArgs false

set_option maxRecDepth 100000 in
set_option maxHeartbeats 4000000 in
theorem single_c1 (f : Nat) (HL : ∀ g, g ≤ f → LevOk g) (HN : NamedOk f) (r : Rd) (p : Pt) (r' : Rd) (h : run (f + 1) .single r = some (p, r')) (hok : OkR r) (w : World) (b : Nat) (mv : Nat → Value) (hr : RdAt w b mv r)
    (h0 : r.isB lp = true)  : Calls Tryd.prog 85 #[.pointer (some ⟨b, 0, none⟩)] w (PartTo w b mv p r') := by
  have HLH := Lib.hid HL
  have HNH := Lib.hid HN
  have HOK := Lib.hid hok
  have HR := Lib.hid hr
  have hlt := hr.lt
  have hnx := hok.nx
  have H := Lib.hid h
  obtain ⟨t, ht⟩ : ∃ t, r.cur = t := ⟨_, rfl⟩
  have HT := Lib.hid ht
  have HC := Lib.hid (token_any b mv r (w.alloc (.cells #[.slice none 0 0, .int .i64 0, .int .i64 0] 64)) (hr.below (below_new w _)) hnx)
  obtain ⟨ok, hk⟩ : ∃ ok, decide (r.next < r.l.length) = ok := ⟨_, rfl⟩
  rw [ht, hk] at HC
  obtain ⟨K, T, P⟩ := t
  clear HL HN hok hr h ht hk
  go_enter Tryd.func85, Tryd.ntmps85
  go_wp2_with fail
  refine HC.out.mono ?_
  rintro e w1 ⟨rfl, hb1⟩
  have X2 := Lib.hid ((hb1.block w.heap.size (by simp)).trans (heap_alloc_new w _))
  have HRD := Lib.hid ((RdTo.of_below (HR.out.below (below_new w _)) hb1).below (below_new w _) hlt)
  have hs1 := hb1.size
  simp at hs1
  clear hb1
  obtain ⟨wa, hwa⟩ : ∃ wa, w1.alloc (.cells #[.int .i64 K, .string (str T), .int .i64 (P : Int)] 43) = wa := ⟨_, rfl⟩
  have Y2 : Hid (wa.heap[w.heap.size]? = some (.cells #[.slice none 0 0, .int .i64 0, .int .i64 0] 64 (0, 0))) := Lib.hid (by rw [← hwa]; exact stayA X2.out)
  have Y3 : Hid (wa.heap[w1.heap.size]? = some (.cells #[.int .i64 K, .string (str T), .int .i64 (P : Int)] 43 (0, 0))) := Lib.hid (by rw [← hwa]; exact heap_alloc_new w1 _)
  have HRA : Hid (RdTo w wa b mv r) := Lib.hid (by rw [← hwa]; exact HRD.out.then_below (below_new w1 _))
  have HWA := Lib.hid hwa
  clear hwa
  have hb3 : b < w1.heap.size := by omega
  have HRwa := HRA
  have Y2wa := Y2
  have Y3wa := Y3
  obtain ⟨⟨q, r1⟩, k1, k2⟩ : ∃ x : Pt × Rd, run f (.lev 1) r.adv = some x ∧ (x.1, x.2.need rp) = (p, r') := by
    have := H.out
    simp only [run, h0, if_true] at this
    obtain ⟨x, ha, hb⟩ := map_some this
    exact ⟨x, ha, hb⟩
  simp only [Prod.mk.injEq] at k2
  have HK1 := Lib.hid k1
  have HK2 := Lib.hid k2
  have hadv := adv_step r (isB_lt h0)
  obtain ⟨st1, ok1, mu1⟩ := run_step _ _ _ _ _ k1 (hadv.fine HOK.out.fine) (by simp [Task.pre])
  have HOKA := Lib.hid (HOK.out.step hadv)
  have HOK1 := Lib.hid ((HOK.out.step hadv).step st1)
  clear k1 k2 hadv st1 ok1 mu1
  go_wp2_with fail
  rw [HWA.out]
  refine (take_at (s := lp) (B := true) rfl (h0) (HRwa.out.rd) hnx).mono ?_
  rintro e wt0 ⟨rfl, hrd⟩
  have HRwt0 : Hid (RdTo w wt0 b mv r.adv) := Lib.hid (HRwa.out.trans hrd)
  have Y2wt0 := Lib.hid (stay hrd.grown Y2wa.out (by omega))
  have Y3wt0 := Lib.hid (stay hrd.grown Y3wa.out (by omega))
  clear hrd
  go_wp2_with fail
  refine (lev_at (i := 1) (n := 1) (HLH.out f (Nat.le_refl _)) HK1.out rfl (by omega) (by omega) HOKA.out (HRwt0.out.rd)).mono ?_
  rintro e w3 ⟨evw3, rfl, hpt, hrd⟩
  have Pw3 := Lib.hid hpt
  have HRw3 : Hid (RdTo w w3 b mv r1) := Lib.hid (HRwt0.out.trans hrd)
  have Y2w3 := Lib.hid (stay hrd.grown Y2wt0.out (by omega))
  obtain ⟨⟨Aw3, cw3, hev, u1w3, u2w3, -⟩, -⟩ := hpt
  simp only at hev u1w3
  subst hev
  unfold maxLen at u2w3
  have hsw3 := hrd.grown.size
  clear hrd
  have Z5 := Lib.hid (heap_alloc_new w3 (.cells #[.slice Aw3 q.e.length cw3, .int .i64 (q.nodes : Int), .int .i64 (q.deep : Int)] 64))
  have hlt3 : w.heap.size < w3.heap.size := lt_of_block Y2w3.out
  go_wp2_with fail
  refine (need_at (s := rp) rfl (HRw3.out.rd.below (below_new w3 _)) HOK1.out.nx).mono ?_
  rintro e w4 ⟨rfl, hrd⟩
  have HRw4 : Hid (RdTo w w4 b mv (r1.need rp)) := Lib.hid ((HRw3.out.then_below (below_new w3 _)).trans hrd)
  have Y2w4 := Lib.hid (stay hrd.grown (stayA Y2w3.out) (by omega))
  have y5 := stay hrd.grown Z5.out (by omega)
  have Pw4 := Lib.hid ((Pw3.out.below (below_new w3 (.cells #[.slice Aw3 q.e.length cw3, .int .i64 (q.nodes : Int), .int .i64 (q.deep : Int)] 64))).grown (HRw3.out.rd.below (below_new w3 _)) hrd.grown)
  have z0 : w4.cell? ⟨w3.heap.size, 0, none⟩ = some (.slice Aw3 q.e.length cw3) := (cell_at y5 0).trans rfl
  have z1 : w4.cell? ⟨w3.heap.size, 1, none⟩ = some (.int .i64 (q.nodes : Int)) := (cell_at y5 1).trans rfl
  have z2 : w4.cell? ⟨w3.heap.size, 2, none⟩ = some (.int .i64 (q.deep : Int)) := (cell_at y5 2).trans rfl
  clear hrd y5
  have g0 : w4.cell? ⟨w.heap.size, 0, none⟩ = some (.slice none 0 0) := (cell_at Y2w4.out 0).trans rfl
  have g1 : w4.cell? ⟨w.heap.size, 1, none⟩ = some (.int .i64 0) := (cell_at Y2w4.out 1).trans rfl
  have g2 : w4.cell? ⟨w.heap.size, 2, none⟩ = some (.int .i64 0) := (cell_at Y2w4.out 2).trans rfl
  have e0 : w4.frozen? ⟨w.heap.size, 0, none⟩ = false := free_at Y2w4.out 0
  have e1 : w4.frozen? ⟨w.heap.size, 1, none⟩ = false := free_at Y2w4.out 1
  have e2 : w4.frozen? ⟨w.heap.size, 2, none⟩ = false := free_at Y2w4.out 2
  go_wp2
  refine bodyPost_ret (v := .agg #[.slice Aw3 q.e.length cw3, .int .i64 ((q).nodes : Int), .int .i64 ((q).deep : Int)]) ?_ rfl (PartTo.laid HK2.out.1.symm HK2.out.2.symm HRw4.out hlt (Nat.le_refl _) Y2w4.out Pw4.out)
  obtain ⟨k0, k1, k2⟩ := trip_cells (.slice Aw3 q.e.length cw3) (.int .i64 ((q).nodes : Int)) (.int .i64 ((q).deep : Int)) Y2w4.out
  clear z0 z1 z2 g0 g1 g2 e0 e1 e2
  simp [results, Tryd.results85, go_sem, k0, k1, k2]
end Go.Proofs.YtgohhnbdicdenaaDoor.Ex

