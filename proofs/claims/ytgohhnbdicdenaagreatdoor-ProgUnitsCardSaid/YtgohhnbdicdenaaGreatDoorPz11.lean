/- The method operand of a reader. Conditions: the contracts of operand and single at less fuel; a reader lies in memory. -/
import Derived.Test.YtgohhnbdicdenaaGreatDoorPz10
import Derived.Defers
import Derived.Recover
import Derived.Deep.RegionHeld3
namespace Go.Proofs.YtgohhnbdicdenaaGreatDoor.Ex
open Go.ChangeShapes Go.WideShapes Go.ChangeAt Go.RowKit
open Go.Proofs.YtgohhnbdicdenaaGreatDoor.Tr (str ret_bool ret_int Bytes Nd joinM roomM own_block)
set_option linter.unusedVariables false
set_option linter.unusedSimpArgs false

set_option maxHeartbeats 800000 in
theorem shut_d (b B1 : Nat) (k : Nat) (w : World) (c1 : w.cell? ⟨B1, 0, none⟩ = some (.pointer (some ⟨b, 0, none⟩))) (c2 : w.cell? ⟨b, 2, none⟩ = some (.int .i64 (k : Int))) (f2 : w.frozen? ⟨b, 2, none⟩ = false) (hk1 : 1 ≤ k) (hk : k ≤ 1000) :
    CallsD Tryz.prog 155 #[.pointer (some ⟨B1, 0, none⟩)] .returning w fun e u' w' => u' = .returning ∧ (e = .returned (.tuple #[]) ∧ w' = w.setCell ⟨b, 2, none⟩ (.int .i64 ((k : Int) - 1))) := by
  go_enter_d Tryz.func155, Tryz.ntmps155
  go_wp2
  go_end0
  exact ⟨rfl, rfl⟩

def OpndOk (f : Nat) : Prop := ∀ (r : Rd) (p : Pt) (r' : Rd), run f .opnd r = some (p, r') → OkR r → ∀ (w : World) (b : Nat) (mv : Nat → Value), RdAt w b mv r →
  Calls Tryz.prog 150 #[.pointer (some ⟨b, 0, none⟩)] w (PartTo w b mv p r')
def SingleOk (f : Nat) : Prop := ∀ (r : Rd) (p : Pt) (r' : Rd), run f .single r = some (p, r') → OkR r → ∀ (w : World) (b : Nat) (mv : Nat → Value), RdAt w b mv r →
  Calls Tryz.prog 157 #[.pointer (some ⟨b, 0, none⟩)] w (PartTo w b mv p r')
theorem begun_cell {w : World} {b : Nat} {mv : Nat → Value} {r : Rd} (h : RdAt w b mv r) : w.cell? ⟨b, 2, none⟩ = some (.int .i64 (r.begun : Int)) ∧ w.frozen? ⟨b, 2, none⟩ = false := by
  obtain ⟨lv, h1, _⟩ := h.blk
  exact ⟨rd_cell h1 2, rd_free h1 2⟩
theorem RdAt.openTo {w : World} {b : Nat} {mv : Nat → Value} {r : Rd} (h : RdAt w b mv r) : RdTo w (w.setCell ⟨b, 2, none⟩ (.int .i64 ((r.begun : Int) + 1))) b mv r.open_ :=
  h.set (by decide) rfl (fun lv => by simp [rdCells, Rd.open_])
theorem RdAt.shutTo {w : World} {b : Nat} {mv : Nat → Value} {r : Rd} (h : RdAt w b mv r) (h1 : 1 ≤ r.begun) : RdTo w (w.setCell ⟨b, 2, none⟩ (.int .i64 ((r.begun : Int) - 1))) b mv r.shut :=
  h.set (by decide) rfl (fun lv => by simp [rdCells, Rd.shut]; omega)
theorem OkR.open_ {r : Rd} (h : OkR r) (hb : r.begun ≠ 200) : OkR r.open_ := ⟨h.len, h.nxt, h.good, h.text, by have := h.beg; simp [Rd.open_]; omega, h.fine⟩
theorem below_two (w : World) (o o' : Obj) : Below w.heap.size w ((w.alloc o).alloc o') := ((Below.refl _ _).alloc (Nat.le_refl _) _).alloc (by simp) _
/-- Behind the deferred call: the result lies where it lay. -/
theorem PartTo.door {w wr : World} {b : Nat} {mv : Nat → Value} {p q : Pt} {r' r1 : Rd} {gv : Value} {B : Nat} {u0 u1 u2 : Value} (hp : q = p) (hr' : r1.shut = r') (h1b : 1 ≤ r1.begun) (hrd : RdTo w wr b mv r1) (hlt : b < w.heap.size) (hB : w.heap.size ≤ B)
    (hBW : wr.heap[B]? = some (.cells #[u0, u1, u2] 167 (0, 0))) (hnd : PtW wr (gv, q)) :
    PartTo w b mv p r' (.returned (.agg #[gv, .int .i64 (q.nodes : Int), .int .i64 (q.deep : Int)])) ((((wr.setCell ⟨B, 0, none⟩ gv).setCell ⟨B, 1, none⟩ (.int .i64 (q.nodes : Int))).setCell ⟨B, 2, none⟩ (.int .i64 (q.deep : Int))).setCell ⟨b, 2, none⟩ (.int .i64 ((r1.begun : Int) - 1))) := by
  obtain ⟨ev, he, hpt, hrd3⟩ := PartTo.laid hp.symm rfl hrd hlt hB hBW hnd
  subst hp; subst hr'
  obtain ⟨lv, hbk, _⟩ := hrd3.rd.blk
  simp only [Ending.returned.injEq, Value.agg.injEq, Array.mk.injEq, List.cons.injEq, and_true] at he
  obtain ⟨rfl, _⟩ := he
  exact ⟨gv, rfl, hpt.set hbk (by decide) _, hrd3.trans (hrd3.rd.shutTo h1b)⟩
theorem door_cells {wr : World} {b B : Nat} {gv v1 v2 u : Value} {u0 u1 u2 : Value} (hBW : wr.heap[B]? = some (.cells #[u0, u1, u2] 167 (0, 0))) (hne : B ≠ b) :
    ((((wr.setCell ⟨B, 0, none⟩ gv).setCell ⟨B, 1, none⟩ v1).setCell ⟨B, 2, none⟩ v2).setCell ⟨b, 2, none⟩ u).cell? ⟨B, 0, none⟩ = some gv ∧
    ((((wr.setCell ⟨B, 0, none⟩ gv).setCell ⟨B, 1, none⟩ v1).setCell ⟨B, 2, none⟩ v2).setCell ⟨b, 2, none⟩ u).cell? ⟨B, 1, none⟩ = some v1 ∧
    ((((wr.setCell ⟨B, 0, none⟩ gv).setCell ⟨B, 1, none⟩ v1).setCell ⟨B, 2, none⟩ v2).setCell ⟨b, 2, none⟩ u).cell? ⟨B, 2, none⟩ = some v2 := by
  obtain ⟨k0, k1, k2⟩ := trip_cells gv v1 v2 hBW
  have o : ∀ j, ((((wr.setCell ⟨B, 0, none⟩ gv).setCell ⟨B, 1, none⟩ v1).setCell ⟨B, 2, none⟩ v2).setCell ⟨b, 2, none⟩ u).cell? ⟨B, j, none⟩ = (((wr.setCell ⟨B, 0, none⟩ gv).setCell ⟨B, 1, none⟩ v1).setCell ⟨B, 2, none⟩ v2).cell? ⟨B, j, none⟩ := fun j => World.cell?_of_block (a := ⟨B, j, none⟩) (Below.heap_setCell _ _ _ _ (by simpa using hne))
  exact ⟨(o 0).trans k0, (o 1).trans k1, (o 2).trans k2⟩
theorem box_kept {w2 : World} {B b : Nat} {v0 v1 v2 : Value} (h : w2.heap[B]? = some (.cells #[.pointer (some ⟨b, 0, none⟩)] 172 (0, 0))) :
    (((w2.setCell ⟨B + 1, 0, none⟩ v0).setCell ⟨B + 1, 1, none⟩ v1).setCell ⟨B + 1, 2, none⟩ v2).cell? ⟨B, 0, none⟩ = some (.pointer (some ⟨b, 0, none⟩)) := by
  refine (World.cell?_of_block (w := w2) (a := ⟨B, 0, none⟩) ?_).trans ((cell_at h 0).trans rfl)
  simp only [Below.heap_setCell _ _ _ _ (show B ≠ (⟨B + 1, 0, none⟩ : Addr).block by simp), Below.heap_setCell _ _ _ _ (show B ≠ (⟨B + 1, 1, none⟩ : Addr).block by simp), Below.heap_setCell _ _ _ _ (show B ≠ (⟨B + 1, 2, none⟩ : Addr).block by simp)]
theorem number_at {b : Nat} {mv : Nat → Value} {r : Rd} {most : Nat} {i : Int} {w : World} (hi : i = (most : Int)) (hr : RdAt w b mv r) (hn : r.next ≤ 1000000) (hg : GoodL r.l) (hl : r.cur.text.length ≤ 1000000) (hm : most ≤ 2147483647) :
    Calls Tryz.prog 158 #[.pointer (some ⟨b, 0, none⟩), .int .i64 i] w (fun e w' => e = .returned (.int .i64 (r.num most : Nat)) ∧ RdTo w w' b mv (r.numR most)) := by
  subst hi; exact number_any b mv r most w hr hn hg hl hm
theorem opnd_at {f : Nat} {r : Rd} {p : Pt} {r' : Rd} {w : World} {b : Nat} {mv : Nat → Value} (H : OpndOk f) (h : run f .opnd r = some (p, r')) (hok : OkR r) (hr : RdAt w b mv r) : Calls Tryz.prog 150 #[.pointer (some ⟨b, 0, none⟩)] w (PartTo w b mv p r') := H r p r' h hok w b mv hr
theorem joined1_at {w3 : World} {fv : Value} {q : Pt} {O n : Int} (hpt : PtW w3 (fv, q)) (hok : q.ok) (hO : O ≠ 27) (hn : q.nodes ≤ 900000) :
    Calls Tryz.prog 159 #[.int .i64 O, .int .i64 n, .string ⟨#[]⟩, .slice (some ⟨w3.heap.size, 0, none⟩) 1 1] (w3.alloc (.cells #[fv, .int .i64 (q.nodes : Int), .int .i64 (q.deep : Int)] 167)) (JoinPost (w3.alloc (.cells #[fv, .int .i64 (q.nodes : Int), .int .i64 (q.deep : Int)] 167)) (joined O n [] [q])) :=
  joined_any _ [q] O n [] _ (parts_block (L := [(fv, q)]) (n := 1) (heap_alloc_new w3 _) rfl (by intro x hx; simp at hx; subst hx; exact (hpt.below (below_new w3 _)).inn) rfl (by simp)) (by simp [hok]) (by rw [nodes_eq, if_neg hO]; simp; omega) (by simp) (room_of O _ (by simp [hok]) (.inr (by simp)))
theorem two_blocks (w : World) (o o' : Obj) : ((w.alloc o).alloc o').heap[w.heap.size]? = some o ∧ ((w.alloc o).alloc o').heap[w.heap.size + 1]? = some o' :=
  ⟨by rw [Below.heap_alloc _ _ _ (by simp)]; exact heap_alloc_new w o, new_blk (by simp)⟩
set_option maxRecDepth 100000 in
set_option maxHeartbeats 2000000 in
theorem opnd_any (f : Nat) (HO : OpndOk f) (HS : SingleOk f) : OpndOk (f + 1) := by
  intro r p r' h hok w b mv hr
  have HOH := Lib.hid HO
  have HSH := Lib.hid HS
  have HOK := Lib.hid hok
  have HR := Lib.hid hr
  have hlt := hr.lt
  have hnx := hok.nx
  have hbg := hok.beg
  have hmf : ∀ (fn : Fn) (first cap : Array Value) (w : World), (Instr.makeFunc fn first cap).run Tryz.prog w = .ok (.func fn first cap) w := fun _ _ _ _ => rfl
  have H := Lib.hid h
  have HB2 := Lib.hid (fun (w1 : World) (r1 : Rd) (h1 : RdAt w1 b mv r1) => begun_cell h1)
  obtain ⟨b2, bf2⟩ := begun_cell (hr.below (below_two w (.cells #[.pointer (some ⟨b, 0, none⟩)] 172) (.cells #[.slice none 0 0, .int .i64 0, .int .i64 0] 167)))
  have hbne : b ≠ w.heap.size := by omega
  have hbne2 : b ≠ w.heap.size + 1 := by omega
  clear HO HS hok h
  by_cases h200 : r.begun = 200
  · have HE : Hid (p = Pt.zero ∧ r' = r.fail 6) := Lib.hid (by
      have := H.out
      simp only [run, if_pos h200, Option.some.injEq, Prod.mk.injEq] at this
      exact ⟨this.1.symm, this.2.symm⟩)
    have hd : ((r.begun : Int) == 200) = true := by rw [beq_iff_eq]; omega
    have HRB := Lib.hid (hr.below (below_two w (.cells #[.pointer (some ⟨b, 0, none⟩)] 172) (.cells #[.slice none 0 0, .int .i64 0, .int .i64 0] 167)))
    clear h200 hr
    go_enter_defers Tryz.func150, Tryz.ntmps150
    go_wp2_with fail
    refine (fail_any b mv r 6 _ HRB.out hnx).mono ?_
    rintro e w1 ⟨ev, rfl, hpt, hrd⟩
    have HPT := Lib.hid hpt
    have hrd' := RdTo.below (below_two w _ _) hlt hrd
    have HRD := Lib.hid hrd'
    have y2 := (hrd.grown.block (w.heap.size + 1) (by simp) (fun e => by injection e; omega)).trans (two_blocks w _ _).2
    have Y2 := Lib.hid y2
    have g0 : w1.cell? ⟨w.heap.size + 1, 0, none⟩ = some (.slice none 0 0) := (cell_at y2 0).trans rfl
    have g1 : w1.cell? ⟨w.heap.size + 1, 1, none⟩ = some (.int .i64 0) := (cell_at y2 1).trans rfl
    have g2 : w1.cell? ⟨w.heap.size + 1, 2, none⟩ = some (.int .i64 0) := (cell_at y2 2).trans rfl
    have e0 : w1.frozen? ⟨w.heap.size + 1, 0, none⟩ = false := free_at y2 0
    have e1 : w1.frozen? ⟨w.heap.size + 1, 1, none⟩ = false := free_at y2 1
    have e2 : w1.frozen? ⟨w.heap.size + 1, 2, none⟩ = false := free_at y2 2
    obtain ⟨⟨Ae, ce, hev, y1, y3, -⟩, -⟩ := hpt
    simp only at hev y1
    subst hev
    unfold maxLen at y3
    clear y2 hrd hrd' b2 bf2
    go_wp2
    refine ⟨.agg #[.slice Ae Pt.zero.e.length ce, .int .i64 (Pt.zero.nodes : Int), .int .i64 (Pt.zero.deep : Int)], ?_, PartTo.laid HE.out.1 HE.out.2 HRD.out hlt (by omega) Y2.out HPT.out⟩
    obtain ⟨k0, k1, k2⟩ := trip_cells (.slice Ae Pt.zero.e.length ce) (.int .i64 (Pt.zero.nodes : Int)) (.int .i64 (Pt.zero.deep : Int)) Y2.out
    clear g0 g1 g2 e0 e1 e2
    simp [results, Tryz.results150, go_sem, k0, k1, k2]
  · have hd : ((r.begun : Int) == 200) = false := by rw [beq_eq_false_iff_ne]; omega
    have hb1 : r.begun + 1 ≤ 200 := by omega
    have HRW := Lib.hid (hr.openTo.then_below (below_two _ (.cells #[.pointer (some ⟨b, 0, none⟩)] 172) (.cells #[.slice none 0 0, .int .i64 0, .int .i64 0] 167)))
    have HZ : Hid ((w.setCell ⟨b, 2, none⟩ (.int .i64 ((r.begun : Int) + 1))).heap.size = w.heap.size) := Lib.hid (by simp [World.setCell])
    have HBK := Lib.hid (two_blocks (w.setCell ⟨b, 2, none⟩ (.int .i64 ((r.begun : Int) + 1))) (.cells #[.pointer (some ⟨b, 0, none⟩)] 172) (.cells #[.slice none 0 0, .int .i64 0, .int .i64 0] 167))
    rw [HZ.out] at HBK
    have HOKO := Lib.hid (HOK.out.open_ h200)
    obtain ⟨s, hs⟩ : ∃ s, r.open_.sign 9 = s := ⟨_, rfl⟩
    have HS9 := Lib.hid hs
    clear hr hs
    cases s with
    | none =>
      obtain ⟨⟨q, r1⟩, k1, k2⟩ : ∃ x : Pt × Rd, run f .single r.open_ = some x ∧ (x.1, x.2.shut) = (p, r') := by
        have := H.out
        simp only [run, if_neg h200, HS9.out] at this
        obtain ⟨x, ha, hb⟩ := map_some this
        exact ⟨x, ha, hb⟩
      simp only [Prod.mk.injEq] at k2
      have HK1 := Lib.hid k1
      have HK2 := Lib.hid k2
      obtain ⟨st1, ok1, mu1⟩ := run_step _ .single _ _ _ k1 HOKO.out.fine trivial
      have hbe : r1.begun = r.begun + 1 := st1.beg
      have HBE := Lib.hid hbe
      have hr1b : 1 ≤ r1.begun ∧ r1.begun ≤ 1000 := by omega
      clear h200 k1 k2 hbe st1 ok1 mu1
      go_enter_defers Tryz.func150, Tryz.ntmps150
      go_wp2_with fail
      refine (takeSign_s b mv r.open_ 9 none _ HS9.out HRW.out.rd hnx (by omega) (by omega)).mono ?_
      rintro e w1 ⟨rfl, hrd1⟩
      have HR1 := Lib.hid hrd1
      have hs1 := hrd1.grown.size
      simp at hs1
      have a1 := (hrd1.grown.block w.heap.size (by first | (simp [HZ.out]; done) | (simp [HZ.out]; omega)) (fun e => by injection e; omega)).trans HBK.out.1
      have a2 := (hrd1.grown.block (w.heap.size + 1) (by first | (simp [HZ.out]; done) | (simp [HZ.out]; omega)) (fun e => by injection e; omega)).trans HBK.out.2
      have A1 := Lib.hid a1
      have A2 := Lib.hid a2
      have l1 := lt_of_block a1
      have l2 := lt_of_block a2
      have p0 : w1.cell? ⟨w.heap.size, 0, none⟩ = some (.pointer (some ⟨b, 0, none⟩)) := (cell_at a1 0).trans rfl
      clear hrd1 a1 a2 b2 bf2
      go_wp2_with fail
      refine (HSH.out r.open_ q r1 HK1.out HOKO.out _ b mv (HR1.out.rd.below (below_new w1 _))).mono ?_
      rintro e w2 ⟨ev, rfl, hpt, hrd2⟩
      have HPT := Lib.hid hpt
      have hs2 := hrd2.grown.size
      simp at hs2
      have HRD := Lib.hid (((HRW.out.trans HR1.out).then_below (below_new w1 _)).trans hrd2)
      have a1 := ((hrd2.grown.block w.heap.size (by simp; omega) (fun e => by injection e; omega)).trans (Below.heap_alloc _ _ _ l1)).trans A1.out
      have a2 := ((hrd2.grown.block (w.heap.size + 1) (by simp; omega) (fun e => by injection e; omega)).trans (Below.heap_alloc _ _ _ l2)).trans A2.out
      have C1 := Lib.hid a1
      have C2 := Lib.hid a2
      have g0 : w2.cell? ⟨w.heap.size + 1, 0, none⟩ = some (.slice none 0 0) := (cell_at a2 0).trans rfl
      have g1 : w2.cell? ⟨w.heap.size + 1, 1, none⟩ = some (.int .i64 0) := (cell_at a2 1).trans rfl
      have g2 : w2.cell? ⟨w.heap.size + 1, 2, none⟩ = some (.int .i64 0) := (cell_at a2 2).trans rfl
      have e0 : w2.frozen? ⟨w.heap.size + 1, 0, none⟩ = false := free_at a2 0
      have e1 : w2.frozen? ⟨w.heap.size + 1, 1, none⟩ = false := free_at a2 1
      have e2 : w2.frozen? ⟨w.heap.size + 1, 2, none⟩ = false := free_at a2 2
      obtain ⟨⟨Ae, ce, hev, y1, y3, -⟩, -⟩ := hpt
      simp only at hev y1
      subst hev
      unfold maxLen at y3
      clear a1 a2 hrd2 p0
      go_wp2
      refine leaves_cons (f := 155) (args := #[.pointer (some ⟨w.heap.size, 0, none⟩)]) (by simp) (by simp [go_sem]) ?_
      obtain ⟨s1, s2⟩ := begun_cell (((HRD.out.setLocal (B := w.heap.size + 1) (k := 0) (by omega) hlt (.slice Ae q.e.length ce)).setLocal (B := w.heap.size + 1) (k := 1) (by omega) hlt (.int .i64 (q.nodes : Int))).setLocal (B := w.heap.size + 1) (k := 2) (by omega) hlt (.int .i64 (q.deep : Int))).rd
      refine (shut_d b w.heap.size r1.begun _ ?_ s1 s2 hr1b.1 hr1b.2).mono ?_
      · refine (World.cell?_of_block (w := w2) (a := ⟨w.heap.size, 0, none⟩) ?_).trans ((cell_at C1.out 0).trans rfl)
        simp only [Below.heap_setCell _ _ _ _ (show w.heap.size ≠ (⟨w.heap.size + 1, 0, none⟩ : Addr).block by simp), Below.heap_setCell _ _ _ _ (show w.heap.size ≠ (⟨w.heap.size + 1, 1, none⟩ : Addr).block by simp), Below.heap_setCell _ _ _ _ (show w.heap.size ≠ (⟨w.heap.size + 1, 2, none⟩ : Addr).block by simp)]
      rintro e u' w'' ⟨rfl, rfl, rfl⟩
      refine ⟨.agg #[.slice Ae q.e.length ce, .int .i64 (q.nodes : Int), .int .i64 (q.deep : Int)], ?_, PartTo.door HK2.out.1 HK2.out.2 hr1b.1 HRD.out hlt (by omega) C2.out HPT.out⟩
      obtain ⟨k0, k1, k2⟩ := door_cells (gv := .slice Ae q.e.length ce) (v1 := .int .i64 (q.nodes : Int)) (v2 := .int .i64 (q.deep : Int)) (u := .int .i64 ((r1.begun : Int) - 1)) C2.out (show w.heap.size + 1 ≠ b by omega)
      clear g0 g1 g2 e0 e1 e2 s1 s2
      simp [results, Tryz.results150, go_sem, k0, k1, k2]
    | some s =>
      obtain ⟨O, U⟩ := s
      obtain ⟨⟨q, r1⟩, k1, k2⟩ : ∃ x : Pt × Rd, run f .opnd (if O = 25 then r.open_.adv.numR 1000 else r.open_.adv) = some x ∧ (joined O (if O = 25 then (r.open_.adv.num 1000 : Nat) else 0) [] [x.1], x.2.shut) = (p, r') := by
        have := H.out
        simp only [run, if_neg h200, HS9.out] at this
        obtain ⟨x, ha, hb⟩ := map_some this
        exact ⟨x, ha, hb⟩
      simp only [Prod.mk.injEq] at k2
      have hso := sign_ops HS9.out
      have hadv := adv_step r.open_ (sign_lt HS9.out)
      have HOKA := Lib.hid (HOKO.out.step hadv)
      have hnx2 := HOKA.out.nx
      clear h200 hadv
      have HPRE : Hid (∀ w1, RdTo (((w.setCell ⟨b, 2, none⟩ (.int .i64 ((r.begun : Int) + 1))).alloc (.cells #[.pointer (some ⟨b, 0, none⟩)] 172)).alloc (.cells #[.slice none 0 0, .int .i64 0, .int .i64 0] 167)) w1 b mv r.open_.adv →
          w1.heap[w.heap.size]? = some (.cells #[.pointer (some ⟨b, 0, none⟩)] 172 (0, 0)) ∧ w1.heap[w.heap.size + 1]? = some (.cells #[.slice none 0 0, .int .i64 0, .int .i64 0] 167 (0, 0)) ∧ w.heap.size + 1 < w1.heap.size ∧ RdTo w w1 b mv r.open_.adv) := Lib.hid (fun w1 h1 =>
        have a2 := (h1.grown.block (w.heap.size + 1) (by first | (simp [HZ.out]; done) | (simp [HZ.out]; omega)) (fun e => by injection e; omega)).trans HBK.out.2
        ⟨(h1.grown.block w.heap.size (by first | (simp [HZ.out]; done) | (simp [HZ.out]; omega)) (fun e => by injection e; omega)).trans HBK.out.1, a2, lt_of_block a2, HRW.out.trans h1⟩)
      by_cases h25 : O = 25
      · skip
        have hd25 : (O == 25) = true := by rw [beq_iff_eq]; exact h25
        rw [if_pos h25] at k1
        rw [if_pos h25] at k2
        have HK1 := Lib.hid k1
        have HK2 := Lib.hid k2
        have HOKV := Lib.hid (HOKA.out.step (numR_step 1000 _ HOKA.out.fine))
        obtain ⟨st1, ok1, mu1⟩ := run_step _ .opnd _ _ _ k1 HOKV.out.fine trivial
        have HOK1 := Lib.hid (HOKV.out.step st1)
        have HO1 := Lib.hid ok1
        have hbe : r1.begun = r.begun + 1 := st1.beg.trans (numR_step 1000 _ HOKA.out.fine).beg
        have HBE := Lib.hid hbe
        have hr1b : 1 ≤ r1.begun ∧ r1.begun ≤ 1000 := by omega
        have hqn : q.nodes ≤ 100001 := by have := HOK1.out.mu; simp only [Task.base] at mu1; omega
        clear k1 k2 hbe st1 ok1 mu1 h25
        go_enter_defers Tryz.func150, Tryz.ntmps150
        go_wp2_with fail
        refine (takeSign_s b mv r.open_ 9 (some (O, U)) _ HS9.out HRW.out.rd hnx (by omega) (by omega)).mono ?_
        rintro e w1 ⟨rfl, hrd1⟩
        obtain ⟨a1, a2, l2, hrw1⟩ := HPRE.out w1 hrd1
        have A1 := Lib.hid a1
        have A2 := Lib.hid a2
        have HRW1 := Lib.hid hrw1
        have l1 : w.heap.size < w1.heap.size := by omega
        have p0 : w1.cell? ⟨w.heap.size, 0, none⟩ = some (.pointer (some ⟨b, 0, none⟩)) := (cell_at a1 0).trans rfl
        clear hrd1 a1 a2 hrw1 b2 bf2
        go_wp2_with fail
        refine (number_at (i := 1000) (most := 1000) rfl (HRW1.out.rd.below (below_new w1 _)) hnx2 HOKA.out.good HOKA.out.cur (by decide)).mono ?_
        rintro e wv ⟨rfl, hrdv⟩
        have hsv := hrdv.grown.size
        simp at hsv
        have HRV := Lib.hid ((HRW1.out.then_below (below_new w1 _)).trans hrdv)
        have X1 := Lib.hid (((hrdv.grown.block w.heap.size (by simp; omega) (fun e => by injection e; omega)).trans (Below.heap_alloc _ _ _ (by omega))).trans A1.out)
        have X2 := Lib.hid (((hrdv.grown.block (w.heap.size + 1) (by simp; omega) (fun e => by injection e; omega)).trans (Below.heap_alloc _ _ _ (by omega))).trans A2.out)
        have X3 := Lib.hid ((hrdv.grown.block w1.heap.size (by simp) (fun e => by injection e; omega)).trans (heap_alloc_new w1 _))
        have q0 : wv.cell? ⟨w.heap.size, 0, none⟩ = some (.pointer (some ⟨b, 0, none⟩)) := (cell_at X1.out 0).trans rfl
        have q3 : wv.cell? ⟨w1.heap.size, 0, none⟩ = some (.int .i64 O) := (cell_at X3.out 0).trans rfl
        clear hrdv p0
        go_wp2_with fail
        have z1 := lt_of_block X1.out
        have z2 := lt_of_block X2.out
        have z3 := lt_of_block X3.out
        refine wp_region_noPanic ?_
        go_region_with ((first | (go_at_call 150; (with_reducible refine (opnd_at HOH.out HK1.out HOKV.out (by first | exact HRV.out.rd | exact HRV.out.rd.drew)).mono ?_); rintro e w3 ⟨fv, rfl, hpt3, hrd3⟩; have HPT3 := Lib.hid hpt3; obtain ⟨⟨Af, cf, hfv, u1, u2, -⟩, -⟩ := hpt3; simp only at hfv u1; subst hfv; unfold maxLen at u2; have HG3 := Lib.hid (grown_undrew hrd3.grown); have hs3 := HG3.out.size; have HR3 := Lib.hid hrd3.rd; have T3 := Lib.hid ((HG3.out.block w1.heap.size z3 (fun e => by injection e; omega)).trans X3.out); have t30 : w3.cell? ⟨w1.heap.size, 0, none⟩ = some (.int .i64 O) := (cell_at T3.out 0).trans rfl; have z3w : w1.heap.size < w3.heap.size := by omega) | (go_at_call 159; (with_reducible refine (joined1_at HPT3.out HO1.out (by omega) (by omega)).mono ?_); rintro e w4 ⟨gv, rfl, hpt4, hb4⟩; have HPT4 := Lib.hid hpt4; obtain ⟨⟨Ag, cg, hgv, v1, v2, -⟩, -⟩ := hpt4; simp only at hgv v1; subst hgv; unfold maxLen at v2; have hbw := (below_new w3 _).trans (hb4.mono (by simp)); have HB4 := Lib.hid hbw; have Y1 := Lib.hid (((hbw.block w.heap.size (by omega)).trans (HG3.out.block w.heap.size z1 (fun e => by injection e; omega))).trans X1.out); have Y2 := Lib.hid (((hbw.block (w.heap.size + 1) (by omega)).trans (HG3.out.block (w.heap.size + 1) z2 (fun e => by injection e; omega))).trans X2.out); have s30 : w4.cell? ⟨w1.heap.size, 0, none⟩ = some (.int .i64 O) := (cell_at ((hbw.block w1.heap.size z3w).trans T3.out) 0).trans rfl; have g0 : w4.cell? ⟨w.heap.size + 1, 0, none⟩ = some (.slice none 0 0) := (cell_at Y2.out 0).trans rfl; have g1 : w4.cell? ⟨w.heap.size + 1, 1, none⟩ = some (.int .i64 0) := (cell_at Y2.out 1).trans rfl; have g2 : w4.cell? ⟨w.heap.size + 1, 2, none⟩ = some (.int .i64 0) := (cell_at Y2.out 2).trans rfl; have e0 : w4.frozen? ⟨w.heap.size + 1, 0, none⟩ = false := free_at Y2.out 0; have e1 : w4.frozen? ⟨w.heap.size + 1, 1, none⟩ = false := free_at Y2.out 1; have e2 : w4.frozen? ⟨w.heap.size + 1, 2, none⟩ = false := free_at Y2.out 2; clear hb4 hbw)))
        all_goals refine NoPanic.normal ?_
        all_goals go_wp2_with fail
        all_goals
          have HRD := Lib.hid ((HRV.out.trans ⟨HR3.out, HG3.out⟩).then_below HB4.out)
          refine leaves_cons (f := 155) (args := #[.pointer (some ⟨w.heap.size, 0, none⟩)]) (by simp) (by simp [go_sem]) ?_
          obtain ⟨s1, s2⟩ := begun_cell (((HRD.out.setLocal (B := w.heap.size + 1) (k := 0) (by omega) hlt (.slice Ag (joined O (r.open_.adv.num 1000 : Nat) [] [q]).e.length cg)).setLocal (B := w.heap.size + 1) (k := 1) (by omega) hlt (.int .i64 ((joined O (r.open_.adv.num 1000 : Nat) [] [q]).nodes : Int))).setLocal (B := w.heap.size + 1) (k := 2) (by omega) hlt (.int .i64 ((joined O (r.open_.adv.num 1000 : Nat) [] [q]).deep : Int))).rd
          refine (shut_d b w.heap.size r1.begun _ (box_kept Y1.out) s1 s2 hr1b.1 hr1b.2).mono ?_
          rintro e u' w'' ⟨rfl, rfl, rfl⟩
          refine ⟨.agg #[.slice Ag (joined O (r.open_.adv.num 1000 : Nat) [] [q]).e.length cg, .int .i64 ((joined O (r.open_.adv.num 1000 : Nat) [] [q]).nodes : Int), .int .i64 ((joined O (r.open_.adv.num 1000 : Nat) [] [q]).deep : Int)], ?_, PartTo.door HK2.out.1 HK2.out.2 hr1b.1 HRD.out hlt (by omega) Y2.out HPT4.out⟩
          obtain ⟨k0, k1, k2⟩ := door_cells (gv := .slice Ag (joined O (r.open_.adv.num 1000 : Nat) [] [q]).e.length cg) (v1 := .int .i64 ((joined O (r.open_.adv.num 1000 : Nat) [] [q]).nodes : Int)) (v2 := .int .i64 ((joined O (r.open_.adv.num 1000 : Nat) [] [q]).deep : Int)) (u := .int .i64 ((r1.begun : Int) - 1)) Y2.out (show w.heap.size + 1 ≠ b by omega)
          clear g0 g1 g2 e0 e1 e2 s1 s2
          simp [results, Tryz.results150, go_sem, k0, k1, k2]
      · skip
        have hd25 : (O == 25) = false := by rw [beq_eq_false_iff_ne]; exact h25
        rw [if_neg h25] at k1
        rw [if_neg h25] at k2
        have HK1 := Lib.hid k1
        have HK2 := Lib.hid k2
        have HOKV := Lib.hid (HOKA.out)
        obtain ⟨st1, ok1, mu1⟩ := run_step _ .opnd _ _ _ k1 HOKV.out.fine trivial
        have HOK1 := Lib.hid (HOKV.out.step st1)
        have HO1 := Lib.hid ok1
        have hbe : r1.begun = r.begun + 1 := st1.beg
        have HBE := Lib.hid hbe
        have hr1b : 1 ≤ r1.begun ∧ r1.begun ≤ 1000 := by omega
        have hqn : q.nodes ≤ 100001 := by have := HOK1.out.mu; simp only [Task.base] at mu1; omega
        clear k1 k2 hbe st1 ok1 mu1 h25
        go_enter_defers Tryz.func150, Tryz.ntmps150
        go_wp2_with fail
        refine (takeSign_s b mv r.open_ 9 (some (O, U)) _ HS9.out HRW.out.rd hnx (by omega) (by omega)).mono ?_
        rintro e w1 ⟨rfl, hrd1⟩
        obtain ⟨a1, a2, l2, hrw1⟩ := HPRE.out w1 hrd1
        have A1 := Lib.hid a1
        have A2 := Lib.hid a2
        have HRW1 := Lib.hid hrw1
        have l1 : w.heap.size < w1.heap.size := by omega
        have p0 : w1.cell? ⟨w.heap.size, 0, none⟩ = some (.pointer (some ⟨b, 0, none⟩)) := (cell_at a1 0).trans rfl
        clear hrd1 a1 a2 hrw1 b2 bf2
        go_upto_region 11 with fail
        obtain ⟨wv, hwv⟩ : ∃ wv, w1.alloc (.cells #[.int .i64 O, .bool U] 171) = wv := ⟨_, rfl⟩
        have HRV : Hid (RdTo w wv b mv r.open_.adv) := Lib.hid (by rw [← hwv]; exact HRW1.out.then_below (below_new w1 _))
        have X1 : Hid (wv.heap[w.heap.size]? = some (.cells #[.pointer (some ⟨b, 0, none⟩)] 172 (0, 0))) := Lib.hid (by rw [← hwv, Below.heap_alloc _ _ _ (by omega)]; exact A1.out)
        have X2 : Hid (wv.heap[w.heap.size + 1]? = some (.cells #[.slice none 0 0, .int .i64 0, .int .i64 0] 167 (0, 0))) := Lib.hid (by rw [← hwv, Below.heap_alloc _ _ _ (by omega)]; exact A2.out)
        have X3 : Hid (wv.heap[w1.heap.size]? = some (.cells #[.int .i64 O, .bool U] 171 (0, 0))) := Lib.hid (by rw [← hwv]; exact heap_alloc_new w1 _)
        have hsv : w1.heap.size + 1 ≤ wv.heap.size := by rw [← hwv]; simp
        have q0 : wv.cell? ⟨w.heap.size, 0, none⟩ = some (.pointer (some ⟨b, 0, none⟩)) := (cell_at X1.out 0).trans rfl
        have q3 : wv.cell? ⟨w1.heap.size, 0, none⟩ = some (.int .i64 O) := (cell_at X3.out 0).trans rfl
        rw [hwv]
        clear hwv p0
        have z1 := lt_of_block X1.out
        have z2 := lt_of_block X2.out
        have z3 := lt_of_block X3.out
        refine wp_region_noPanic ?_
        go_region_with ((first | (go_at_call 150; (with_reducible refine (opnd_at HOH.out HK1.out HOKV.out (by first | exact HRV.out.rd | exact HRV.out.rd.drew)).mono ?_); rintro e w3 ⟨fv, rfl, hpt3, hrd3⟩; have HPT3 := Lib.hid hpt3; obtain ⟨⟨Af, cf, hfv, u1, u2, -⟩, -⟩ := hpt3; simp only at hfv u1; subst hfv; unfold maxLen at u2; have HG3 := Lib.hid (grown_undrew hrd3.grown); have hs3 := HG3.out.size; have HR3 := Lib.hid hrd3.rd; have T3 := Lib.hid ((HG3.out.block w1.heap.size z3 (fun e => by injection e; omega)).trans X3.out); have t30 : w3.cell? ⟨w1.heap.size, 0, none⟩ = some (.int .i64 O) := (cell_at T3.out 0).trans rfl; have z3w : w1.heap.size < w3.heap.size := by omega) | (go_at_call 159; (with_reducible refine (joined1_at HPT3.out HO1.out (by omega) (by omega)).mono ?_); rintro e w4 ⟨gv, rfl, hpt4, hb4⟩; have HPT4 := Lib.hid hpt4; obtain ⟨⟨Ag, cg, hgv, v1, v2, -⟩, -⟩ := hpt4; simp only at hgv v1; subst hgv; unfold maxLen at v2; have hbw := (below_new w3 _).trans (hb4.mono (by simp)); have HB4 := Lib.hid hbw; have Y1 := Lib.hid (((hbw.block w.heap.size (by omega)).trans (HG3.out.block w.heap.size z1 (fun e => by injection e; omega))).trans X1.out); have Y2 := Lib.hid (((hbw.block (w.heap.size + 1) (by omega)).trans (HG3.out.block (w.heap.size + 1) z2 (fun e => by injection e; omega))).trans X2.out); have s30 : w4.cell? ⟨w1.heap.size, 0, none⟩ = some (.int .i64 O) := (cell_at ((hbw.block w1.heap.size z3w).trans T3.out) 0).trans rfl; have g0 : w4.cell? ⟨w.heap.size + 1, 0, none⟩ = some (.slice none 0 0) := (cell_at Y2.out 0).trans rfl; have g1 : w4.cell? ⟨w.heap.size + 1, 1, none⟩ = some (.int .i64 0) := (cell_at Y2.out 1).trans rfl; have g2 : w4.cell? ⟨w.heap.size + 1, 2, none⟩ = some (.int .i64 0) := (cell_at Y2.out 2).trans rfl; have e0 : w4.frozen? ⟨w.heap.size + 1, 0, none⟩ = false := free_at Y2.out 0; have e1 : w4.frozen? ⟨w.heap.size + 1, 1, none⟩ = false := free_at Y2.out 1; have e2 : w4.frozen? ⟨w.heap.size + 1, 2, none⟩ = false := free_at Y2.out 2; clear hb4 hbw)))
        all_goals refine NoPanic.normal ?_
        all_goals go_wp2_with fail
        all_goals
          have HRD := Lib.hid ((HRV.out.trans ⟨HR3.out, HG3.out⟩).then_below HB4.out)
          refine leaves_cons (f := 155) (args := #[.pointer (some ⟨w.heap.size, 0, none⟩)]) (by simp) (by simp [go_sem]) ?_
          obtain ⟨s1, s2⟩ := begun_cell (((HRD.out.setLocal (B := w.heap.size + 1) (k := 0) (by omega) hlt (.slice Ag (joined O 0 [] [q]).e.length cg)).setLocal (B := w.heap.size + 1) (k := 1) (by omega) hlt (.int .i64 ((joined O 0 [] [q]).nodes : Int))).setLocal (B := w.heap.size + 1) (k := 2) (by omega) hlt (.int .i64 ((joined O 0 [] [q]).deep : Int))).rd
          refine (shut_d b w.heap.size r1.begun _ (box_kept Y1.out) s1 s2 hr1b.1 hr1b.2).mono ?_
          rintro e u' w'' ⟨rfl, rfl, rfl⟩
          refine ⟨.agg #[.slice Ag (joined O 0 [] [q]).e.length cg, .int .i64 ((joined O 0 [] [q]).nodes : Int), .int .i64 ((joined O 0 [] [q]).deep : Int)], ?_, PartTo.door HK2.out.1 HK2.out.2 hr1b.1 HRD.out hlt (by omega) Y2.out HPT4.out⟩
          obtain ⟨k0, k1, k2⟩ := door_cells (gv := .slice Ag (joined O 0 [] [q]).e.length cg) (v1 := .int .i64 ((joined O 0 [] [q]).nodes : Int)) (v2 := .int .i64 ((joined O 0 [] [q]).deep : Int)) (u := .int .i64 ((r1.begun : Int) - 1)) Y2.out (show w.heap.size + 1 ≠ b by omega)
          clear g0 g1 g2 e0 e1 e2 s1 s2
          simp [results, Tryz.results150, go_sem, k0, k1, k2]
end Go.Proofs.YtgohhnbdicdenaaGreatDoor.Ex

/- The method single of a reader. Conditions: the contracts of level and named at less fuel; a reader lies in memory. -/
namespace Go.Proofs.YtgohhnbdicdenaaGreatDoor.Ex
open Go.ChangeShapes Go.WideShapes Go.ChangeAt Go.RowKit
open Go.Proofs.YtgohhnbdicdenaaGreatDoor.Tr (str ret_bool ret_int Bytes Nd joinM roomM own_block)
set_option linter.unusedVariables false
set_option linter.unusedSimpArgs false

def NamedOk (f : Nat) : Prop := ∀ (s : Bytes) (r : Rd) (p : Pt) (r' : Rd), run f (.named s) r = some (p, r') → OkR r → r.next < r.l.length → ∀ (w : World) (b : Nat) (mv : Nat → Value), RdAt w b mv r →
  Calls Tryz.prog 166 #[.pointer (some ⟨b, 0, none⟩), .string (str s)] w (PartTo w b mv p r')
theorem take_at {b : Nat} {mv : Nat → Value} {r : Rd} {s : Bytes} {S : ByteArray} {B : Bool} {w : World} (hS : S = str s) (hB : r.isB s = B) (hr : RdAt w b mv r) (hn : r.next ≤ 1000000) :
    Calls Tryz.prog 164 #[.pointer (some ⟨b, 0, none⟩), .string S] w (BoolTo w b mv B (if B then r.adv else r)) := by
  subst hS; subst hB; exact take_any b mv r s w hr hn
theorem need_at {b : Nat} {mv : Nat → Value} {r : Rd} {s : Bytes} {S : ByteArray} {w : World} (hS : S = str s) (hr : RdAt w b mv r) (hn : r.next ≤ 1000000) :
    Calls Tryz.prog 165 #[.pointer (some ⟨b, 0, none⟩), .string S] w (fun e w' => e = .returned (.tuple #[]) ∧ RdTo w w' b mv (r.need s)) := by
  subst hS; exact need_any b mv r s w hr hn
/-- A block of the caller's stands behind whatever turns the reader alone. -/
theorem stay {w w' : World} {b B : Nat} {o : Obj} (hg : w.grownBy w' (some b)) (h : w.heap[B]? = some o) (hne : B ≠ b) : w'.heap[B]? = some o := (hg.block B (lt_of_block h) (fun e => hne (by injection e))).trans h
theorem stayA {w : World} {B : Nat} {o o' : Obj} (h : w.heap[B]? = some o) : (w.alloc o').heap[B]? = some o := (Below.heap_alloc _ _ _ (lt_of_block h)).trans h
theorem stayB {w w' : World} {B : Nat} {o : Obj} (hb : Below w.heap.size w w') (h : w.heap[B]? = some o) : w'.heap[B]? = some o := (hb.block B (lt_of_block h)).trans h
theorem joined0_at {w : World} {O n : Int} {s : Bytes} {S : ByteArray} (hS : S = str s) :
    Calls Tryz.prog 159 #[.int .i64 O, .int .i64 n, .string S, .slice none 0 0] w (JoinPost w (joined O n s [])) := by
  subst hS
  exact joined_any _ [] O n s w ⟨none, 0, rfl, by simp, by unfold maxLen; omega, fun i t h => by simp at h⟩ (by simp) (by rw [nodes_eq]; simp) (by simp) (fun _ => by simp [roomM])
theorem joined3_at {w3 : World} {a b c : Value} {p q s : Pt} (h1 : PtW w3 (a, p)) (h2 : PtW w3 (b, q)) (h3 : PtW w3 (c, s)) (k1 : p.ok) (k2 : q.ok) (k3 : s.ok) (hn : p.nodes + q.nodes + s.nodes ≤ 900000) :
    Calls Tryz.prog 159 #[.int .i64 26, .int .i64 0, .string ⟨#[]⟩, .slice (some ⟨w3.heap.size, 0, none⟩) 3 3] (w3.alloc (.cells #[a, .int .i64 (p.nodes : Int), .int .i64 (p.deep : Int), b, .int .i64 (q.nodes : Int), .int .i64 (q.deep : Int), c, .int .i64 (s.nodes : Int), .int .i64 (s.deep : Int)] 167))
      (JoinPost (w3.alloc (.cells #[a, .int .i64 (p.nodes : Int), .int .i64 (p.deep : Int), b, .int .i64 (q.nodes : Int), .int .i64 (q.deep : Int), c, .int .i64 (s.nodes : Int), .int .i64 (s.deep : Int)] 167)) (joined 26 0 [] [p, q, s])) :=
  joined_any _ [p, q, s] 26 0 [] _ (parts_block (L := [(a, p), (b, q), (c, s)]) (n := 3) (heap_alloc_new w3 _) rfl (by
    intro x hx; simp at hx
    rcases hx with rfl | rfl | rfl
    · exact (h1.below (below_new w3 _)).inn
    · exact (h2.below (below_new w3 _)).inn
    · exact (h3.below (below_new w3 _)).inn) rfl (by simp)) (by simp [k1, k2, k3]) (by rw [nodes_eq, if_neg (by decide)]; simp; omega) (by simp) (room_of 26 _ (by simp [k1, k2, k3]) (.inr (by simp)))
end Go.Proofs.YtgohhnbdicdenaaGreatDoor.Ex

/- The method single of a reader. Conditions: the contracts of level and named at less fuel; a reader lies in memory. -/
namespace Go.Proofs.YtgohhnbdicdenaaGreatDoor.Ex
open Go.ChangeShapes Go.WideShapes Go.ChangeAt Go.RowKit
open Go.Proofs.YtgohhnbdicdenaaGreatDoor.Tr (str ret_bool ret_int Bytes Nd joinM roomM own_block)
set_option linter.unusedVariables false
set_option linter.unusedSimpArgs false

set_option maxRecDepth 100000 in
set_option maxHeartbeats 4000000 in
theorem single_c1 (f : Nat) (HL : ∀ g, g ≤ f → LevOk g) (HN : NamedOk f) (r : Rd) (p : Pt) (r' : Rd) (h : run (f + 1) .single r = some (p, r')) (hok : OkR r) (w : World) (b : Nat) (mv : Nat → Value) (hr : RdAt w b mv r)
    (h0 : r.isB lp = true)  : Calls Tryz.prog 157 #[.pointer (some ⟨b, 0, none⟩)] w (PartTo w b mv p r') := by
  have HLH := Lib.hid HL
  have HNH := Lib.hid HN
  have HOK := Lib.hid hok
  have HR := Lib.hid hr
  have hlt := hr.lt
  have hnx := hok.nx
  have H := Lib.hid h
  obtain ⟨t, ht⟩ : ∃ t, r.cur = t := ⟨_, rfl⟩
  have HT := Lib.hid ht
  have HC := Lib.hid (token_any b mv r (w.alloc (.cells #[.slice none 0 0, .int .i64 0, .int .i64 0] 167)) (hr.below (below_new w _)) hnx)
  obtain ⟨ok, hk⟩ : ∃ ok, decide (r.next < r.l.length) = ok := ⟨_, rfl⟩
  rw [ht, hk] at HC
  obtain ⟨K, T, P⟩ := t
  clear HL HN hok hr h ht hk
  go_enter Tryz.func157, Tryz.ntmps157
  go_wp2_with fail
  refine HC.out.mono ?_
  rintro e w1 ⟨rfl, hb1⟩
  have X2 := Lib.hid ((hb1.block w.heap.size (by simp)).trans (heap_alloc_new w _))
  have HRD := Lib.hid ((RdTo.of_below (HR.out.below (below_new w _)) hb1).below (below_new w _) hlt)
  have hs1 := hb1.size
  simp at hs1
  clear hb1
  obtain ⟨wa, hwa⟩ : ∃ wa, w1.alloc (.cells #[.int .i64 K, .string (str T), .int .i64 (P : Int)] 54) = wa := ⟨_, rfl⟩
  have Y2 : Hid (wa.heap[w.heap.size]? = some (.cells #[.slice none 0 0, .int .i64 0, .int .i64 0] 167 (0, 0))) := Lib.hid (by rw [← hwa]; exact stayA X2.out)
  have Y3 : Hid (wa.heap[w1.heap.size]? = some (.cells #[.int .i64 K, .string (str T), .int .i64 (P : Int)] 54 (0, 0))) := Lib.hid (by rw [← hwa]; exact heap_alloc_new w1 _)
  have HRA : Hid (RdTo w wa b mv r) := Lib.hid (by rw [← hwa]; exact HRD.out.then_below (below_new w1 _))
  have HWA := Lib.hid hwa
  clear hwa
  have hb3 : b < w1.heap.size := by omega
  have HRwa := HRA
  have Y2wa := Y2
  have Y3wa := Y3
  obtain ⟨⟨q, r1⟩, k1, k2⟩ : ∃ x : Pt × Rd, run f (.lev 1) r.adv = some x ∧ (x.1, x.2.need rp) = (p, r') := by
    have := H.out
    simp only [run, h0, if_true] at this
    obtain ⟨x, ha, hb⟩ := map_some this
    exact ⟨x, ha, hb⟩
  simp only [Prod.mk.injEq] at k2
  have HK1 := Lib.hid k1
  have HK2 := Lib.hid k2
  have hadv := adv_step r (isB_lt h0)
  obtain ⟨st1, ok1, mu1⟩ := run_step _ _ _ _ _ k1 (hadv.fine HOK.out.fine) (by simp [Task.pre])
  have HOKA := Lib.hid (HOK.out.step hadv)
  have HOK1 := Lib.hid ((HOK.out.step hadv).step st1)
  clear k1 k2 hadv st1 ok1 mu1
  go_wp2_with fail
  rw [HWA.out]
  refine (take_at (s := lp) (B := true) rfl (h0) (HRwa.out.rd) hnx).mono ?_
  rintro e wt0 ⟨rfl, hrd⟩
  have HRwt0 : Hid (RdTo w wt0 b mv r.adv) := Lib.hid (HRwa.out.trans hrd)
  have Y2wt0 := Lib.hid (stay hrd.grown Y2wa.out (by omega))
  have Y3wt0 := Lib.hid (stay hrd.grown Y3wa.out (by omega))
  clear hrd
  go_wp2_with fail
  refine (lev_at (i := 1) (n := 1) (HLH.out f (Nat.le_refl _)) HK1.out rfl (by omega) (by omega) HOKA.out (HRwt0.out.rd)).mono ?_
  rintro e w3 ⟨evw3, rfl, hpt, hrd⟩
  have Pw3 := Lib.hid hpt
  have HRw3 : Hid (RdTo w w3 b mv r1) := Lib.hid (HRwt0.out.trans hrd)
  have Y2w3 := Lib.hid (stay hrd.grown Y2wt0.out (by omega))
  obtain ⟨⟨Aw3, cw3, hev, u1w3, u2w3, -⟩, -⟩ := hpt
  simp only at hev u1w3
  subst hev
  unfold maxLen at u2w3
  have hsw3 := hrd.grown.size
  clear hrd
  have Z5 := Lib.hid (heap_alloc_new w3 (.cells #[.slice Aw3 q.e.length cw3, .int .i64 (q.nodes : Int), .int .i64 (q.deep : Int)] 167))
  have hlt3 : w.heap.size < w3.heap.size := lt_of_block Y2w3.out
  go_wp2_with fail
  refine (need_at (s := rp) rfl (HRw3.out.rd.below (below_new w3 _)) HOK1.out.nx).mono ?_
  rintro e w4 ⟨rfl, hrd⟩
  have HRw4 : Hid (RdTo w w4 b mv (r1.need rp)) := Lib.hid ((HRw3.out.then_below (below_new w3 _)).trans hrd)
  have Y2w4 := Lib.hid (stay hrd.grown (stayA Y2w3.out) (by omega))
  have y5 := stay hrd.grown Z5.out (by omega)
  have Pw4 := Lib.hid ((Pw3.out.below (below_new w3 (.cells #[.slice Aw3 q.e.length cw3, .int .i64 (q.nodes : Int), .int .i64 (q.deep : Int)] 167))).grown (HRw3.out.rd.below (below_new w3 _)) hrd.grown)
  have z0 : w4.cell? ⟨w3.heap.size, 0, none⟩ = some (.slice Aw3 q.e.length cw3) := (cell_at y5 0).trans rfl
  have z1 : w4.cell? ⟨w3.heap.size, 1, none⟩ = some (.int .i64 (q.nodes : Int)) := (cell_at y5 1).trans rfl
  have z2 : w4.cell? ⟨w3.heap.size, 2, none⟩ = some (.int .i64 (q.deep : Int)) := (cell_at y5 2).trans rfl
  clear hrd y5
  have g0 : w4.cell? ⟨w.heap.size, 0, none⟩ = some (.slice none 0 0) := (cell_at Y2w4.out 0).trans rfl
  have g1 : w4.cell? ⟨w.heap.size, 1, none⟩ = some (.int .i64 0) := (cell_at Y2w4.out 1).trans rfl
  have g2 : w4.cell? ⟨w.heap.size, 2, none⟩ = some (.int .i64 0) := (cell_at Y2w4.out 2).trans rfl
  have e0 : w4.frozen? ⟨w.heap.size, 0, none⟩ = false := free_at Y2w4.out 0
  have e1 : w4.frozen? ⟨w.heap.size, 1, none⟩ = false := free_at Y2w4.out 1
  have e2 : w4.frozen? ⟨w.heap.size, 2, none⟩ = false := free_at Y2w4.out 2
  go_wp2
  refine bodyPost_ret (v := .agg #[.slice Aw3 q.e.length cw3, .int .i64 ((q).nodes : Int), .int .i64 ((q).deep : Int)]) ?_ rfl (PartTo.laid HK2.out.1.symm HK2.out.2.symm HRw4.out hlt (Nat.le_refl _) Y2w4.out Pw4.out)
  obtain ⟨k0, k1, k2⟩ := trip_cells (.slice Aw3 q.e.length cw3) (.int .i64 ((q).nodes : Int)) (.int .i64 ((q).deep : Int)) Y2w4.out
  clear z0 z1 z2 g0 g1 g2 e0 e1 e2
  simp [results, Tryz.results157, go_sem, k0, k1, k2]
end Go.Proofs.YtgohhnbdicdenaaGreatDoor.Ex

