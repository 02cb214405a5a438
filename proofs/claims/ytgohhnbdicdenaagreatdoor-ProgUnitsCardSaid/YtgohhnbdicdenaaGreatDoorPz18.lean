/- Contracts of layer prog's reader: a unit. Conditions: a reader lies in memory. -/
import Derived.Test.YtgohhnbdicdenaaGreatDoorPz09
import Derived.Test.YtgohhnbdicdenaaGreatDoorPz16
import Derived.Test.YtgohhnbdicdenaaGreatDoorPz17
import Derived.Test.YtgohhnbdicdenaaGreatDoorPz08
import Derived.Test.YtgohhnbdicdenaaGreatDoorPz06
import Derived.BigQuiet
import Derived.Test.YtgohhnbdicdenaaGreatDoorPz01
import Derived.Test.YtgohhnbdicdenaaGreatDoorPz14
import Derived.Test.YtgohhnbdicdenaaGreatDoorPz15
namespace Go.Proofs.YtgohhnbdicdenaaGreatDoor.Pg
open Go.ChangeShapes Go.WideShapes Go.ChangeAt Go.RowKit
open Go.Proofs.YtgohhnbdicdenaaGreatDoor.Ex
open Go.Proofs.YtgohhnbdicdenaaGreatDoor.Tr (str ret_bool ret_int Bytes Nd)
set_option linter.unusedVariables false
set_option linter.unusedSimpArgs false

set_option maxRecDepth 100000 in
set_option maxHeartbeats 8000000 in
theorem unit_true (b : Nat) (r : Rd) (w : World) (hr : GrAt w b r) (u : Unt) (r1 r2 r3 : Rd) (X : Unt × Rd) (h1 : takeP wContract r = (true, r1)) (h3 : contractP r1 = (u, r3)) (he : (u, r3) = X) : Calls Tryz.prog 72 #[.pointer (some ⟨b, 0, none⟩)] w (UntG w b X) := by
  have HR := Lib.hid hr
  have hlt := hr.lt
  have hmf : ∀ (fn : Fn) (first cap : Array Value) (w : World), (Instr.makeFunc fn first cap).run Tryz.prog w = .ok (.func fn first cap) w := fun _ _ _ _ => rfl
  have HE := Lib.hid he
  have H1 := Lib.hid h1
  have HC3 : Hid (∀ w', GrAt w' b r1 → Calls Tryz.prog 94 #[.pointer (some ⟨b, 0, none⟩)] w' (UntG w' b (u, r3))) := Lib.hid (fun w' h => by rw [← h3]; exact contract_any b r1 w' h)
  clear h1 h3 he hr
  have hX0 := Lib.hid (heap_alloc_new w (.cells #[.bool false, .string ⟨#[]⟩, .slice none 0 0, .string ⟨#[]⟩, .int .i64 0, .slice none 0 0, .slice none 0 0, .slice none 0 0] 50))
  go_enter Tryz.func72, Tryz.ntmps72
  go_wp2_with fail
  refine (take_lit (s := wContract) rfl (HR.out.below (below_new w _)) (by decide) H1.out).mono ?_
  rintro e w1 ⟨rfl, hg1⟩
  have HG1 := Lib.hid (GrTo.below (below_new w _) hlt hg1)
  have x1 := hg1.block hX0.out (by omega)
  have hs1 := hg1.grown.size
  simp at hs1
  have X1 := Lib.hid x1
  clear hg1 x1
  go_wp2_with fail
  refine (HC3.out _ HG1.out.rd).mono ?_
  rintro e w3 ⟨iv, vv, qv, lv, rfl, ha, hb, hc, hd, hg3⟩
  obtain ⟨A1, n1, c1, rfl, u1, u2⟩ := row_form ha
  obtain ⟨A2, n2, c2, rfl, u3, u4⟩ := row_form hb
  obtain ⟨A3, n3, c3, rfl, u5, u6⟩ := row_form hc
  obtain ⟨A4, n4, c4, rfl, u7, u8⟩ := row_form hd
  have HG3 := Lib.hid (HG1.out.trans hg3)
  have x3 := hg3.block X1.out (by omega)
  have X3 := Lib.hid x3
  have lx3 := lt_of_block x3
  have HA := Lib.hid ha
  have HB := Lib.hid hb
  have HC := Lib.hid hc
  have HD := Lib.hid hd
  have p0 : w3.cell? ⟨w.heap.size, 0, none⟩ = some (.bool false) := (cell_at x3 0).trans rfl
  have g0 : w3.frozen? ⟨w.heap.size, 0, none⟩ = false := free_at x3 0
  have p1 : w3.cell? ⟨w.heap.size, 1, none⟩ = some (.string ⟨#[]⟩) := (cell_at x3 1).trans rfl
  have g1 : w3.frozen? ⟨w.heap.size, 1, none⟩ = false := free_at x3 1
  have p2 : w3.cell? ⟨w.heap.size, 2, none⟩ = some (.slice none 0 0) := (cell_at x3 2).trans rfl
  have g2 : w3.frozen? ⟨w.heap.size, 2, none⟩ = false := free_at x3 2
  have p3 : w3.cell? ⟨w.heap.size, 3, none⟩ = some (.string ⟨#[]⟩) := (cell_at x3 3).trans rfl
  have g3 : w3.frozen? ⟨w.heap.size, 3, none⟩ = false := free_at x3 3
  have p4 : w3.cell? ⟨w.heap.size, 4, none⟩ = some (.int .i64 0) := (cell_at x3 4).trans rfl
  have g4 : w3.frozen? ⟨w.heap.size, 4, none⟩ = false := free_at x3 4
  have p5 : w3.cell? ⟨w.heap.size, 5, none⟩ = some (.slice none 0 0) := (cell_at x3 5).trans rfl
  have g5 : w3.frozen? ⟨w.heap.size, 5, none⟩ = false := free_at x3 5
  have p6 : w3.cell? ⟨w.heap.size, 6, none⟩ = some (.slice none 0 0) := (cell_at x3 6).trans rfl
  have g6 : w3.frozen? ⟨w.heap.size, 6, none⟩ = false := free_at x3 6
  have p7 : w3.cell? ⟨w.heap.size, 7, none⟩ = some (.slice none 0 0) := (cell_at x3 7).trans rfl
  have g7 : w3.frozen? ⟨w.heap.size, 7, none⟩ = false := free_at x3 7
  clear ha hb hc hd hg3 x3
  go_wp2
  have Z := blk8 X3.out (.bool u.contract) (.string (str u.name)) (.slice A1 n1 c1) (.string (str u.out.name)) (.int .i64 u.out.ty) (.slice A2 n2 c2) (.slice A3 n3 c3) (.slice A4 n4 c4)
  have hsz : w3.heap.size ≤ ((((((((w3.setCell ⟨w.heap.size, 0, none⟩ (.bool u.contract)).setCell ⟨w.heap.size, 1, none⟩ (.string (str u.name))).setCell ⟨w.heap.size, 2, none⟩ (.slice A1 n1 c1)).setCell ⟨w.heap.size, 3, none⟩ (.string (str u.out.name))).setCell ⟨w.heap.size, 4, none⟩ (.int .i64 u.out.ty)).setCell ⟨w.heap.size, 5, none⟩ (.slice A2 n2 c2)).setCell ⟨w.heap.size, 6, none⟩ (.slice A3 n3 c3)).setCell ⟨w.heap.size, 7, none⟩ (.slice A4 n4 c4)).heap.size := by simp [World.setCell]
  have hst : Stay (fun t => t = 50) w3 ((((((((w3.setCell ⟨w.heap.size, 0, none⟩ (.bool u.contract)).setCell ⟨w.heap.size, 1, none⟩ (.string (str u.name))).setCell ⟨w.heap.size, 2, none⟩ (.slice A1 n1 c1)).setCell ⟨w.heap.size, 3, none⟩ (.string (str u.out.name))).setCell ⟨w.heap.size, 4, none⟩ (.int .i64 u.out.ty)).setCell ⟨w.heap.size, 5, none⟩ (.slice A2 n2 c2)).setCell ⟨w.heap.size, 6, none⟩ (.slice A3 n3 c3)).setCell ⟨w.heap.size, 7, none⟩ (.slice A4 n4 c4)) := Stay.sets X3.out rfl hsz (fun g hg => by simp only [set_ne hg])
  have z0 := (cell_at Z 0).trans (show _ = some (.bool u.contract) from rfl)
  have z1 := (cell_at Z 1).trans (show _ = some (.string (str u.name)) from rfl)
  have z2 := (cell_at Z 2).trans (show _ = some (.slice A1 n1 c1) from rfl)
  have z3 := (cell_at Z 3).trans (show _ = some (.string (str u.out.name)) from rfl)
  have z4 := (cell_at Z 4).trans (show _ = some (.int .i64 u.out.ty) from rfl)
  have z5 := (cell_at Z 5).trans (show _ = some (.slice A2 n2 c2) from rfl)
  have z6 := (cell_at Z 6).trans (show _ = some (.slice A3 n3 c3) from rfl)
  have z7 := (cell_at Z 7).trans (show _ = some (.slice A4 n4 c4) from rfl)
  clear p0 g0 p1 g1 p2 g2 p3 g3 p4 g4 p5 g5 p6 g6 p7 g7
  have HF := HE.out
  subst HF
  exact bodyPost_ret (v := .agg #[.bool u.contract, .string (str u.name), .slice A1 n1 c1, .string (str u.out.name), .int .i64 u.out.ty, .slice A2 n2 c2, .slice A3 n3 c3, .slice A4 n4 c4]) (by simp [results, Tryz.results72, go_sem, z0, z1, z2, z3, z4, z5, z6, z7]) rfl ⟨_, _, _, _, rfl, (HA.out.stay hst (by decide) (fun a x hx => PrmV.stay hst a x hx)), (HB.out.stay hst (by decide) (fun a x hx => PrmV.stay hst a x hx)), (HC.out.stay hst (by decide) (fun a x hx => EqnV.stay hst (by decide) a x hx)), (HD.out.stay hst (by decide) (fun a x hx => ItmV.stay hst (by decide) (by decide) a x hx)), ((((((((HG3.out.setLocal (by omega) hlt _).setLocal (by omega) hlt _).setLocal (by omega) hlt _).setLocal (by omega) hlt _).setLocal (by omega) hlt _).setLocal (by omega) hlt _).setLocal (by omega) hlt _).setLocal (by omega) hlt _)⟩
set_option maxRecDepth 100000 in
set_option maxHeartbeats 8000000 in
theorem unit_false (b : Nat) (r : Rd) (w : World) (hr : GrAt w b r) (u : Unt) (r1 r2 r3 : Rd) (X : Unt × Rd) (h1 : takeP wContract r = (false, r1)) (h2 : (needP wNode r1).2 = r2) (h3 : nodeP r2 = (u, r3)) (he : (u, r3) = X) : Calls Tryz.prog 72 #[.pointer (some ⟨b, 0, none⟩)] w (UntG w b X) := by
  have HR := Lib.hid hr
  have hlt := hr.lt
  have hmf : ∀ (fn : Fn) (first cap : Array Value) (w : World), (Instr.makeFunc fn first cap).run Tryz.prog w = .ok (.func fn first cap) w := fun _ _ _ _ => rfl
  have HE := Lib.hid he
  have H1 := Lib.hid h1
  have H2 := Lib.hid h2
  have HC3 : Hid (∀ w', GrAt w' b r2 → Calls Tryz.prog 95 #[.pointer (some ⟨b, 0, none⟩)] w' (UntG w' b (u, r3))) := Lib.hid (fun w' h => by rw [← h3]; exact node_any b r2 w' h)
  clear h1 h2 h3 he hr
  have hX0 := Lib.hid (heap_alloc_new w (.cells #[.bool false, .string ⟨#[]⟩, .slice none 0 0, .string ⟨#[]⟩, .int .i64 0, .slice none 0 0, .slice none 0 0, .slice none 0 0] 50))
  go_enter Tryz.func72, Tryz.ntmps72
  go_wp2_with fail
  refine (take_lit (s := wContract) rfl (HR.out.below (below_new w _)) (by decide) H1.out).mono ?_
  rintro e w1 ⟨rfl, hg1⟩
  have HG1 := Lib.hid (GrTo.below (below_new w _) hlt hg1)
  have x1 := hg1.block hX0.out (by omega)
  have hs1 := hg1.grown.size
  simp at hs1
  have X1 := Lib.hid x1
  clear hg1 x1
  go_wp2_with fail
  refine (need_lit (s := wNode) rfl HG1.out.rd (by decide) H2.out).mono ?_
  rintro e w2 ⟨rfl, hg2⟩
  have HG2 := Lib.hid (HG1.out.trans hg2)
  have X2 := Lib.hid (hg2.block X1.out (by omega))
  clear hg2
  go_wp2_with fail
  refine (HC3.out _ HG2.out.rd).mono ?_
  rintro e w3 ⟨iv, vv, qv, lv, rfl, ha, hb, hc, hd, hg3⟩
  obtain ⟨A1, n1, c1, rfl, u1, u2⟩ := row_form ha
  obtain ⟨A2, n2, c2, rfl, u3, u4⟩ := row_form hb
  obtain ⟨A3, n3, c3, rfl, u5, u6⟩ := row_form hc
  obtain ⟨A4, n4, c4, rfl, u7, u8⟩ := row_form hd
  have HG3 := Lib.hid (HG2.out.trans hg3)
  have x3 := hg3.block X2.out (by omega)
  have X3 := Lib.hid x3
  have lx3 := lt_of_block x3
  have HA := Lib.hid ha
  have HB := Lib.hid hb
  have HC := Lib.hid hc
  have HD := Lib.hid hd
  have p0 : w3.cell? ⟨w.heap.size, 0, none⟩ = some (.bool false) := (cell_at x3 0).trans rfl
  have g0 : w3.frozen? ⟨w.heap.size, 0, none⟩ = false := free_at x3 0
  have p1 : w3.cell? ⟨w.heap.size, 1, none⟩ = some (.string ⟨#[]⟩) := (cell_at x3 1).trans rfl
  have g1 : w3.frozen? ⟨w.heap.size, 1, none⟩ = false := free_at x3 1
  have p2 : w3.cell? ⟨w.heap.size, 2, none⟩ = some (.slice none 0 0) := (cell_at x3 2).trans rfl
  have g2 : w3.frozen? ⟨w.heap.size, 2, none⟩ = false := free_at x3 2
  have p3 : w3.cell? ⟨w.heap.size, 3, none⟩ = some (.string ⟨#[]⟩) := (cell_at x3 3).trans rfl
  have g3 : w3.frozen? ⟨w.heap.size, 3, none⟩ = false := free_at x3 3
  have p4 : w3.cell? ⟨w.heap.size, 4, none⟩ = some (.int .i64 0) := (cell_at x3 4).trans rfl
  have g4 : w3.frozen? ⟨w.heap.size, 4, none⟩ = false := free_at x3 4
  have p5 : w3.cell? ⟨w.heap.size, 5, none⟩ = some (.slice none 0 0) := (cell_at x3 5).trans rfl
  have g5 : w3.frozen? ⟨w.heap.size, 5, none⟩ = false := free_at x3 5
  have p6 : w3.cell? ⟨w.heap.size, 6, none⟩ = some (.slice none 0 0) := (cell_at x3 6).trans rfl
  have g6 : w3.frozen? ⟨w.heap.size, 6, none⟩ = false := free_at x3 6
  have p7 : w3.cell? ⟨w.heap.size, 7, none⟩ = some (.slice none 0 0) := (cell_at x3 7).trans rfl
  have g7 : w3.frozen? ⟨w.heap.size, 7, none⟩ = false := free_at x3 7
  clear ha hb hc hd hg3 x3
  go_wp2
  have Z := blk8 X3.out (.bool u.contract) (.string (str u.name)) (.slice A1 n1 c1) (.string (str u.out.name)) (.int .i64 u.out.ty) (.slice A2 n2 c2) (.slice A3 n3 c3) (.slice A4 n4 c4)
  have hsz : w3.heap.size ≤ ((((((((w3.setCell ⟨w.heap.size, 0, none⟩ (.bool u.contract)).setCell ⟨w.heap.size, 1, none⟩ (.string (str u.name))).setCell ⟨w.heap.size, 2, none⟩ (.slice A1 n1 c1)).setCell ⟨w.heap.size, 3, none⟩ (.string (str u.out.name))).setCell ⟨w.heap.size, 4, none⟩ (.int .i64 u.out.ty)).setCell ⟨w.heap.size, 5, none⟩ (.slice A2 n2 c2)).setCell ⟨w.heap.size, 6, none⟩ (.slice A3 n3 c3)).setCell ⟨w.heap.size, 7, none⟩ (.slice A4 n4 c4)).heap.size := by simp [World.setCell]
  have hst : Stay (fun t => t = 50) w3 ((((((((w3.setCell ⟨w.heap.size, 0, none⟩ (.bool u.contract)).setCell ⟨w.heap.size, 1, none⟩ (.string (str u.name))).setCell ⟨w.heap.size, 2, none⟩ (.slice A1 n1 c1)).setCell ⟨w.heap.size, 3, none⟩ (.string (str u.out.name))).setCell ⟨w.heap.size, 4, none⟩ (.int .i64 u.out.ty)).setCell ⟨w.heap.size, 5, none⟩ (.slice A2 n2 c2)).setCell ⟨w.heap.size, 6, none⟩ (.slice A3 n3 c3)).setCell ⟨w.heap.size, 7, none⟩ (.slice A4 n4 c4)) := Stay.sets X3.out rfl hsz (fun g hg => by simp only [set_ne hg])
  have z0 := (cell_at Z 0).trans (show _ = some (.bool u.contract) from rfl)
  have z1 := (cell_at Z 1).trans (show _ = some (.string (str u.name)) from rfl)
  have z2 := (cell_at Z 2).trans (show _ = some (.slice A1 n1 c1) from rfl)
  have z3 := (cell_at Z 3).trans (show _ = some (.string (str u.out.name)) from rfl)
  have z4 := (cell_at Z 4).trans (show _ = some (.int .i64 u.out.ty) from rfl)
  have z5 := (cell_at Z 5).trans (show _ = some (.slice A2 n2 c2) from rfl)
  have z6 := (cell_at Z 6).trans (show _ = some (.slice A3 n3 c3) from rfl)
  have z7 := (cell_at Z 7).trans (show _ = some (.slice A4 n4 c4) from rfl)
  clear p0 g0 p1 g1 p2 g2 p3 g3 p4 g4 p5 g5 p6 g6 p7 g7
  have HF := HE.out
  subst HF
  exact bodyPost_ret (v := .agg #[.bool u.contract, .string (str u.name), .slice A1 n1 c1, .string (str u.out.name), .int .i64 u.out.ty, .slice A2 n2 c2, .slice A3 n3 c3, .slice A4 n4 c4]) (by simp [results, Tryz.results72, go_sem, z0, z1, z2, z3, z4, z5, z6, z7]) rfl ⟨_, _, _, _, rfl, (HA.out.stay hst (by decide) (fun a x hx => PrmV.stay hst a x hx)), (HB.out.stay hst (by decide) (fun a x hx => PrmV.stay hst a x hx)), (HC.out.stay hst (by decide) (fun a x hx => EqnV.stay hst (by decide) a x hx)), (HD.out.stay hst (by decide) (fun a x hx => ItmV.stay hst (by decide) (by decide) a x hx)), ((((((((HG3.out.setLocal (by omega) hlt _).setLocal (by omega) hlt _).setLocal (by omega) hlt _).setLocal (by omega) hlt _).setLocal (by omega) hlt _).setLocal (by omega) hlt _).setLocal (by omega) hlt _).setLocal (by omega) hlt _)⟩
theorem unit_any (b : Nat) (r : Rd) (w : World) (hr : GrAt w b r) : Calls Tryz.prog 72 #[.pointer (some ⟨b, 0, none⟩)] w (UntG w b (unitP r)) := by
  obtain ⟨⟨B, r1⟩, h1⟩ : ∃ x, takeP wContract r = x := ⟨_, rfl⟩
  cases B with
  | true =>
    obtain ⟨⟨u, r3⟩, h3⟩ : ∃ x, contractP r1 = x := ⟨_, rfl⟩
    have e : unitP r = contractP r1 := by
      unfold unitP; rw [pb h1]; simp only [if_true]
    exact unit_true b r w hr u r1 r1 r3 _ h1 h3 (by rw [e]; exact h3.symm)
  | false =>
    obtain ⟨r2, h2⟩ : ∃ x, (needP wNode r1).2 = x := ⟨_, rfl⟩
    obtain ⟨⟨u, r3⟩, h3⟩ : ∃ x, nodeP r2 = x := ⟨_, rfl⟩
    have e : unitP r = nodeP r2 := by
      unfold unitP; rw [pb h1]; simp only [Bool.false_eq_true, if_false]; rw [pu h2]
    exact unit_false b r w hr u r1 r2 r3 _ h1 h2 h3 (by rw [e]; exact h3.symm)
end Go.Proofs.YtgohhnbdicdenaaGreatDoor.Pg

/- Contracts of layer prog's reader: a row of units. Conditions: a reader lies in memory. -/
namespace Go.Proofs.YtgohhnbdicdenaaGreatDoor.Pg
open Go.ChangeShapes Go.WideShapes Go.ChangeAt Go.RowKit
open Go.Proofs.YtgohhnbdicdenaaGreatDoor.Ex
open Go.Proofs.YtgohhnbdicdenaaGreatDoor.Tr (str ret_bool ret_int Bytes Nd)
set_option linter.unusedVariables false
set_option linter.unusedSimpArgs false

theorem info50_70 : (Tryz.prog.info? 50).map (fun i => (i.zero, i.size, i.bytes)) = some (some (.agg #[.bool false, .string ⟨#[]⟩, .slice none 0 0, .string ⟨#[]⟩, .int .i64 0, .slice none 0 0, .slice none 0 0, .slice none 0 0]), 8, 144) := by kernel_rfl
set_option maxRecDepth 100000 in
set_option maxHeartbeats 4000000 in
theorem rowU_any (b : Nat) (r : Rd) (w : World) (hr : GrAt w b r) :
    Calls Tryz.prog 70 #[.pointer (some ⟨b, 0, none⟩), .func (.func 71) #[.pointer (some ⟨b, 0, none⟩)] #[], .func (.func 72) #[.pointer (some ⟨b, 0, none⟩)] #[]] w (RowG 50 8 UntV w b (rowP atUnitB unitP r)) := by
  have HR := Lib.hid hr
  have hlt := hr.lt
  obtain ⟨i0, hi, hz0, hz1, hz2⟩ := info_parts info50_70
  obtain ⟨X, hX⟩ : ∃ X, rowP atUnitB unitP r = X := ⟨_, rfl⟩
  have HX : Hid (rowF atUnitB unitP rowMax [] r = X) := Lib.hid hX
  rw [hX]
  clear hX hr
  go_enter Tryz.func70, Tryz.ntmps70
  go_wp2
  go_loopg [7] rowMax (fun g s7 wr => ∃ (rr : Rd) (ov : Value) (acc : List (Unt)) (xs : List (List Value)), ov = s7 ∧ acc.length ≤ 200 ∧ 202 ≤ acc.length + g ∧ OList 50 8 UntV wr w.heap.size ov acc xs ∧ GrTo w wr b rr ∧ rowF atUnitB unitP g acc rr = X)
  case atStart => exact ⟨r, _, [], [], rfl, by simp, by simp [rowMax], OList.nil _ _, GrTo.refl HR.out, HX.out⟩
  case round =>
    obtain ⟨rr, ov, acc, xs, hov, ha, hag, hol, hgr, hrow⟩ := hrel
    subst hov
    have HOL := Lib.hid hol
    have HGR := Lib.hid hgr
    have HROW := Lib.hid hrow
    obtain ⟨A0, c0, hv0, hn1, hn2⟩ := own_form hol.own
    subst hv0
    clear hol hgr hrow
    cases gk with
    | zero => omega
    | succ gk =>
    have HB := Lib.hid (atUnit_any b rr wr HGR.out.rd)
    obtain ⟨B, hB⟩ : ∃ B, atUnitB rr = B := ⟨_, rfl⟩
    rw [hB] at HB
    have HBE := Lib.hid hB
    clear hB
    cases B with
    | false =>
      have HE : Hid ((acc, rr) = X) := Lib.hid ((rowF_stop HBE.out).symm.trans HROW.out)
      go_wp2_with fail
      refine HB.out.mono ?_
      rintro e w1 ⟨rfl, hb1⟩
      have HB1 := Lib.hid hb1
      have HOL1 := Lib.hid (HOL.out.stay (Stay.below (P := fun t => t = 74) hb1) (by decide) (fun a x hx => UntV.stay (Stay.below (P := fun t => t = 74) HB1.out) ⟨by decide, by decide, by decide, by decide, by decide⟩ a x hx))
      clear hb1
      go_wp2
      go_ret
      exact RowG.of HE.out HOL1.out.row (HGR.out.then_below HB1.out)
    | true =>
    by_cases h200 : acc.length = 200
    · have HE : Hid (([], rr.fail 7) = X) := Lib.hid ((rowF_many HBE.out h200).symm.trans HROW.out)
      have hd : ((acc.length : Int) == 200) = true := by rw [beq_iff_eq]; omega
      clear h200
      go_wp2_with fail
      refine HB.out.mono ?_
      rintro e w1 ⟨rfl, hb1⟩
      have HB1 := Lib.hid hb1
      clear hb1
      go_wp2_with fail
      refine (fail_any b rr 7 _ (HGR.out.rd.below HB1.out)).mono ?_
      rintro e w2 ⟨rfl, hg2⟩
      have HG2 := Lib.hid hg2
      clear hg2
      go_wp2
      go_ret
      exact RowG.of HE.out (RowR.nil _ _ _ _) ((HGR.out.then_below HB1.out).trans HG2.out)
    have hd : ((acc.length : Int) == 200) = false := by rw [beq_eq_false_iff_ne]; omega
    obtain ⟨⟨a, r2⟩, hone⟩ : ∃ x, unitP rr = x := ⟨_, rfl⟩
    have HE : Hid (rowF atUnitB unitP gk (acc ++ [a]) r2 = X) := Lib.hid ((rowF_step HBE.out h200 hone).symm.trans HROW.out)
    have HO : Hid (∀ w', GrAt w' b rr → Calls Tryz.prog 72 #[.pointer (some ⟨b, 0, none⟩)] w' (UntG w' b (a, r2))) := Lib.hid (fun w' h => by rw [← hone]; exact unit_any b rr w' h)
    have ha2 : acc.length < 200 := by omega
    clear h200 hone
    go_wp2_with fail
    refine HB.out.mono ?_
    rintro e w1 ⟨rfl, hb1⟩
    have HB1 := Lib.hid hb1
    clear hb1
    go_wp2_with fail
    refine (HO.out w1 (HGR.out.rd.below HB1.out)).mono ?_
    rintro e w2 ⟨iv, vv, qv, lv, rfl, hp, hq, hr9, ht9, hg2⟩
    have HG2 := Lib.hid hg2
    have hs2 := hg2.grown.size
    have hs1 := HB1.out.size
    have hs0 := HGR.out.grown.size
    have HOL2 := Lib.hid ((HOL.out.stay (Stay.below (P := fun t => t = 74) HB1.out) (by decide) (fun a x hx => UntV.stay (Stay.below (P := fun t => t = 74) HB1.out) ⟨by decide, by decide, by decide, by decide, by decide⟩ a x hx)).stay (GrTo.stay (HGR.out.rd.below HB1.out) hg2) (by decide) (fun a x hx => UntV.stay (GrTo.stay (HGR.out.rd.below HB1.out) HG2.out) ⟨by decide, by decide, by decide, by decide, by decide⟩ a x hx))
    clear hg2
    obtain ⟨A2, n2, c2, rfl, y1, y2⟩ := row_form hp
    obtain ⟨A4, n4, c4, rfl, y11, y12⟩ := row_form hq
    obtain ⟨A5, n5, c5, rfl, y13, y14⟩ := row_form hr9
    obtain ⟨A6, n6, c6, rfl, y15, y16⟩ := row_form ht9
    have HXV : Hid (UntV w2 a [.bool a.contract, .string (str a.name), .slice A2 n2 c2, .string (str a.out.name), .int .i64 a.out.ty, .slice A4 n4 c4, .slice A5 n5 c5, .slice A6 n6 c6]) := Lib.hid ⟨_, _, _, _, rfl, hp, hq, hr9, ht9⟩
    clear hp hq hr9 ht9
    go_wp2_with (at_builtin; refine wpList_append_own _ rfl (.tmp 15) (.tmp 18) 36 rfl w.heap.size 50 i0 _ 8 144 Tryz.underlying36 hi hz0 hz1 hz2 rfl (by decide) _ acc.length xs.flatten rfl (HOL2.out.own.alloc _) ⟨w2.heap.size, 0, none⟩ 1 1 [.bool a.contract, .string (str a.name), .slice A2 n2 c2, .string (str a.out.name), .int .i64 a.out.ty, .slice A4 n4 c4, .slice A5 n5 c5, .slice A6 n6 c6] rfl rfl ?a1 ?b1 ?c1 ?d1 ?e1 ?_)
    case a1 => first | exact (fun j u h => h) | exact news_new _ #[.bool a.contract, .string (str a.name), .slice A2 n2 c2, .string (str a.out.name), .int .i64 a.out.ty, .slice A4 n4 c4, .slice A5 n5 c5, .slice A6 n6 c6] _ [.bool a.contract, .string (str a.name), .slice A2 n2 c2, .string (str a.out.name), .int .i64 a.out.ty, .slice A4 n4 c4, .slice A5 n5 c5, .slice A6 n6 c6] rfl rfl
    case b1 => simp [Value.oneCell']
    case c1 => unfold maxLen; omega
    case d1 => omega
    case e1 => simp; omega
    intro v3 w3 hown3 hg3 _
    have HOL3 := Lib.hid (HOL2.out.snoc HXV.out rfl (below_new w2 _) hown3 hg3 (fun st => UntV.stay st ⟨by decide, by decide, by decide, by decide, by decide⟩))
    have HGR3 := Lib.hid (GrTo.row ((HGR.out.then_below HB1.out).trans HG2.out) hlt (below_new w2 _) hg3 (fun g hg => (HOL2.out.own.lt g hg).1))
    obtain ⟨A3, c3, hv3, y3, y4⟩ := own_form hown3
    subst hv3
    clear hown3 hg3
    go_wp2
    go_roundg gk
    case measure => omega
    case rel => exact ⟨r2, _, acc ++ [a], xs ++ [[.bool a.contract, .string (str a.name), .slice A2 n2 c2, .string (str a.out.name), .int .i64 a.out.ty, .slice A4 n4 c4, .slice A5 n5 c5, .slice A6 n6 c6]], rfl, by simp; omega, by simp; omega, HOL3.out, HGR3.out, HE.out⟩
end Go.Proofs.YtgohhnbdicdenaaGreatDoor.Pg

/- The document's comparisons of layer prog, of what is the same: streams, rows of expressions. Conditions: slices are read as lists. -/
namespace Go.Proofs.YtgohhnbdicdenaaGreatDoor.Pg
open Go.ChangeShapes Go.WideShapes Go.ChangeAt Go.RowKit
open Go.Proofs.YtgohhnbdicdenaaGreatDoor.Ex
open Go.Proofs.YtgohhnbdicdenaaGreatDoor.Tr (str ret_bool ret_int Bytes Nd)
set_option linter.unusedVariables false
set_option linter.unusedSimpArgs false

theorem und46 : Tryz.prog.underlying 46 = some (.struct (Tryz.prog.fieldsOf 46)) := by kernel_rfl
theorem stood46 : Tryz.prog.stoodInHeld 46 = false := by kernel_rfl
theorem guard46 : Tryz.prog.eqGuardType Tryz.prog.depth 46 = false := by kernel_rfl
def prmB (s s' : ByteArray) (t t' : Int) : Bool := s.toList == s'.toList && t == t'
theorem equal_prm (d : Nat) (s s' : ByteArray) (t t' : Int) (w : World) :
    (Op.equalIn (d + 2) 46 (.agg #[.string s, .int .i64 t]) (.agg #[.string s', .int .i64 t'])).run Tryz.prog w = .ok (prmB s s' t t') w := by
  rw [run_equalIn_agg w (d + 1) 46 _ _ und46 stood46]
  simp only [Program.fieldsOf, Tryz.underlying46]
  unfold prmB
  rcases Bool.eq_false_or_eq_true (s.toList == s'.toList) with h1 | h1
  rotate_left
  · simp [go_sem, h1, Tryz.underlying3, Tryz.underlying9]
  rcases Bool.eq_false_or_eq_true (t == t') with h2 | h2
  rotate_left
  · simp [go_sem, h1, h2, Tryz.underlying3, Tryz.underlying9]
  simp [go_sem, h1, h2, Tryz.underlying3, Tryz.underlying9]
theorem neq_prm (s s' : ByteArray) (t t' : Int) (w : World) :
    (binOp .neq 46 (.agg #[.string s, .int .i64 t]) (.agg #[.string s', .int .i64 t'])).run Tryz.prog w = .ok (.bool (!prmB s s' t t')) w := by
  rw [run_neq_struct, show (10000 : Nat) = 9998 + 2 from rfl, equal_prm]; rfl
theorem eql_prm (s s' : ByteArray) (t t' : Int) (w : World) :
    (binOp .eql 46 (.agg #[.string s, .int .i64 t]) (.agg #[.string s', .int .i64 t'])).run Tryz.prog w = .ok (.bool (prmB s s' t t')) w := by
  rw [run_eql_struct, show (10000 : Nat) = 9998 + 2 from rfl, equal_prm]; rfl
theorem guard_prm (op : BinOp) (x y : Operand) (xs ys : Array Value) (w : World) : (eqGuard op 46 x y (.agg xs) (.agg ys)).run Tryz.prog w = .ok () w := run_eqGuard_agg w op 46 x y xs ys guard46
theorem prmB_self (s : ByteArray) (t : Int) : prmB s s t t = true := by simp [prmB]
theorem at_cell {w : World} {B : Nat} {cs : Array Value} {T : TypeId} {f : Nat × Nat} (h : w.heap[B]? = some (.cells cs T f)) (k : Nat) : w.cell? ⟨B, k, none⟩ = cs[k]? := by simp [World.cell?, h]
attribute [local go_sem ↓] neq_prm eql_prm guard_prm
set_option maxHeartbeats 1600000 in
theorem params_eq (l : List Prm) (u v : Value) (w : World) (hu : RowR 46 2 PrmV w l u) (hv : RowR 46 2 PrmV w l v) :
    Calls Tryz.prog 36 #[u, v] w fun e w' => e = .returned (.bool true) ∧ ∃ n, w' = w.drewN n := by
  obtain ⟨A, c, rfl, h1, h2, hA⟩ := hu
  obtain ⟨B, d, rfl, h3, h4, hB⟩ := hv
  unfold maxLen at h2 h4
  have HA := Lib.hid hA
  have HB := Lib.hid hB
  clear hA hB
  have hE : ((l.length : Int) != (l.length : Int)) = false := by simp
  go_enter Tryz.func36, Tryz.ntmps36
  go_wp2
  go_loopw [5] (fun i wr => ∃ k n : Nat, k ≤ l.length ∧ i = .int .i64 k ∧ wr = w.drewN n) (fun i _ => l.length - (intOf i).toNat)
  case atStart => exact ⟨0, 0, Nat.zero_le _, rfl, rfl⟩
  case round =>
    obtain ⟨k, n, hk, rfl, rfl⟩ := hrel
    by_cases hlt : k < l.length
    · obtain ⟨p, hp⟩ : ∃ p, l[k]? = some p := ⟨_, List.getElem?_eq_getElem hlt⟩
      obtain ⟨g, x, cs, f, rfl, g1, rfl, -, g3⟩ := HA.out k p hp
      obtain ⟨g', x', cs', f', rfl, k1, rfl, -, k3⟩ := HB.out k p hp
      have hg := lt_of_block g1
      have hg' := lt_of_block k1
      have a0 : w.cell? ⟨g, k * 2, none⟩ = some (.string (str p.name)) := (at_cell g1 _).trans (g3 0 (by decide))
      have a1 : w.cell? ⟨g, k * 2 + 1, none⟩ = some (.int .i64 p.ty) := (at_cell g1 _).trans (g3 1 (by decide))
      have b0 : w.cell? ⟨g', k * 2, none⟩ = some (.string (str p.name)) := (at_cell k1 _).trans (k3 0 (by decide))
      have b1 : w.cell? ⟨g', k * 2 + 1, none⟩ = some (.int .i64 p.ty) := (at_cell k1 _).trans (k3 1 (by decide))
      have hq : prmB (str p.name) (str p.name) p.ty p.ty = true := prmB_self _ _
      clear g1 g3 k1 k3 hp
      go_wp2
      go_quiet (fail)
      go_wp2
      go_roundw
      case rel => exact ⟨k + 1, _, by omega, by go_num, rfl⟩
      case measure => simp [intOf]; omega
    · go_wp2
      go_ret
      exact ⟨rfl, n, rfl⟩
theorem same_eq {u v : Value} {l : List Nd} {w : World} (hu : PtW w (u, ⟨l, 0, 0⟩)) (hv : PtW w (v, ⟨l, 0, 0⟩)) : Calls Tryz.prog 37 #[u, v] w fun e w' => e = .returned (.bool true) ∧ ∃ n, w' = w.drewN n := by
  have := Tr.same_any u v l l w hu.1 hv.1
  rwa [decide_eq_true rfl] at this
theorem PtW.drewN {w : World} {x : Value × Pt} (h : PtW w x) (n : Nat) : PtW (w.drewN n) x := h
theorem RowR.drewN {α : Type} {T : TypeId} {K : Nat} {R : World → α → List Value → Prop} {w : World} {l : List α} {v : Value} (h : RowR T K R w l v) (n : Nat) (hR : ∀ a x, R w a x → R (w.drewN n) a x) : RowR T K R (w.drewN n) l v :=
  h.stay (P := fun _ => False) ⟨Nat.le_refl _, fun _ _ _ _ _ _ => rfl⟩ (fun h => h) hR
theorem quiet_more {f : FuncId} {args : Array Value} {w : World} {n x : Nat} {v : Value} (h : Calls Tryz.prog f args (w.drewN (n + x)) fun e w' => e = .returned v ∧ ∃ m, w' = (w.drewN (n + x)).drewN m) : Calls Tryz.prog f args (w.drewN (n + x)) fun e w'' => e = .returned v ∧ ∃ m, w'' = w.drewN (n + m) :=
  h.mono fun _ _ ⟨he, m, hm⟩ => ⟨he, x + m, by rw [hm, World.drewN_drewN, Nat.add_assoc]⟩
set_option maxHeartbeats 1600000 in
theorem exprs_eq (l : List (List Nd)) (u v : Value) (w : World) (hu : RowR 23 1 ExpV w l u) (hv : RowR 23 1 ExpV w l v) :
    Calls Tryz.prog 38 #[u, v] w fun e w' => e = .returned (.bool true) ∧ ∃ n, w' = w.drewN n := by
  obtain ⟨A, c, rfl, h1, h2, hA⟩ := hu
  obtain ⟨B, d, rfl, h3, h4, hB⟩ := hv
  unfold maxLen at h2 h4
  have HA := Lib.hid hA
  have HB := Lib.hid hB
  clear hA hB
  have hE : ((l.length : Int) != (l.length : Int)) = false := by simp
  go_enter Tryz.func38, Tryz.ntmps38
  go_wp2
  go_loopw [5] (fun i wr => ∃ k n : Nat, k ≤ l.length ∧ i = .int .i64 k ∧ wr = w.drewN n) (fun i _ => l.length - (intOf i).toNat)
  case atStart => exact ⟨0, 0, Nat.zero_le _, rfl, rfl⟩
  case round =>
    obtain ⟨k, n, hk, rfl, rfl⟩ := hrel
    by_cases hlt : k < l.length
    · obtain ⟨p, hp⟩ : ∃ p, l[k]? = some p := ⟨_, List.getElem?_eq_getElem hlt⟩
      obtain ⟨g, x, cs, f, rfl, g1, ⟨eu, rfl, pu⟩, -, g3⟩ := HA.out k p hp
      obtain ⟨g', x', cs', f', rfl, k1, ⟨ev, rfl, pv⟩, -, k3⟩ := HB.out k p hp
      have hg := lt_of_block g1
      have hg' := lt_of_block k1
      have a0 : w.cell? ⟨g, k, none⟩ = some eu := by have z := (at_cell g1 _).trans (g3 0 (by decide)); simpa using z
      have b0 : w.cell? ⟨g', k, none⟩ = some ev := by have z := (at_cell k1 _).trans (k3 0 (by decide)); simpa using z
      have PU := Lib.hid pu
      have PV := Lib.hid pv
      clear g1 g3 k1 k3 hp pu pv
      go_wp2
      go_quiet ((go_at_call 37; exact quiet_more (same_eq (PtW.drewN PU.out _) (PtW.drewN PV.out _))))
      go_wp2
      go_roundw
      case rel => exact ⟨k + 1, _, by omega, by go_num, rfl⟩
      case measure => simp [intOf]; omega
    · go_wp2
      go_ret
      exact ⟨rfl, n, rfl⟩
end Go.Proofs.YtgohhnbdicdenaaGreatDoor.Pg

/- Contracts of layer prog's reader: a program. Conditions: a reader lies in memory. -/
namespace Go.Proofs.YtgohhnbdicdenaaGreatDoor.Pg
open Go.ChangeShapes Go.WideShapes Go.ChangeAt Go.RowKit
open Go.Proofs.YtgohhnbdicdenaaGreatDoor.Ex
open Go.Proofs.YtgohhnbdicdenaaGreatDoor.Tr (str ret_bool ret_int Bytes Nd)
set_option linter.unusedVariables false
set_option linter.unusedSimpArgs false

set_option maxRecDepth 100000 in
set_option maxHeartbeats 8000000 in
theorem prog_00 (b : Nat) (r : Rd) (w : World) (hr : GrAt w b r) (us : List Unt) (m k : Bytes) (r1 r2 r3 r4 r5 r6 r7 : Rd) (X : Prg × Rd) (h1 : rowP atUnitB unitP r = (us, r1)) (h2 : (needP wMain r1).2 = r2) (h3 : nameP r2 = (m, r3)) (h4 : (needP sSemi r3).2 = r4) (h5 : takeP wFallback r4 = (false, r5)) (hk : k = []) (hen : decide (r5.next < r5.l.length) = false) (he : ((⟨us, m, k⟩ : Prg), r5) = X) : Calls Tryz.prog 35 #[.pointer (some ⟨b, 0, none⟩)] w (PrgG w b X) := by
  have HR := Lib.hid hr
  have hlt := hr.lt
  have hmf : ∀ (fn : Fn) (first cap : Array Value) (w : World), (Instr.makeFunc fn first cap).run Tryz.prog w = .ok (.func fn first cap) w := fun _ _ _ _ => rfl
  have HE := Lib.hid he
  have H2 := Lib.hid h2
  have H3 := Lib.hid h3
  have H4 := Lib.hid h4
  have H5 := Lib.hid h5
  have HEN := Lib.hid hen
  have HC1 : Hid (∀ w', GrAt w' b r → Calls Tryz.prog 70 #[.pointer (some ⟨b, 0, none⟩), .func (.func 71) #[.pointer (some ⟨b, 0, none⟩)] #[], .func (.func 72) #[.pointer (some ⟨b, 0, none⟩)] #[]] w' (RowG 50 8 UntV w' b (us, r1))) := Lib.hid (fun w' h => by rw [← h1]; exact rowU_any b r w' h)
  subst hk
  clear h1 h2 h3 h4 h5 hen he hr
  have hX0 := Lib.hid (heap_alloc_new w (.cells #[.slice none 0 0, .string ⟨#[]⟩, .string ⟨#[]⟩] 38))
  go_enter Tryz.func35, Tryz.ntmps35
  go_wp2_with fail
  refine (HC1.out _ (HR.out.below (below_new w _))).mono ?_
  rintro e w1 ⟨uv, rfl, hu1, hg1⟩
  have HG1 := Lib.hid (GrTo.below (below_new w _) hlt hg1)
  have x1 := hg1.block hX0.out (by omega)
  have hs1 := hg1.grown.size
  simp at hs1
  have X1 := Lib.hid x1
  obtain ⟨A1, n1, c1, rfl, u1, u2⟩ := row_form hu1
  have F1_1 := Lib.hid hu1
  clear hg1 x1 hu1
  have HG1a := Lib.hid (HG1.out.then_below (below_new w1 (.cells #[.slice A1 n1 c1, .string ⟨#[]⟩, .string ⟨#[]⟩] 38)))
  have X1a := Lib.hid (((below_new w1 (.cells #[.slice A1 n1 c1, .string ⟨#[]⟩, .string ⟨#[]⟩] 38)).block _ (lt_of_block X1.out)).trans X1.out)
  have Y1a := Lib.hid (heap_alloc_new w1 (.cells #[.slice A1 n1 c1, .string ⟨#[]⟩, .string ⟨#[]⟩] 38))
  have F1_1a := Lib.hid (F1_1.out.stay (Stay.below (P := fun t => t = 74) (below_new w1 (.cells #[.slice A1 n1 c1, .string ⟨#[]⟩, .string ⟨#[]⟩] 38))) (by decide) (fun a x hx => UntV.stay (Stay.below (P := fun t => t = 74) (below_new w1 (.cells #[.slice A1 n1 c1, .string ⟨#[]⟩, .string ⟨#[]⟩] 38))) ⟨by decide, by decide, by decide, by decide, by decide⟩ a x hx))
  have hne : w.heap.size ≠ w1.heap.size := by omega
  go_wp2_with fail
  refine (need_lit (s := wMain) rfl HG1a.out.rd (by decide) H2.out).mono ?_
  rintro e w2 ⟨rfl, hg2⟩
  have HG2 := Lib.hid (HG1a.out.trans hg2)
  have x2 := hg2.block X1a.out (by omega)
  have y2 := hg2.block Y1a.out (by omega)
  have X2 := Lib.hid x2
  have Y2 := Lib.hid y2
  have lx2 := lt_of_block x2
  have ly2 := lt_of_block y2
  have F1_2 := Lib.hid (F1_1a.out.stay ((GrTo.stay HG1a.out.rd hg2)) (by decide) (fun a x hx => UntV.stay (GrTo.stay HG1a.out.rd hg2) ⟨by decide, by decide, by decide, by decide, by decide⟩ a x hx))
  clear hg2 x2 y2 
  go_wp2_with fail
  refine (name_lit HG2.out.rd H3.out).mono ?_
  rintro e w3 ⟨rfl, hg3⟩
  have HG3 := Lib.hid (HG2.out.trans hg3)
  have x3 := hg3.block X2.out (by omega)
  have y3 := hg3.block Y2.out (by omega)
  have X3 := Lib.hid x3
  have Y3 := Lib.hid y3
  have lx3 := lt_of_block x3
  have ly3 := lt_of_block y3
  have F1_3 := Lib.hid (F1_2.out.stay ((GrTo.stay HG2.out.rd hg3)) (by decide) (fun a x hx => UntV.stay (GrTo.stay HG2.out.rd hg3) ⟨by decide, by decide, by decide, by decide, by decide⟩ a x hx))
  clear hg3 x3 y3 
  have q3_1 : w3.cell? ⟨w1.heap.size, 1, none⟩ = some (.string ⟨#[]⟩) := (cell_at Y3.out 1).trans rfl
  have k3_1 : w3.frozen? ⟨w1.heap.size, 1, none⟩ = false := free_at Y3.out 1
  have Y3a : Hid ((w3.setCell ⟨w1.heap.size, 1, none⟩ (.string (str m))).heap[w1.heap.size]? = some (.cells #[.slice A1 n1 c1, .string (str m), .string ⟨#[]⟩] 38 (0, 0))) := Lib.hid (by have z := setObj_heap (v := .string (str m)) Y3.out (k := 1) (by simp); simpa using z)
  have X3a := Lib.hid (set_other (k := 1) (v := .string (str m)) X3.out hne)
  have HG3a := Lib.hid (HG3.out.setLocal (k := 1) (B := w1.heap.size) (by omega) hlt (.string (str m)))
  have F1_3a := Lib.hid (F1_3.out.stay (Stay.set (P := fun t => t = 38) (k := 1) Y3.out rfl (.string (str m))) (by decide) (fun a x hx => UntV.stay (Stay.set (P := fun t => t = 38) (k := 1) Y3.out rfl (.string (str m))) ⟨by decide, by decide, by decide, by decide, by decide⟩ a x hx))
  go_wp2_with fail
  refine (need_lit (s := sSemi) rfl HG3a.out.rd (by decide) H4.out).mono ?_
  rintro e w4 ⟨rfl, hg4⟩
  have HG4 := Lib.hid (HG3a.out.trans hg4)
  have x4 := hg4.block X3a.out (by omega)
  have y4 := hg4.block Y3a.out (by omega)
  have X4 := Lib.hid x4
  have Y4 := Lib.hid y4
  have lx4 := lt_of_block x4
  have ly4 := lt_of_block y4
  have F1_4 := Lib.hid (F1_3a.out.stay ((GrTo.stay HG3a.out.rd hg4)) (by decide) (fun a x hx => UntV.stay (GrTo.stay HG3a.out.rd hg4) ⟨by decide, by decide, by decide, by decide, by decide⟩ a x hx))
  clear hg4 x4 y4 
  clear q3_1 k3_1
  go_wp2_with fail
  refine (take_lit (s := wFallback) rfl HG4.out.rd (by decide) H5.out).mono ?_
  rintro e w5 ⟨rfl, hg5⟩
  have HG5 := Lib.hid (HG4.out.trans hg5)
  have x5 := hg5.block X4.out (by omega)
  have y5 := hg5.block Y4.out (by omega)
  have X5 := Lib.hid x5
  have Y5 := Lib.hid y5
  have lx5 := lt_of_block x5
  have ly5 := lt_of_block y5
  have F1_5 := Lib.hid (F1_4.out.stay ((GrTo.stay HG4.out.rd hg5)) (by decide) (fun a x hx => UntV.stay (GrTo.stay HG4.out.rd hg5) ⟨by decide, by decide, by decide, by decide, by decide⟩ a x hx))
  clear hg5 x5 y5 
  obtain ⟨lv, ke, A, c, rfl, kh1, kh2, -⟩ := HG5.out.rd.blk
  unfold maxLen at kh2
  have cb0 : w5.cell? ⟨b, 0, none⟩ = some (.slice A r5.l.length c) := gr_cell ke 0
  have cb1 : w5.cell? ⟨b, 1, none⟩ = some (.int .i64 (r5.next : Int)) := gr_cell ke 1
  have hnx := HG5.out.rd.ok.nx
  have hlb : b < w5.heap.size := lt_of_block ke
  have hd := HEN.out
  clear ke
  have p0 : w5.cell? ⟨w.heap.size, 0, none⟩ = some (.slice none 0 0) := (cell_at X5.out 0).trans rfl
  have g0 : w5.frozen? ⟨w.heap.size, 0, none⟩ = false := free_at X5.out 0
  have q0 : w5.cell? ⟨w1.heap.size, 0, none⟩ = some (.slice A1 n1 c1) := (cell_at Y5.out 0).trans rfl
  have p1 : w5.cell? ⟨w.heap.size, 1, none⟩ = some (.string ⟨#[]⟩) := (cell_at X5.out 1).trans rfl
  have g1 : w5.frozen? ⟨w.heap.size, 1, none⟩ = false := free_at X5.out 1
  have q1 : w5.cell? ⟨w1.heap.size, 1, none⟩ = some (.string (str m)) := (cell_at Y5.out 1).trans rfl
  have p2 : w5.cell? ⟨w.heap.size, 2, none⟩ = some (.string ⟨#[]⟩) := (cell_at X5.out 2).trans rfl
  have g2 : w5.frozen? ⟨w.heap.size, 2, none⟩ = false := free_at X5.out 2
  have q2 : w5.cell? ⟨w1.heap.size, 2, none⟩ = some (.string ⟨#[]⟩) := (cell_at Y5.out 2).trans rfl
  go_wp2
  go_quiet (fail)
  go_wp2
  have XQ : (w5.drewN nq).heap[w.heap.size]? = _ := X5.out
  have Z := blk3 XQ (.slice A1 n1 c1) (.string (str m)) (.string ⟨#[]⟩)
  have hsz : (w5.drewN nq).heap.size ≤ ((((w5.drewN nq).setCell ⟨w.heap.size, 0, none⟩ (.slice A1 n1 c1)).setCell ⟨w.heap.size, 1, none⟩ (.string (str m))).setCell ⟨w.heap.size, 2, none⟩ (.string ⟨#[]⟩)).heap.size := by simp [World.setCell]
  have hst : Stay (fun t => t = 38) (w5.drewN nq) ((((w5.drewN nq).setCell ⟨w.heap.size, 0, none⟩ (.slice A1 n1 c1)).setCell ⟨w.heap.size, 1, none⟩ (.string (str m))).setCell ⟨w.heap.size, 2, none⟩ (.string ⟨#[]⟩)) := Stay.sets XQ rfl hsz (fun g hg => by simp only [set_ne hg])
  have z0 := (cell_at Z 0).trans (show _ = some (.slice A1 n1 c1) from rfl)
  have z1 := (cell_at Z 1).trans (show _ = some (.string (str m)) from rfl)
  have z2 := (cell_at Z 2).trans (show _ = some (.string ⟨#[]⟩) from rfl)
  clear p0 g0 q0 p1 g1 q1 p2 g2 q2 cb0 cb1
  exact bodyPost_ret (v := .agg #[.slice A1 n1 c1, .string (str m), .string ⟨#[]⟩]) (by simp [results, Tryz.results35, go_sem, z0, z1, z2]) rfl (PrgG.of HE.out ((F1_5.out.drewN nq (fun a x hx => UntV.stay (P := fun _ => False) ⟨Nat.le_refl _, fun _ _ _ _ _ _ => rfl⟩ ⟨fun h => h, fun h => h, fun h => h, fun h => h, fun h => h⟩ a x hx)).stay hst (by decide) (fun a x hx => UntV.stay hst ⟨by decide, by decide, by decide, by decide, by decide⟩ a x hx)) ((((HG5.out.then_below (Tr.below_drewN (Below.refl _ _) nq)).setLocal (by omega) hlt _).setLocal (by omega) hlt _).setLocal (by omega) hlt _))
end Go.Proofs.YtgohhnbdicdenaaGreatDoor.Pg

/- Contracts of layer prog's reader: a program. Conditions: a reader lies in memory. -/
namespace Go.Proofs.YtgohhnbdicdenaaGreatDoor.Pg
open Go.ChangeShapes Go.WideShapes Go.ChangeAt Go.RowKit
open Go.Proofs.YtgohhnbdicdenaaGreatDoor.Ex
open Go.Proofs.YtgohhnbdicdenaaGreatDoor.Tr (str ret_bool ret_int Bytes Nd)
set_option linter.unusedVariables false
set_option linter.unusedSimpArgs false

set_option maxRecDepth 100000 in
set_option maxHeartbeats 8000000 in
theorem prog_01 (b : Nat) (r : Rd) (w : World) (hr : GrAt w b r) (us : List Unt) (m k : Bytes) (r1 r2 r3 r4 r5 r6 r7 : Rd) (X : Prg × Rd) (h1 : rowP atUnitB unitP r = (us, r1)) (h2 : (needP wMain r1).2 = r2) (h3 : nameP r2 = (m, r3)) (h4 : (needP sSemi r3).2 = r4) (h5 : takeP wFallback r4 = (false, r5)) (hk : k = []) (hen : decide (r5.next < r5.l.length) = true) (he : ((⟨us, m, k⟩ : Prg), r5.fail 5) = X) : Calls Tryz.prog 35 #[.pointer (some ⟨b, 0, none⟩)] w (PrgG w b X) := by
  have HR := Lib.hid hr
  have hlt := hr.lt
  have hmf : ∀ (fn : Fn) (first cap : Array Value) (w : World), (Instr.makeFunc fn first cap).run Tryz.prog w = .ok (.func fn first cap) w := fun _ _ _ _ => rfl
  have HE := Lib.hid he
  have H2 := Lib.hid h2
  have H3 := Lib.hid h3
  have H4 := Lib.hid h4
  have H5 := Lib.hid h5
  have HEN := Lib.hid hen
  have HC1 : Hid (∀ w', GrAt w' b r → Calls Tryz.prog 70 #[.pointer (some ⟨b, 0, none⟩), .func (.func 71) #[.pointer (some ⟨b, 0, none⟩)] #[], .func (.func 72) #[.pointer (some ⟨b, 0, none⟩)] #[]] w' (RowG 50 8 UntV w' b (us, r1))) := Lib.hid (fun w' h => by rw [← h1]; exact rowU_any b r w' h)
  subst hk
  clear h1 h2 h3 h4 h5 hen he hr
  have hX0 := Lib.hid (heap_alloc_new w (.cells #[.slice none 0 0, .string ⟨#[]⟩, .string ⟨#[]⟩] 38))
  go_enter Tryz.func35, Tryz.ntmps35
  go_wp2_with fail
  refine (HC1.out _ (HR.out.below (below_new w _))).mono ?_
  rintro e w1 ⟨uv, rfl, hu1, hg1⟩
  have HG1 := Lib.hid (GrTo.below (below_new w _) hlt hg1)
  have x1 := hg1.block hX0.out (by omega)
  have hs1 := hg1.grown.size
  simp at hs1
  have X1 := Lib.hid x1
  obtain ⟨A1, n1, c1, rfl, u1, u2⟩ := row_form hu1
  have F1_1 := Lib.hid hu1
  clear hg1 x1 hu1
  have HG1a := Lib.hid (HG1.out.then_below (below_new w1 (.cells #[.slice A1 n1 c1, .string ⟨#[]⟩, .string ⟨#[]⟩] 38)))
  have X1a := Lib.hid (((below_new w1 (.cells #[.slice A1 n1 c1, .string ⟨#[]⟩, .string ⟨#[]⟩] 38)).block _ (lt_of_block X1.out)).trans X1.out)
  have Y1a := Lib.hid (heap_alloc_new w1 (.cells #[.slice A1 n1 c1, .string ⟨#[]⟩, .string ⟨#[]⟩] 38))
  have F1_1a := Lib.hid (F1_1.out.stay (Stay.below (P := fun t => t = 74) (below_new w1 (.cells #[.slice A1 n1 c1, .string ⟨#[]⟩, .string ⟨#[]⟩] 38))) (by decide) (fun a x hx => UntV.stay (Stay.below (P := fun t => t = 74) (below_new w1 (.cells #[.slice A1 n1 c1, .string ⟨#[]⟩, .string ⟨#[]⟩] 38))) ⟨by decide, by decide, by decide, by decide, by decide⟩ a x hx))
  have hne : w.heap.size ≠ w1.heap.size := by omega
  go_wp2_with fail
  refine (need_lit (s := wMain) rfl HG1a.out.rd (by decide) H2.out).mono ?_
  rintro e w2 ⟨rfl, hg2⟩
  have HG2 := Lib.hid (HG1a.out.trans hg2)
  have x2 := hg2.block X1a.out (by omega)
  have y2 := hg2.block Y1a.out (by omega)
  have X2 := Lib.hid x2
  have Y2 := Lib.hid y2
  have lx2 := lt_of_block x2
  have ly2 := lt_of_block y2
  have F1_2 := Lib.hid (F1_1a.out.stay ((GrTo.stay HG1a.out.rd hg2)) (by decide) (fun a x hx => UntV.stay (GrTo.stay HG1a.out.rd hg2) ⟨by decide, by decide, by decide, by decide, by decide⟩ a x hx))
  clear hg2 x2 y2 
  go_wp2_with fail
  refine (name_lit HG2.out.rd H3.out).mono ?_
  rintro e w3 ⟨rfl, hg3⟩
  have HG3 := Lib.hid (HG2.out.trans hg3)
  have x3 := hg3.block X2.out (by omega)
  have y3 := hg3.block Y2.out (by omega)
  have X3 := Lib.hid x3
  have Y3 := Lib.hid y3
  have lx3 := lt_of_block x3
  have ly3 := lt_of_block y3
  have F1_3 := Lib.hid (F1_2.out.stay ((GrTo.stay HG2.out.rd hg3)) (by decide) (fun a x hx => UntV.stay (GrTo.stay HG2.out.rd hg3) ⟨by decide, by decide, by decide, by decide, by decide⟩ a x hx))
  clear hg3 x3 y3 
  have q3_1 : w3.cell? ⟨w1.heap.size, 1, none⟩ = some (.string ⟨#[]⟩) := (cell_at Y3.out 1).trans rfl
  have k3_1 : w3.frozen? ⟨w1.heap.size, 1, none⟩ = false := free_at Y3.out 1
  have Y3a : Hid ((w3.setCell ⟨w1.heap.size, 1, none⟩ (.string (str m))).heap[w1.heap.size]? = some (.cells #[.slice A1 n1 c1, .string (str m), .string ⟨#[]⟩] 38 (0, 0))) := Lib.hid (by have z := setObj_heap (v := .string (str m)) Y3.out (k := 1) (by simp); simpa using z)
  have X3a := Lib.hid (set_other (k := 1) (v := .string (str m)) X3.out hne)
  have HG3a := Lib.hid (HG3.out.setLocal (k := 1) (B := w1.heap.size) (by omega) hlt (.string (str m)))
  have F1_3a := Lib.hid (F1_3.out.stay (Stay.set (P := fun t => t = 38) (k := 1) Y3.out rfl (.string (str m))) (by decide) (fun a x hx => UntV.stay (Stay.set (P := fun t => t = 38) (k := 1) Y3.out rfl (.string (str m))) ⟨by decide, by decide, by decide, by decide, by decide⟩ a x hx))
  go_wp2_with fail
  refine (need_lit (s := sSemi) rfl HG3a.out.rd (by decide) H4.out).mono ?_
  rintro e w4 ⟨rfl, hg4⟩
  have HG4 := Lib.hid (HG3a.out.trans hg4)
  have x4 := hg4.block X3a.out (by omega)
  have y4 := hg4.block Y3a.out (by omega)
  have X4 := Lib.hid x4
  have Y4 := Lib.hid y4
  have lx4 := lt_of_block x4
  have ly4 := lt_of_block y4
  have F1_4 := Lib.hid (F1_3a.out.stay ((GrTo.stay HG3a.out.rd hg4)) (by decide) (fun a x hx => UntV.stay (GrTo.stay HG3a.out.rd hg4) ⟨by decide, by decide, by decide, by decide, by decide⟩ a x hx))
  clear hg4 x4 y4 
  clear q3_1 k3_1
  go_wp2_with fail
  refine (take_lit (s := wFallback) rfl HG4.out.rd (by decide) H5.out).mono ?_
  rintro e w5 ⟨rfl, hg5⟩
  have HG5 := Lib.hid (HG4.out.trans hg5)
  have x5 := hg5.block X4.out (by omega)
  have y5 := hg5.block Y4.out (by omega)
  have X5 := Lib.hid x5
  have Y5 := Lib.hid y5
  have lx5 := lt_of_block x5
  have ly5 := lt_of_block y5
  have F1_5 := Lib.hid (F1_4.out.stay ((GrTo.stay HG4.out.rd hg5)) (by decide) (fun a x hx => UntV.stay (GrTo.stay HG4.out.rd hg5) ⟨by decide, by decide, by decide, by decide, by decide⟩ a x hx))
  clear hg5 x5 y5 
  obtain ⟨lv, ke, A, c, rfl, kh1, kh2, -⟩ := HG5.out.rd.blk
  unfold maxLen at kh2
  have cb0 : w5.cell? ⟨b, 0, none⟩ = some (.slice A r5.l.length c) := gr_cell ke 0
  have cb1 : w5.cell? ⟨b, 1, none⟩ = some (.int .i64 (r5.next : Int)) := gr_cell ke 1
  have hnx := HG5.out.rd.ok.nx
  have hlb : b < w5.heap.size := lt_of_block ke
  have hd := HEN.out
  clear ke
  go_wp2
  go_quiet (fail)
  go_wp2_with fail
  refine (fail_any b r5 5 _ (HG5.out.rd.below (Tr.below_drewN (Below.refl _ _) _))).mono ?_
  rintro e w6 ⟨rfl, hg6⟩
  have bq := Tr.below_drewN (Below.refl w5.heap.size w5) nq
  have HG6 := Lib.hid ((HG5.out.then_below bq).trans hg6)
  have x6 := hg6.block (show (w5.drewN nq).heap[w.heap.size]? = _ from X5.out) (by omega)
  have y6 := hg6.block (show (w5.drewN nq).heap[w1.heap.size]? = _ from Y5.out) (by omega)
  have X6 := Lib.hid x6
  have Y6 := Lib.hid y6
  have lx6 := lt_of_block x6
  have ly6 := lt_of_block y6
  have F1_6 := Lib.hid ((F1_5.out.stay (Stay.below (P := fun t => t = 74) bq) (by decide) (fun a x hx => UntV.stay (Stay.below (P := fun t => t = 74) bq) ⟨by decide, by decide, by decide, by decide, by decide⟩ a x hx)).stay (GrTo.stay (HG5.out.rd.below bq) hg6) (by decide) (fun a x hx => UntV.stay (GrTo.stay (HG5.out.rd.below bq) hg6) ⟨by decide, by decide, by decide, by decide, by decide⟩ a x hx))
  clear hg6 x6 y6 cb0 cb1 hlb bq hd
  have p0 : w6.cell? ⟨w.heap.size, 0, none⟩ = some (.slice none 0 0) := (cell_at X6.out 0).trans rfl
  have g0 : w6.frozen? ⟨w.heap.size, 0, none⟩ = false := free_at X6.out 0
  have q0 : w6.cell? ⟨w1.heap.size, 0, none⟩ = some (.slice A1 n1 c1) := (cell_at Y6.out 0).trans rfl
  have p1 : w6.cell? ⟨w.heap.size, 1, none⟩ = some (.string ⟨#[]⟩) := (cell_at X6.out 1).trans rfl
  have g1 : w6.frozen? ⟨w.heap.size, 1, none⟩ = false := free_at X6.out 1
  have q1 : w6.cell? ⟨w1.heap.size, 1, none⟩ = some (.string (str m)) := (cell_at Y6.out 1).trans rfl
  have p2 : w6.cell? ⟨w.heap.size, 2, none⟩ = some (.string ⟨#[]⟩) := (cell_at X6.out 2).trans rfl
  have g2 : w6.frozen? ⟨w.heap.size, 2, none⟩ = false := free_at X6.out 2
  have q2 : w6.cell? ⟨w1.heap.size, 2, none⟩ = some (.string ⟨#[]⟩) := (cell_at Y6.out 2).trans rfl
  go_wp2
  have Z := blk3 X6.out (.slice A1 n1 c1) (.string (str m)) (.string ⟨#[]⟩)
  have hsz : w6.heap.size ≤ (((w6.setCell ⟨w.heap.size, 0, none⟩ (.slice A1 n1 c1)).setCell ⟨w.heap.size, 1, none⟩ (.string (str m))).setCell ⟨w.heap.size, 2, none⟩ (.string ⟨#[]⟩)).heap.size := by simp [World.setCell]
  have hst : Stay (fun t => t = 38) w6 (((w6.setCell ⟨w.heap.size, 0, none⟩ (.slice A1 n1 c1)).setCell ⟨w.heap.size, 1, none⟩ (.string (str m))).setCell ⟨w.heap.size, 2, none⟩ (.string ⟨#[]⟩)) := Stay.sets X6.out rfl hsz (fun g hg => by simp only [set_ne hg])
  have z0 := (cell_at Z 0).trans (show _ = some (.slice A1 n1 c1) from rfl)
  have z1 := (cell_at Z 1).trans (show _ = some (.string (str m)) from rfl)
  have z2 := (cell_at Z 2).trans (show _ = some (.string ⟨#[]⟩) from rfl)
  clear p0 g0 q0 p1 g1 q1 p2 g2 q2
  exact bodyPost_ret (v := .agg #[.slice A1 n1 c1, .string (str m), .string ⟨#[]⟩]) (by simp [results, Tryz.results35, go_sem, z0, z1, z2]) rfl (PrgG.of HE.out (F1_6.out.stay hst (by decide) (fun a x hx => UntV.stay hst ⟨by decide, by decide, by decide, by decide, by decide⟩ a x hx)) (((HG6.out.setLocal (by omega) hlt _).setLocal (by omega) hlt _).setLocal (by omega) hlt _))
end Go.Proofs.YtgohhnbdicdenaaGreatDoor.Pg

/- Contracts of layer prog's reader: a program. Conditions: a reader lies in memory. -/
namespace Go.Proofs.YtgohhnbdicdenaaGreatDoor.Pg
open Go.ChangeShapes Go.WideShapes Go.ChangeAt Go.RowKit
open Go.Proofs.YtgohhnbdicdenaaGreatDoor.Ex
open Go.Proofs.YtgohhnbdicdenaaGreatDoor.Tr (str ret_bool ret_int Bytes Nd)
set_option linter.unusedVariables false
set_option linter.unusedSimpArgs false

set_option maxRecDepth 100000 in
set_option maxHeartbeats 8000000 in
theorem prog_10 (b : Nat) (r : Rd) (w : World) (hr : GrAt w b r) (us : List Unt) (m k : Bytes) (r1 r2 r3 r4 r5 r6 r7 : Rd) (X : Prg × Rd) (h1 : rowP atUnitB unitP r = (us, r1)) (h2 : (needP wMain r1).2 = r2) (h3 : nameP r2 = (m, r3)) (h4 : (needP sSemi r3).2 = r4) (h5 : takeP wFallback r4 = (true, r5)) (h6 : nameP r5 = (k, r6)) (h7 : (needP sSemi r6).2 = r7) (hen : decide (r7.next < r7.l.length) = false) (he : ((⟨us, m, k⟩ : Prg), r7) = X) : Calls Tryz.prog 35 #[.pointer (some ⟨b, 0, none⟩)] w (PrgG w b X) := by
  have HR := Lib.hid hr
  have hlt := hr.lt
  have hmf : ∀ (fn : Fn) (first cap : Array Value) (w : World), (Instr.makeFunc fn first cap).run Tryz.prog w = .ok (.func fn first cap) w := fun _ _ _ _ => rfl
  have HE := Lib.hid he
  have H2 := Lib.hid h2
  have H3 := Lib.hid h3
  have H4 := Lib.hid h4
  have H5 := Lib.hid h5
  have H6 := Lib.hid h6
  have H7 := Lib.hid h7
  have HEN := Lib.hid hen
  have HC1 : Hid (∀ w', GrAt w' b r → Calls Tryz.prog 70 #[.pointer (some ⟨b, 0, none⟩), .func (.func 71) #[.pointer (some ⟨b, 0, none⟩)] #[], .func (.func 72) #[.pointer (some ⟨b, 0, none⟩)] #[]] w' (RowG 50 8 UntV w' b (us, r1))) := Lib.hid (fun w' h => by rw [← h1]; exact rowU_any b r w' h)
  clear h1 h2 h3 h4 h5 h6 h7 hen he hr
  have hX0 := Lib.hid (heap_alloc_new w (.cells #[.slice none 0 0, .string ⟨#[]⟩, .string ⟨#[]⟩] 38))
  go_enter Tryz.func35, Tryz.ntmps35
  go_wp2_with fail
  refine (HC1.out _ (HR.out.below (below_new w _))).mono ?_
  rintro e w1 ⟨uv, rfl, hu1, hg1⟩
  have HG1 := Lib.hid (GrTo.below (below_new w _) hlt hg1)
  have x1 := hg1.block hX0.out (by omega)
  have hs1 := hg1.grown.size
  simp at hs1
  have X1 := Lib.hid x1
  obtain ⟨A1, n1, c1, rfl, u1, u2⟩ := row_form hu1
  have F1_1 := Lib.hid hu1
  clear hg1 x1 hu1
  have HG1a := Lib.hid (HG1.out.then_below (below_new w1 (.cells #[.slice A1 n1 c1, .string ⟨#[]⟩, .string ⟨#[]⟩] 38)))
  have X1a := Lib.hid (((below_new w1 (.cells #[.slice A1 n1 c1, .string ⟨#[]⟩, .string ⟨#[]⟩] 38)).block _ (lt_of_block X1.out)).trans X1.out)
  have Y1a := Lib.hid (heap_alloc_new w1 (.cells #[.slice A1 n1 c1, .string ⟨#[]⟩, .string ⟨#[]⟩] 38))
  have F1_1a := Lib.hid (F1_1.out.stay (Stay.below (P := fun t => t = 74) (below_new w1 (.cells #[.slice A1 n1 c1, .string ⟨#[]⟩, .string ⟨#[]⟩] 38))) (by decide) (fun a x hx => UntV.stay (Stay.below (P := fun t => t = 74) (below_new w1 (.cells #[.slice A1 n1 c1, .string ⟨#[]⟩, .string ⟨#[]⟩] 38))) ⟨by decide, by decide, by decide, by decide, by decide⟩ a x hx))
  have hne : w.heap.size ≠ w1.heap.size := by omega
  go_wp2_with fail
  refine (need_lit (s := wMain) rfl HG1a.out.rd (by decide) H2.out).mono ?_
  rintro e w2 ⟨rfl, hg2⟩
  have HG2 := Lib.hid (HG1a.out.trans hg2)
  have x2 := hg2.block X1a.out (by omega)
  have y2 := hg2.block Y1a.out (by omega)
  have X2 := Lib.hid x2
  have Y2 := Lib.hid y2
  have lx2 := lt_of_block x2
  have ly2 := lt_of_block y2
  have F1_2 := Lib.hid (F1_1a.out.stay ((GrTo.stay HG1a.out.rd hg2)) (by decide) (fun a x hx => UntV.stay (GrTo.stay HG1a.out.rd hg2) ⟨by decide, by decide, by decide, by decide, by decide⟩ a x hx))
  clear hg2 x2 y2 
  go_wp2_with fail
  refine (name_lit HG2.out.rd H3.out).mono ?_
  rintro e w3 ⟨rfl, hg3⟩
  have HG3 := Lib.hid (HG2.out.trans hg3)
  have x3 := hg3.block X2.out (by omega)
  have y3 := hg3.block Y2.out (by omega)
  have X3 := Lib.hid x3
  have Y3 := Lib.hid y3
  have lx3 := lt_of_block x3
  have ly3 := lt_of_block y3
  have F1_3 := Lib.hid (F1_2.out.stay ((GrTo.stay HG2.out.rd hg3)) (by decide) (fun a x hx => UntV.stay (GrTo.stay HG2.out.rd hg3) ⟨by decide, by decide, by decide, by decide, by decide⟩ a x hx))
  clear hg3 x3 y3 
  have q3_1 : w3.cell? ⟨w1.heap.size, 1, none⟩ = some (.string ⟨#[]⟩) := (cell_at Y3.out 1).trans rfl
  have k3_1 : w3.frozen? ⟨w1.heap.size, 1, none⟩ = false := free_at Y3.out 1
  have Y3a : Hid ((w3.setCell ⟨w1.heap.size, 1, none⟩ (.string (str m))).heap[w1.heap.size]? = some (.cells #[.slice A1 n1 c1, .string (str m), .string ⟨#[]⟩] 38 (0, 0))) := Lib.hid (by have z := setObj_heap (v := .string (str m)) Y3.out (k := 1) (by simp); simpa using z)
  have X3a := Lib.hid (set_other (k := 1) (v := .string (str m)) X3.out hne)
  have HG3a := Lib.hid (HG3.out.setLocal (k := 1) (B := w1.heap.size) (by omega) hlt (.string (str m)))
  have F1_3a := Lib.hid (F1_3.out.stay (Stay.set (P := fun t => t = 38) (k := 1) Y3.out rfl (.string (str m))) (by decide) (fun a x hx => UntV.stay (Stay.set (P := fun t => t = 38) (k := 1) Y3.out rfl (.string (str m))) ⟨by decide, by decide, by decide, by decide, by decide⟩ a x hx))
  go_wp2_with fail
  refine (need_lit (s := sSemi) rfl HG3a.out.rd (by decide) H4.out).mono ?_
  rintro e w4 ⟨rfl, hg4⟩
  have HG4 := Lib.hid (HG3a.out.trans hg4)
  have x4 := hg4.block X3a.out (by omega)
  have y4 := hg4.block Y3a.out (by omega)
  have X4 := Lib.hid x4
  have Y4 := Lib.hid y4
  have lx4 := lt_of_block x4
  have ly4 := lt_of_block y4
  have F1_4 := Lib.hid (F1_3a.out.stay ((GrTo.stay HG3a.out.rd hg4)) (by decide) (fun a x hx => UntV.stay (GrTo.stay HG3a.out.rd hg4) ⟨by decide, by decide, by decide, by decide, by decide⟩ a x hx))
  clear hg4 x4 y4 
  clear q3_1 k3_1
  go_wp2_with fail
  refine (take_lit (s := wFallback) rfl HG4.out.rd (by decide) H5.out).mono ?_
  rintro e w5 ⟨rfl, hg5⟩
  have HG5 := Lib.hid (HG4.out.trans hg5)
  have x5 := hg5.block X4.out (by omega)
  have y5 := hg5.block Y4.out (by omega)
  have X5 := Lib.hid x5
  have Y5 := Lib.hid y5
  have lx5 := lt_of_block x5
  have ly5 := lt_of_block y5
  have F1_5 := Lib.hid (F1_4.out.stay ((GrTo.stay HG4.out.rd hg5)) (by decide) (fun a x hx => UntV.stay (GrTo.stay HG4.out.rd hg5) ⟨by decide, by decide, by decide, by decide, by decide⟩ a x hx))
  clear hg5 x5 y5 
  go_wp2_with fail
  refine (name_lit HG5.out.rd H6.out).mono ?_
  rintro e w6 ⟨rfl, hg6⟩
  have HG6 := Lib.hid (HG5.out.trans hg6)
  have x6 := hg6.block X5.out (by omega)
  have y6 := hg6.block Y5.out (by omega)
  have X6 := Lib.hid x6
  have Y6 := Lib.hid y6
  have lx6 := lt_of_block x6
  have ly6 := lt_of_block y6
  have F1_6 := Lib.hid (F1_5.out.stay ((GrTo.stay HG5.out.rd hg6)) (by decide) (fun a x hx => UntV.stay (GrTo.stay HG5.out.rd hg6) ⟨by decide, by decide, by decide, by decide, by decide⟩ a x hx))
  clear hg6 x6 y6 
  have q6_2 : w6.cell? ⟨w1.heap.size, 2, none⟩ = some (.string ⟨#[]⟩) := (cell_at Y6.out 2).trans rfl
  have k6_2 : w6.frozen? ⟨w1.heap.size, 2, none⟩ = false := free_at Y6.out 2
  have Y6a : Hid ((w6.setCell ⟨w1.heap.size, 2, none⟩ (.string (str k))).heap[w1.heap.size]? = some (.cells #[.slice A1 n1 c1, .string (str m), .string (str k)] 38 (0, 0))) := Lib.hid (by have z := setObj_heap (v := .string (str k)) Y6.out (k := 2) (by simp); simpa using z)
  have X6a := Lib.hid (set_other (k := 2) (v := .string (str k)) X6.out hne)
  have HG6a := Lib.hid (HG6.out.setLocal (k := 2) (B := w1.heap.size) (by omega) hlt (.string (str k)))
  have F1_6a := Lib.hid (F1_6.out.stay (Stay.set (P := fun t => t = 38) (k := 2) Y6.out rfl (.string (str k))) (by decide) (fun a x hx => UntV.stay (Stay.set (P := fun t => t = 38) (k := 2) Y6.out rfl (.string (str k))) ⟨by decide, by decide, by decide, by decide, by decide⟩ a x hx))
  go_wp2_with fail
  refine (need_lit (s := sSemi) rfl HG6a.out.rd (by decide) H7.out).mono ?_
  rintro e w7 ⟨rfl, hg7⟩
  have HG7 := Lib.hid (HG6a.out.trans hg7)
  have x7 := hg7.block X6a.out (by omega)
  have y7 := hg7.block Y6a.out (by omega)
  have X7 := Lib.hid x7
  have Y7 := Lib.hid y7
  have lx7 := lt_of_block x7
  have ly7 := lt_of_block y7
  have F1_7 := Lib.hid (F1_6a.out.stay ((GrTo.stay HG6a.out.rd hg7)) (by decide) (fun a x hx => UntV.stay (GrTo.stay HG6a.out.rd hg7) ⟨by decide, by decide, by decide, by decide, by decide⟩ a x hx))
  clear hg7 x7 y7 
  clear q6_2 k6_2
  obtain ⟨lv, ke, A, c, rfl, kh1, kh2, -⟩ := HG7.out.rd.blk
  unfold maxLen at kh2
  have cb0 : w7.cell? ⟨b, 0, none⟩ = some (.slice A r7.l.length c) := gr_cell ke 0
  have cb1 : w7.cell? ⟨b, 1, none⟩ = some (.int .i64 (r7.next : Int)) := gr_cell ke 1
  have hnx := HG7.out.rd.ok.nx
  have hlb : b < w7.heap.size := lt_of_block ke
  have hd := HEN.out
  clear ke
  have p0 : w7.cell? ⟨w.heap.size, 0, none⟩ = some (.slice none 0 0) := (cell_at X7.out 0).trans rfl
  have g0 : w7.frozen? ⟨w.heap.size, 0, none⟩ = false := free_at X7.out 0
  have q0 : w7.cell? ⟨w1.heap.size, 0, none⟩ = some (.slice A1 n1 c1) := (cell_at Y7.out 0).trans rfl
  have p1 : w7.cell? ⟨w.heap.size, 1, none⟩ = some (.string ⟨#[]⟩) := (cell_at X7.out 1).trans rfl
  have g1 : w7.frozen? ⟨w.heap.size, 1, none⟩ = false := free_at X7.out 1
  have q1 : w7.cell? ⟨w1.heap.size, 1, none⟩ = some (.string (str m)) := (cell_at Y7.out 1).trans rfl
  have p2 : w7.cell? ⟨w.heap.size, 2, none⟩ = some (.string ⟨#[]⟩) := (cell_at X7.out 2).trans rfl
  have g2 : w7.frozen? ⟨w.heap.size, 2, none⟩ = false := free_at X7.out 2
  have q2 : w7.cell? ⟨w1.heap.size, 2, none⟩ = some (.string (str k)) := (cell_at Y7.out 2).trans rfl
  go_wp2
  go_quiet (fail)
  go_wp2
  have XQ : (w7.drewN nq).heap[w.heap.size]? = _ := X7.out
  have Z := blk3 XQ (.slice A1 n1 c1) (.string (str m)) (.string (str k))
  have hsz : (w7.drewN nq).heap.size ≤ ((((w7.drewN nq).setCell ⟨w.heap.size, 0, none⟩ (.slice A1 n1 c1)).setCell ⟨w.heap.size, 1, none⟩ (.string (str m))).setCell ⟨w.heap.size, 2, none⟩ (.string (str k))).heap.size := by simp [World.setCell]
  have hst : Stay (fun t => t = 38) (w7.drewN nq) ((((w7.drewN nq).setCell ⟨w.heap.size, 0, none⟩ (.slice A1 n1 c1)).setCell ⟨w.heap.size, 1, none⟩ (.string (str m))).setCell ⟨w.heap.size, 2, none⟩ (.string (str k))) := Stay.sets XQ rfl hsz (fun g hg => by simp only [set_ne hg])
  have z0 := (cell_at Z 0).trans (show _ = some (.slice A1 n1 c1) from rfl)
  have z1 := (cell_at Z 1).trans (show _ = some (.string (str m)) from rfl)
  have z2 := (cell_at Z 2).trans (show _ = some (.string (str k)) from rfl)
  clear p0 g0 q0 p1 g1 q1 p2 g2 q2 cb0 cb1
  exact bodyPost_ret (v := .agg #[.slice A1 n1 c1, .string (str m), .string (str k)]) (by simp [results, Tryz.results35, go_sem, z0, z1, z2]) rfl (PrgG.of HE.out ((F1_7.out.drewN nq (fun a x hx => UntV.stay (P := fun _ => False) ⟨Nat.le_refl _, fun _ _ _ _ _ _ => rfl⟩ ⟨fun h => h, fun h => h, fun h => h, fun h => h, fun h => h⟩ a x hx)).stay hst (by decide) (fun a x hx => UntV.stay hst ⟨by decide, by decide, by decide, by decide, by decide⟩ a x hx)) ((((HG7.out.then_below (Tr.below_drewN (Below.refl _ _) nq)).setLocal (by omega) hlt _).setLocal (by omega) hlt _).setLocal (by omega) hlt _))
end Go.Proofs.YtgohhnbdicdenaaGreatDoor.Pg

/- Contracts of layer prog's reader: a program. Conditions: a reader lies in memory. -/
namespace Go.Proofs.YtgohhnbdicdenaaGreatDoor.Pg
open Go.ChangeShapes Go.WideShapes Go.ChangeAt Go.RowKit
open Go.Proofs.YtgohhnbdicdenaaGreatDoor.Ex
open Go.Proofs.YtgohhnbdicdenaaGreatDoor.Tr (str ret_bool ret_int Bytes Nd)
set_option linter.unusedVariables false
set_option linter.unusedSimpArgs false

set_option maxRecDepth 100000 in
set_option maxHeartbeats 8000000 in
theorem prog_11 (b : Nat) (r : Rd) (w : World) (hr : GrAt w b r) (us : List Unt) (m k : Bytes) (r1 r2 r3 r4 r5 r6 r7 : Rd) (X : Prg × Rd) (h1 : rowP atUnitB unitP r = (us, r1)) (h2 : (needP wMain r1).2 = r2) (h3 : nameP r2 = (m, r3)) (h4 : (needP sSemi r3).2 = r4) (h5 : takeP wFallback r4 = (true, r5)) (h6 : nameP r5 = (k, r6)) (h7 : (needP sSemi r6).2 = r7) (hen : decide (r7.next < r7.l.length) = true) (he : ((⟨us, m, k⟩ : Prg), r7.fail 5) = X) : Calls Tryz.prog 35 #[.pointer (some ⟨b, 0, none⟩)] w (PrgG w b X) := by
  have HR := Lib.hid hr
  have hlt := hr.lt
  have hmf : ∀ (fn : Fn) (first cap : Array Value) (w : World), (Instr.makeFunc fn first cap).run Tryz.prog w = .ok (.func fn first cap) w := fun _ _ _ _ => rfl
  have HE := Lib.hid he
  have H2 := Lib.hid h2
  have H3 := Lib.hid h3
  have H4 := Lib.hid h4
  have H5 := Lib.hid h5
  have H6 := Lib.hid h6
  have H7 := Lib.hid h7
  have HEN := Lib.hid hen
  have HC1 : Hid (∀ w', GrAt w' b r → Calls Tryz.prog 70 #[.pointer (some ⟨b, 0, none⟩), .func (.func 71) #[.pointer (some ⟨b, 0, none⟩)] #[], .func (.func 72) #[.pointer (some ⟨b, 0, none⟩)] #[]] w' (RowG 50 8 UntV w' b (us, r1))) := Lib.hid (fun w' h => by rw [← h1]; exact rowU_any b r w' h)
  clear h1 h2 h3 h4 h5 h6 h7 hen he hr
  have hX0 := Lib.hid (heap_alloc_new w (.cells #[.slice none 0 0, .string ⟨#[]⟩, .string ⟨#[]⟩] 38))
  go_enter Tryz.func35, Tryz.ntmps35
  go_wp2_with fail
  refine (HC1.out _ (HR.out.below (below_new w _))).mono ?_
  rintro e w1 ⟨uv, rfl, hu1, hg1⟩
  have HG1 := Lib.hid (GrTo.below (below_new w _) hlt hg1)
  have x1 := hg1.block hX0.out (by omega)
  have hs1 := hg1.grown.size
  simp at hs1
  have X1 := Lib.hid x1
  obtain ⟨A1, n1, c1, rfl, u1, u2⟩ := row_form hu1
  have F1_1 := Lib.hid hu1
  clear hg1 x1 hu1
  have HG1a := Lib.hid (HG1.out.then_below (below_new w1 (.cells #[.slice A1 n1 c1, .string ⟨#[]⟩, .string ⟨#[]⟩] 38)))
  have X1a := Lib.hid (((below_new w1 (.cells #[.slice A1 n1 c1, .string ⟨#[]⟩, .string ⟨#[]⟩] 38)).block _ (lt_of_block X1.out)).trans X1.out)
  have Y1a := Lib.hid (heap_alloc_new w1 (.cells #[.slice A1 n1 c1, .string ⟨#[]⟩, .string ⟨#[]⟩] 38))
  have F1_1a := Lib.hid (F1_1.out.stay (Stay.below (P := fun t => t = 74) (below_new w1 (.cells #[.slice A1 n1 c1, .string ⟨#[]⟩, .string ⟨#[]⟩] 38))) (by decide) (fun a x hx => UntV.stay (Stay.below (P := fun t => t = 74) (below_new w1 (.cells #[.slice A1 n1 c1, .string ⟨#[]⟩, .string ⟨#[]⟩] 38))) ⟨by decide, by decide, by decide, by decide, by decide⟩ a x hx))
  have hne : w.heap.size ≠ w1.heap.size := by omega
  go_wp2_with fail
  refine (need_lit (s := wMain) rfl HG1a.out.rd (by decide) H2.out).mono ?_
  rintro e w2 ⟨rfl, hg2⟩
  have HG2 := Lib.hid (HG1a.out.trans hg2)
  have x2 := hg2.block X1a.out (by omega)
  have y2 := hg2.block Y1a.out (by omega)
  have X2 := Lib.hid x2
  have Y2 := Lib.hid y2
  have lx2 := lt_of_block x2
  have ly2 := lt_of_block y2
  have F1_2 := Lib.hid (F1_1a.out.stay ((GrTo.stay HG1a.out.rd hg2)) (by decide) (fun a x hx => UntV.stay (GrTo.stay HG1a.out.rd hg2) ⟨by decide, by decide, by decide, by decide, by decide⟩ a x hx))
  clear hg2 x2 y2 
  go_wp2_with fail
  refine (name_lit HG2.out.rd H3.out).mono ?_
  rintro e w3 ⟨rfl, hg3⟩
  have HG3 := Lib.hid (HG2.out.trans hg3)
  have x3 := hg3.block X2.out (by omega)
  have y3 := hg3.block Y2.out (by omega)
  have X3 := Lib.hid x3
  have Y3 := Lib.hid y3
  have lx3 := lt_of_block x3
  have ly3 := lt_of_block y3
  have F1_3 := Lib.hid (F1_2.out.stay ((GrTo.stay HG2.out.rd hg3)) (by decide) (fun a x hx => UntV.stay (GrTo.stay HG2.out.rd hg3) ⟨by decide, by decide, by decide, by decide, by decide⟩ a x hx))
  clear hg3 x3 y3 
  have q3_1 : w3.cell? ⟨w1.heap.size, 1, none⟩ = some (.string ⟨#[]⟩) := (cell_at Y3.out 1).trans rfl
  have k3_1 : w3.frozen? ⟨w1.heap.size, 1, none⟩ = false := free_at Y3.out 1
  have Y3a : Hid ((w3.setCell ⟨w1.heap.size, 1, none⟩ (.string (str m))).heap[w1.heap.size]? = some (.cells #[.slice A1 n1 c1, .string (str m), .string ⟨#[]⟩] 38 (0, 0))) := Lib.hid (by have z := setObj_heap (v := .string (str m)) Y3.out (k := 1) (by simp); simpa using z)
  have X3a := Lib.hid (set_other (k := 1) (v := .string (str m)) X3.out hne)
  have HG3a := Lib.hid (HG3.out.setLocal (k := 1) (B := w1.heap.size) (by omega) hlt (.string (str m)))
  have F1_3a := Lib.hid (F1_3.out.stay (Stay.set (P := fun t => t = 38) (k := 1) Y3.out rfl (.string (str m))) (by decide) (fun a x hx => UntV.stay (Stay.set (P := fun t => t = 38) (k := 1) Y3.out rfl (.string (str m))) ⟨by decide, by decide, by decide, by decide, by decide⟩ a x hx))
  go_wp2_with fail
  refine (need_lit (s := sSemi) rfl HG3a.out.rd (by decide) H4.out).mono ?_
  rintro e w4 ⟨rfl, hg4⟩
  have HG4 := Lib.hid (HG3a.out.trans hg4)
  have x4 := hg4.block X3a.out (by omega)
  have y4 := hg4.block Y3a.out (by omega)
  have X4 := Lib.hid x4
  have Y4 := Lib.hid y4
  have lx4 := lt_of_block x4
  have ly4 := lt_of_block y4
  have F1_4 := Lib.hid (F1_3a.out.stay ((GrTo.stay HG3a.out.rd hg4)) (by decide) (fun a x hx => UntV.stay (GrTo.stay HG3a.out.rd hg4) ⟨by decide, by decide, by decide, by decide, by decide⟩ a x hx))
  clear hg4 x4 y4 
  clear q3_1 k3_1
  go_wp2_with fail
  refine (take_lit (s := wFallback) rfl HG4.out.rd (by decide) H5.out).mono ?_
  rintro e w5 ⟨rfl, hg5⟩
  have HG5 := Lib.hid (HG4.out.trans hg5)
  have x5 := hg5.block X4.out (by omega)
  have y5 := hg5.block Y4.out (by omega)
  have X5 := Lib.hid x5
  have Y5 := Lib.hid y5
  have lx5 := lt_of_block x5
  have ly5 := lt_of_block y5
  have F1_5 := Lib.hid (F1_4.out.stay ((GrTo.stay HG4.out.rd hg5)) (by decide) (fun a x hx => UntV.stay (GrTo.stay HG4.out.rd hg5) ⟨by decide, by decide, by decide, by decide, by decide⟩ a x hx))
  clear hg5 x5 y5 
  go_wp2_with fail
  refine (name_lit HG5.out.rd H6.out).mono ?_
  rintro e w6 ⟨rfl, hg6⟩
  have HG6 := Lib.hid (HG5.out.trans hg6)
  have x6 := hg6.block X5.out (by omega)
  have y6 := hg6.block Y5.out (by omega)
  have X6 := Lib.hid x6
  have Y6 := Lib.hid y6
  have lx6 := lt_of_block x6
  have ly6 := lt_of_block y6
  have F1_6 := Lib.hid (F1_5.out.stay ((GrTo.stay HG5.out.rd hg6)) (by decide) (fun a x hx => UntV.stay (GrTo.stay HG5.out.rd hg6) ⟨by decide, by decide, by decide, by decide, by decide⟩ a x hx))
  clear hg6 x6 y6 
  have q6_2 : w6.cell? ⟨w1.heap.size, 2, none⟩ = some (.string ⟨#[]⟩) := (cell_at Y6.out 2).trans rfl
  have k6_2 : w6.frozen? ⟨w1.heap.size, 2, none⟩ = false := free_at Y6.out 2
  have Y6a : Hid ((w6.setCell ⟨w1.heap.size, 2, none⟩ (.string (str k))).heap[w1.heap.size]? = some (.cells #[.slice A1 n1 c1, .string (str m), .string (str k)] 38 (0, 0))) := Lib.hid (by have z := setObj_heap (v := .string (str k)) Y6.out (k := 2) (by simp); simpa using z)
  have X6a := Lib.hid (set_other (k := 2) (v := .string (str k)) X6.out hne)
  have HG6a := Lib.hid (HG6.out.setLocal (k := 2) (B := w1.heap.size) (by omega) hlt (.string (str k)))
  have F1_6a := Lib.hid (F1_6.out.stay (Stay.set (P := fun t => t = 38) (k := 2) Y6.out rfl (.string (str k))) (by decide) (fun a x hx => UntV.stay (Stay.set (P := fun t => t = 38) (k := 2) Y6.out rfl (.string (str k))) ⟨by decide, by decide, by decide, by decide, by decide⟩ a x hx))
  go_wp2_with fail
  refine (need_lit (s := sSemi) rfl HG6a.out.rd (by decide) H7.out).mono ?_
  rintro e w7 ⟨rfl, hg7⟩
  have HG7 := Lib.hid (HG6a.out.trans hg7)
  have x7 := hg7.block X6a.out (by omega)
  have y7 := hg7.block Y6a.out (by omega)
  have X7 := Lib.hid x7
  have Y7 := Lib.hid y7
  have lx7 := lt_of_block x7
  have ly7 := lt_of_block y7
  have F1_7 := Lib.hid (F1_6a.out.stay ((GrTo.stay HG6a.out.rd hg7)) (by decide) (fun a x hx => UntV.stay (GrTo.stay HG6a.out.rd hg7) ⟨by decide, by decide, by decide, by decide, by decide⟩ a x hx))
  clear hg7 x7 y7 
  clear q6_2 k6_2
  obtain ⟨lv, ke, A, c, rfl, kh1, kh2, -⟩ := HG7.out.rd.blk
  unfold maxLen at kh2
  have cb0 : w7.cell? ⟨b, 0, none⟩ = some (.slice A r7.l.length c) := gr_cell ke 0
  have cb1 : w7.cell? ⟨b, 1, none⟩ = some (.int .i64 (r7.next : Int)) := gr_cell ke 1
  have hnx := HG7.out.rd.ok.nx
  have hlb : b < w7.heap.size := lt_of_block ke
  have hd := HEN.out
  clear ke
  go_wp2
  go_quiet (fail)
  go_wp2_with fail
  refine (fail_any b r7 5 _ (HG7.out.rd.below (Tr.below_drewN (Below.refl _ _) _))).mono ?_
  rintro e w8 ⟨rfl, hg8⟩
  have bq := Tr.below_drewN (Below.refl w7.heap.size w7) nq
  have HG8 := Lib.hid ((HG7.out.then_below bq).trans hg8)
  have x8 := hg8.block (show (w7.drewN nq).heap[w.heap.size]? = _ from X7.out) (by omega)
  have y8 := hg8.block (show (w7.drewN nq).heap[w1.heap.size]? = _ from Y7.out) (by omega)
  have X8 := Lib.hid x8
  have Y8 := Lib.hid y8
  have lx8 := lt_of_block x8
  have ly8 := lt_of_block y8
  have F1_8 := Lib.hid ((F1_7.out.stay (Stay.below (P := fun t => t = 74) bq) (by decide) (fun a x hx => UntV.stay (Stay.below (P := fun t => t = 74) bq) ⟨by decide, by decide, by decide, by decide, by decide⟩ a x hx)).stay (GrTo.stay (HG7.out.rd.below bq) hg8) (by decide) (fun a x hx => UntV.stay (GrTo.stay (HG7.out.rd.below bq) hg8) ⟨by decide, by decide, by decide, by decide, by decide⟩ a x hx))
  clear hg8 x8 y8 cb0 cb1 hlb bq hd
  have p0 : w8.cell? ⟨w.heap.size, 0, none⟩ = some (.slice none 0 0) := (cell_at X8.out 0).trans rfl
  have g0 : w8.frozen? ⟨w.heap.size, 0, none⟩ = false := free_at X8.out 0
  have q0 : w8.cell? ⟨w1.heap.size, 0, none⟩ = some (.slice A1 n1 c1) := (cell_at Y8.out 0).trans rfl
  have p1 : w8.cell? ⟨w.heap.size, 1, none⟩ = some (.string ⟨#[]⟩) := (cell_at X8.out 1).trans rfl
  have g1 : w8.frozen? ⟨w.heap.size, 1, none⟩ = false := free_at X8.out 1
  have q1 : w8.cell? ⟨w1.heap.size, 1, none⟩ = some (.string (str m)) := (cell_at Y8.out 1).trans rfl
  have p2 : w8.cell? ⟨w.heap.size, 2, none⟩ = some (.string ⟨#[]⟩) := (cell_at X8.out 2).trans rfl
  have g2 : w8.frozen? ⟨w.heap.size, 2, none⟩ = false := free_at X8.out 2
  have q2 : w8.cell? ⟨w1.heap.size, 2, none⟩ = some (.string (str k)) := (cell_at Y8.out 2).trans rfl
  go_wp2
  have Z := blk3 X8.out (.slice A1 n1 c1) (.string (str m)) (.string (str k))
  have hsz : w8.heap.size ≤ (((w8.setCell ⟨w.heap.size, 0, none⟩ (.slice A1 n1 c1)).setCell ⟨w.heap.size, 1, none⟩ (.string (str m))).setCell ⟨w.heap.size, 2, none⟩ (.string (str k))).heap.size := by simp [World.setCell]
  have hst : Stay (fun t => t = 38) w8 (((w8.setCell ⟨w.heap.size, 0, none⟩ (.slice A1 n1 c1)).setCell ⟨w.heap.size, 1, none⟩ (.string (str m))).setCell ⟨w.heap.size, 2, none⟩ (.string (str k))) := Stay.sets X8.out rfl hsz (fun g hg => by simp only [set_ne hg])
  have z0 := (cell_at Z 0).trans (show _ = some (.slice A1 n1 c1) from rfl)
  have z1 := (cell_at Z 1).trans (show _ = some (.string (str m)) from rfl)
  have z2 := (cell_at Z 2).trans (show _ = some (.string (str k)) from rfl)
  clear p0 g0 q0 p1 g1 q1 p2 g2 q2
  exact bodyPost_ret (v := .agg #[.slice A1 n1 c1, .string (str m), .string (str k)]) (by simp [results, Tryz.results35, go_sem, z0, z1, z2]) rfl (PrgG.of HE.out (F1_8.out.stay hst (by decide) (fun a x hx => UntV.stay hst ⟨by decide, by decide, by decide, by decide, by decide⟩ a x hx)) (((HG8.out.setLocal (by omega) hlt _).setLocal (by omega) hlt _).setLocal (by omega) hlt _))
end Go.Proofs.YtgohhnbdicdenaaGreatDoor.Pg

/- Contracts of layer prog's reader: a program. Conditions: a reader lies in memory. -/
namespace Go.Proofs.YtgohhnbdicdenaaGreatDoor.Pg
open Go.ChangeShapes Go.WideShapes Go.ChangeAt Go.RowKit
open Go.Proofs.YtgohhnbdicdenaaGreatDoor.Ex
open Go.Proofs.YtgohhnbdicdenaaGreatDoor.Tr (str ret_bool ret_int Bytes Nd)
set_option linter.unusedVariables false
set_option linter.unusedSimpArgs false

theorem prog_any (b : Nat) (r : Rd) (w : World) (hr : GrAt w b r) : Calls Tryz.prog 35 #[.pointer (some ⟨b, 0, none⟩)] w (PrgG w b (progP r)) := by
  obtain ⟨⟨us, r1⟩, h1⟩ : ∃ x, rowP atUnitB unitP r = x := ⟨_, rfl⟩
  obtain ⟨r2, h2⟩ : ∃ x, (needP wMain r1).2 = x := ⟨_, rfl⟩
  obtain ⟨⟨m, r3⟩, h3⟩ : ∃ x, nameP r2 = x := ⟨_, rfl⟩
  obtain ⟨r4, h4⟩ : ∃ x, (needP sSemi r3).2 = x := ⟨_, rfl⟩
  obtain ⟨⟨B, r5⟩, h5⟩ : ∃ x, takeP wFallback r4 = x := ⟨_, rfl⟩
  obtain ⟨⟨k, r7⟩, h7⟩ : ∃ x, backP B r5 = x := ⟨_, rfl⟩
  obtain ⟨r8, h8⟩ : ∃ x, (endP r7).2 = x := ⟨_, rfl⟩
  have he : progP r = (⟨us, m, k⟩, r8) := by
    show progG (rowP atUnitB unitP) r = _
    unfold progG
    rw [pb h1, pu h2, pb h3, pu h4, pb h5, pb h7, pu h8]; rfl
  rw [he]
  have hen : ∀ E, decide (r7.next < r7.l.length) = E → r8 = if E then r7.fail 5 else r7 := fun E hE => by
    rw [← h8]; unfold endP
    cases E with
    | true => rw [if_pos (of_decide_eq_true hE)]; rfl
    | false => rw [if_neg (of_decide_eq_false hE)]; rfl
  cases B with
  | false =>
    have hb : k = [] ∧ r7 = r5 := by
      have z : (([] : Bytes), r5) = (k, r7) := h7
      injection z with z1 z2; exact ⟨z1.symm, z2.symm⟩
    obtain ⟨hk, rfl⟩ := hb
    rcases Bool.eq_false_or_eq_true (decide (r7.next < r7.l.length)) with hE | hE
    · exact prog_01 b r w hr us m k r1 r2 r3 r4 r7 r7 r7 _ h1 h2 h3 h4 h5 hk hE (by rw [hen _ hE]; rfl)
    · exact prog_00 b r w hr us m k r1 r2 r3 r4 r7 r7 r7 _ h1 h2 h3 h4 h5 hk hE (by rw [hen _ hE]; rfl)
  | true =>
    obtain ⟨⟨k2, r6⟩, h6⟩ : ∃ x, nameP r5 = x := ⟨_, rfl⟩
    obtain ⟨r9, h9⟩ : ∃ x, (needP sSemi r6).2 = x := ⟨_, rfl⟩
    have hb : k = k2 ∧ r7 = r9 := by
      have z : (k2, r9) = (k, r7) := by
        rw [← h7]
        show _ = pBind nameP (fun n => pBind (needP sSemi) fun _ => pPure n) r5
        rw [pb h6, pu h9]; rfl
      injection z with z1 z2; exact ⟨z1.symm, z2.symm⟩
    obtain ⟨rfl, rfl⟩ := hb
    rcases Bool.eq_false_or_eq_true (decide (r7.next < r7.l.length)) with hE | hE
    · exact prog_11 b r w hr us m k r1 r2 r3 r4 r5 r6 r7 _ h1 h2 h3 h4 h5 h6 h9 hE (by rw [hen _ hE]; rfl)
    · exact prog_10 b r w hr us m k r1 r2 r3 r4 r5 r6 r7 _ h1 h2 h3 h4 h5 h6 h9 hE (by rw [hen _ hE]; rfl)
end Go.Proofs.YtgohhnbdicdenaaGreatDoor.Pg

/- The function Join of layer lex returns the tokens' texts, a blank between any two. Conditions: the slice reads as a list of tokens; the texts together are not too long. -/
namespace Go.Proofs.YtgohhnbdicdenaaGreatDoor.Lx
open Go.ChangeShapes Go.WideShapes Go.ChangeAt Go.RowKit
set_option linter.unusedVariables false

theorem info9 : (Tryz.prog.info? 9).map (fun i => (i.zero, i.size, i.bytes)) = some (some (.string ⟨#[]⟩), 1, 16) := by kernel_rfl

/-- The texts that are laid so far, and empty ones behind them. -/
def laid (l : List Tok) (k : Nat) : List Value := (l.take k).map (fun t => .string (str t.text)) ++ List.replicate (l.length - k) (.string ⟨#[]⟩)
theorem laid_zero (l : List Tok) : laid l 0 = List.replicate l.length (.string ⟨#[]⟩) := by simp [laid]
theorem laid_all (l : List Tok) : laid l l.length = l.map (fun t => .string (str t.text)) := by simp [laid]
theorem laid_set (l : List Tok) (k : Nat) (t : Tok) (h : l[k]? = some t) : (laid l k).set k (.string (str t.text)) = laid l (k + 1) := by
  have hk : k < l.length := (List.getElem?_eq_some_iff.1 h).1
  have e1 : l.length - k = (l.length - (k + 1)) + 1 := by omega
  have e2 : ((l.take k).map (fun t => Value.string (str t.text))).length = k := by simp; omega
  unfold laid
  rw [e1, List.replicate_succ, List.set_append_right _ _ (by rw [e2]; exact Nat.le_refl _), e2, Nat.sub_self, List.set_cons_zero, List.take_add_one, h, List.map_append, List.append_assoc]
  rfl

theorem sjoin_any (g : Nat) (l : List Tok) (b : Nat) (w : World) (hown : w.ownsRow b 9 1 (.slice (some ⟨g, 0, none⟩) l.length l.length) l.length (laid l l.length)) (hn : l.length ≤ 1000000) (hj : (joinM l).length ≤ 140737488355328) :
    Calls Tryz.prog 42 #[.slice (some ⟨g, 0, none⟩) l.length l.length, .string ⟨#[32]⟩] w fun e w' => e = .returned (.string (str (joinM l))) ∧ Below w.heap.size w w' := by
  have hm : (l.map (fun t => str t.text)).map (·.data.toList) = l.map (·.text) := by
    rw [List.map_map]; apply List.map_congr_left; intro t _; exact List.toList_toArray
  have hc : ∀ (j : Nat) x, (l.map (fun t => str t.text))[j]? = some x → w.cell? ⟨g, 0 + j, none⟩ = some (.string x) := fun j x hx => by
    rw [List.getElem?_map] at hx
    cases ht : l[j]? with
    | none => rw [ht] at hx; simp at hx
    | some t =>
      rw [ht] at hx; simp at hx; subst hx
      have hjl : j < l.length := (List.getElem?_eq_some_iff.1 ht).1
      rw [Nat.zero_add, hown.cellAt j (by omega), laid_all, List.getElem?_map, ht]; rfl
  have := Tryz.strings_Join g 0 l.length (l.map (fun t => str t.text)) ⟨#[32]⟩ w hc (hown.lt g rfl).2 (by simp; omega) (by simp) (by rw [hm]; exact hj)
  rw [hm, List.length_map] at this
  exact this
set_option maxHeartbeats 1600000 in
theorem join_any (v : Value) (l : List Tok) (w : World) (hv : Toks w v l) (hn : l.length ≤ 1000000) (hj : (joinM l).length ≤ 140737488355328) :
    Calls Tryz.prog 26 #[v] w fun e w' => e = .returned (.string (str (joinM l))) ∧ Below w.heap.size w w' := by
  obtain ⟨A, c, rfl, h1, h2, hA⟩ := hv
  unfold maxLen at h2
  have HA := Lib.hid hA
  clear hA
  obtain ⟨i0, hi, hz0, hz1, hz2⟩ := info_parts info9
  go_enter Tryz.func26, Tryz.ntmps26
  go_wp2_with (at_make; refine wpList_make_full _ rfl _ _ 66 rfl w.heap.size 9 i0 _ 1 Tryz.underlying66 hi hz0 hz1 _ _ _ _ l.length rfl rfl rfl rfl (by rw [hz2]; omega) (by unfold maxLen; omega) (Nat.le_refl _) ?_)
  intro w1 hown hgrow
  have hb1 : Below w.heap.size w w1 := (Below.refl _ _).grown hgrow (Nat.le_refl _) (fun k hk => by simp at hk)
  have hown0 : w1.ownsRow w.heap.size 9 1 (.slice (some ⟨w.heap.size, 0, none⟩) l.length l.length) l.length (laid l 0) := by
    rw [laid_zero]
    rw [← toList_madeCells_one]; exact hown
  clear hown hgrow
  go_wp2
  go_loopw [11] (fun i wr => ∃ k : Nat, k ≤ l.length ∧ i = .int .i64 k ∧ wr.ownsRow w.heap.size 9 1 (.slice (some ⟨w.heap.size, 0, none⟩) l.length l.length) l.length (laid l k) ∧ Below w.heap.size w wr) (fun i _ => l.length - (intOf i).toNat)
  case atStart => exact ⟨0, Nat.zero_le _, rfl, hown0, hb1⟩
  case round =>
    obtain ⟨k, hk, rfl, hown, hb⟩ := hrel
    clear hown0 hb1
    by_cases hlt : k < l.length
    · obtain ⟨t, ht⟩ : ∃ t, l[k]? = some t := ⟨_, List.getElem?_eq_getElem hlt⟩
      obtain ⟨g, rfl, hg, a0, a1, a2⟩ := HA.out k t ht
      obtain ⟨K, T, P⟩ := t
      simp only at a0 a1 a2
      have hcb := fun o => hb.cell (p := ⟨g, o, none⟩) hg
      have b0 := (hcb _).trans a0
      have b1 := (hcb _).trans a1
      have b2 := (hcb _).trans a2
      have hgz : g < wr.heap.size := Nat.lt_of_lt_of_le hg hb.size
      have hwz := hown.lt _ rfl
      have hwz2 : w.heap.size < wr.heap.size := hwz.2
      have hsc : (laid l k)[k]? = some (.string ⟨#[]⟩) := by
        unfold laid
        rw [List.getElem?_append_right (by simp; omega), List.getElem?_replicate]
        simp; omega
      have c0 := (hown.cellAt k (by omega)).trans hsc
      have f0 := hown.frozenAt k
      have HT := Lib.hid ht
      have HO := Lib.hid hown
      clear ht hown hcb a0 a1 a2 hsc hwz
      go_wp2
      refine ⟨⟨k + 1, by omega, by go_num, ?_, (hb.setCell (Nat.le_refl _) _).alloc (by simpa using Nat.le_of_lt hwz2) _⟩, by simp [intOf]; omega⟩
      have := (HO.out.stored k (.string (str T))).1
      rw [laid_set l k _ HT.out] at this
      exact this.alloc _
    · obtain rfl : k = l.length := by omega
      have HO := Lib.hid hown
      clear hown
      go_wp2_with (go_at_call 42; refine (sjoin_any w.heap.size l _ wr HO.out hn hj).mono ?_; rintro e w2 ⟨rfl, hb2⟩)
      go_ret
      exact ⟨rfl, hb.trans (hb2.mono hb.size)⟩
end Go.Proofs.YtgohhnbdicdenaaGreatDoor.Lx

/- The function live of the statements of layer lex answers true and leaves what was there as it was. Conditions: none. -/
namespace Go.Proofs.YtgohhnbdicdenaaGreatDoor.Lx
open Go.ChangeShapes Go.WideShapes Go.ChangeAt Go.RowKit
set_option linter.unusedVariables false

def s1 : Bytes := [97, 45, 62, 112, 114, 101, 32, 98, 32, 45, 45, 32, 120, 10, 49, 50]
def l1 : List Tok := [⟨1, [97], 0⟩, ⟨4, [45, 62], 1⟩, ⟨3, [112, 114, 101], 3⟩, ⟨1, [98], 7⟩, ⟨2, [49, 50], 14⟩]
/-- What a call of Lex leaves, as a caller reads it. -/
def LexGives (W : World) (l : List Tok) (c a : Int) (e : Ending) (w' : World) : Prop :=
  ∃ v, e = .returned (.tuple #[v, .agg #[.int .i64 c, .int .i64 a]]) ∧ Toks w' v l ∧ Below W.heap.size W w'
theorem LexPost.gives {W : World} {r : Res} {e : Ending} {w' : World} (h : LexPost W r e w') : LexGives W r.toks r.code r.at_ e w' := by
  obtain ⟨v, he, ho, hb⟩ := h
  exact ⟨v, he, Toks.of_own ho, hb⟩
theorem lex_gives (s : ByteArray) (w : World) (h : s.size ≤ maxLen) : Calls Tryz.prog 34 #[.string s] w (LexGives w (lexM s.toList).toks (lexM s.toList).code (lexM s.toList).at_) :=
  (lex_any s w h).mono fun _ _ h => h.gives
theorem app_toList (a b : ByteArray) : (a ++ b).toList = a.toList ++ b.toList := by
  rw [ByteArray.toList_eq, ByteArray.toList_eq, ByteArray.toList_eq, ByteArray.data_append, Array.toList_append]
theorem below_new (w : World) (o : Obj) : Below w.heap.size w (w.alloc o) := (Below.refl _ _).alloc (Nat.le_refl _) _
theorem below_drewN {B : Nat} {a w : World} (h : Below B a w) (n : Nat) : Below B a (w.drewN n) :=
  h.trans { os := rfl, tape := rfl, output := rfl, size := Nat.le_refl _, block := fun _ _ => rfl }

end Go.Proofs.YtgohhnbdicdenaaGreatDoor.Lx

/- The tokens of a source are read within the bounds. Conditions: none. -/
namespace Go.Proofs.YtgohhnbdicdenaaGreatDoor.Ex
open Go.ChangeShapes Go.WideShapes Go.ChangeAt Go.RowKit
open Go.Proofs.YtgohhnbdicdenaaGreatDoor.Tr (str ret_bool ret_int Bytes Nd)
set_option linter.unusedVariables false

theorem chain_text {l : Bytes} {p : Nat} {r : List Tok} (h : Lx.Chain l p r) : ∀ t ∈ r, t.text.length ≤ l.length := by
  induction r generalizing p with
  | nil => intro t ht; simp at ht
  | cons a r ih =>
    intro t ht
    obtain ⟨h1, h2, h3, h4, h5⟩ := h
    rcases List.mem_cons.1 ht with rfl | ht
    · omega
    · exact ih h5 t ht
theorem lex_short {s : Bytes} {l : List Tok} (h : Lx.lexM s = .ok l) : s.length ≤ 100000 := by
  by_cases hs : 100000 < s.length
  · unfold Lx.lexM at h; rw [if_pos hs] at h; cases h
  · omega
theorem okr_of {s : Bytes} {l : List Tok} (h : Lx.lexM s = .ok l) : OkR ⟨l, 0, 0, 0, 0⟩ := by
  have hs := lex_short h
  have hc := (Lx.lexM_chain s hs).1
  have hg := Lx.lexM_good s hs
  rw [h] at hc hg
  have h1 := Lx.chain_len hc (Nat.zero_le _)
  exact ⟨by show l.length ≤ _; simp only [Lx.Res.toks] at h1; omega, by simp, hg, fun t ht => by have := chain_text hc t ht; omega, by simp, fun hc => absurd rfl hc⟩
end Go.Proofs.YtgohhnbdicdenaaGreatDoor.Ex

/- Contract of Read: what it tells. Conditions: the source is no longer than a string can be; the variable of the error of a number's form holds an error or none. -/
namespace Go.Proofs.YtgohhnbdicdenaaGreatDoor.Ex
open Go.ChangeShapes Go.WideShapes Go.ChangeAt Go.RowKit
open Go.Proofs.YtgohhnbdicdenaaGreatDoor.Tr (str ret_bool ret_int Bytes Nd joinM roomM own_block)
set_option linter.unusedVariables false
set_option linter.unusedSimpArgs false

theorem toks_off {w : World} {v : Value} {l : List Tok} (h : Lx.Toks w v l) : TokOff w w.heap.size v l := by
  obtain ⟨A, c, h0, h1, h2, h3⟩ := h
  refine ⟨A, c, h0, h1, h2, fun i t hi => ?_⟩
  obtain ⟨g, e1, e2, e3⟩ := h3 i t hi
  exact ⟨g, e1, e2, e2, e3⟩
end Go.Proofs.YtgohhnbdicdenaaGreatDoor.Ex

/- Contract of layer prog's Parse: a source that has no tokens. Conditions: the source is no longer than a string can be. -/
namespace Go.Proofs.YtgohhnbdicdenaaGreatDoor.Pg
open Go.ChangeShapes Go.WideShapes Go.ChangeAt Go.RowKit
open Go.Proofs.YtgohhnbdicdenaaGreatDoor.Ex
open Go.Proofs.YtgohhnbdicdenaaGreatDoor.Tr (str ret_bool ret_int Bytes Nd)
set_option linter.unusedVariables false
set_option linter.unusedSimpArgs false

/-- What Parse tells. -/
def ParG (w : World) (x : Prg × Int × Int) (e : Ending) (w' : World) : Prop := ∃ uv, e = .returned (.tuple #[.agg #[uv, .string (str x.1.main), .string (str x.1.back)], .agg #[.int .i64 x.2.1, .int .i64 x.2.2]]) ∧ RowR 50 8 UntV w' x.1.units uv ∧ Below w.heap.size w w'
theorem two_new (w : World) (o o' : Obj) : Below w.heap.size w ((w.alloc o).alloc o') ∧ ((w.alloc o).alloc o').heap[w.heap.size]? = some o ∧ ((w.alloc o).alloc o').heap[w.heap.size + 1]? = some o' :=
  ⟨((Below.refl _ _).alloc (Nat.le_refl _) _).alloc (by simp) _, by rw [Below.heap_alloc _ _ _ (by simp)]; exact heap_alloc_new w o, new_blk (by simp)⟩
theorem laid5 {W : World} {X Y : Nat} {T U : TypeId} {u0 u1 u2 t0 t1 : Value} (hX : W.heap[X]? = some (.cells #[u0, u1, u2] T (0, 0))) (hY : W.heap[Y]? = some (.cells #[t0, t1] U (0, 0))) (hne : X ≠ Y) (v0 v1 v2 y0 y1 : Value) :
    (((((W.setCell ⟨X, 0, none⟩ v0).setCell ⟨X, 1, none⟩ v1).setCell ⟨X, 2, none⟩ v2).setCell ⟨Y, 0, none⟩ y0).setCell ⟨Y, 1, none⟩ y1).heap[X]? = some (.cells #[v0, v1, v2] T (0, 0)) ∧
    (((((W.setCell ⟨X, 0, none⟩ v0).setCell ⟨X, 1, none⟩ v1).setCell ⟨X, 2, none⟩ v2).setCell ⟨Y, 0, none⟩ y0).setCell ⟨Y, 1, none⟩ y1).heap[Y]? = some (.cells #[y0, y1] U (0, 0)) :=
  ⟨set_other (set_other (blk3 hX v0 v1 v2) hne) hne, blk2 (set_other (set_other (set_other hY hne.symm) hne.symm) hne.symm) y0 y1⟩
theorem cells5 {W : World} {X Y : Nat} {T U : TypeId} {v0 v1 v2 y0 y1 : Value} (h : W.heap[X]? = some (.cells #[v0, v1, v2] T (0, 0)) ∧ W.heap[Y]? = some (.cells #[y0, y1] U (0, 0))) (o : Obj) :
    ((W.alloc o).cell? ⟨X, 0, none⟩ = some v0 ∧ (W.alloc o).cell? ⟨X, 1, none⟩ = some v1 ∧ (W.alloc o).cell? ⟨X, 2, none⟩ = some v2) ∧ ((W.alloc o).cell? ⟨Y, 0, none⟩ = some y0 ∧ (W.alloc o).cell? ⟨Y, 1, none⟩ = some y1) := by
  have a := (Below.heap_alloc W o X (lt_of_block h.1)).trans h.1
  have b := (Below.heap_alloc W o Y (lt_of_block h.2)).trans h.2
  exact ⟨⟨(cell_at a 0).trans rfl, (cell_at a 1).trans rfl, (cell_at a 2).trans rfl⟩, ⟨(cell_at b 0).trans rfl, (cell_at b 1).trans rfl⟩⟩
theorem below5 {w W : World} {X Y : Nat} (h : Below w.heap.size w W) (hX : w.heap.size ≤ X) (hY : w.heap.size ≤ Y) (v0 v1 v2 y0 y1 : Value) (o : Obj) :
    Below w.heap.size w ((((((W.setCell ⟨X, 0, none⟩ v0).setCell ⟨X, 1, none⟩ v1).setCell ⟨X, 2, none⟩ v2).setCell ⟨Y, 0, none⟩ y0).setCell ⟨Y, 1, none⟩ y1).alloc o) :=
  (((((h.setCell hX _).setCell hX _).setCell hX _).setCell hY _).setCell hY _).alloc (by simp [World.setCell]; exact h.size) _
set_option maxRecDepth 100000 in
set_option maxHeartbeats 8000000 in
theorem parse_bad (S : ByteArray) (w : World) (h : S.size ≤ maxLen) (c a : Int) (hl : Lx.lexM S.toList = .bad c a) (hc : c ≠ 0) : Calls Tryz.prog 20 #[.string S] w (ParG w (progM S.toList)) := by
  have HC : Hid (Calls Tryz.prog 34 #[.string S] ((w.alloc (.cells #[.slice none 0 0, .string ⟨#[]⟩, .string ⟨#[]⟩] 38)).alloc (.cells #[.int .i64 0, .int .i64 0] 33)) (Lx.LexGives ((w.alloc (.cells #[.slice none 0 0, .string ⟨#[]⟩, .string ⟨#[]⟩] 38)).alloc (.cells #[.int .i64 0, .int .i64 0] 33)) [] c a)) := Lib.hid (by
    have := Lx.lex_gives S ((w.alloc (.cells #[.slice none 0 0, .string ⟨#[]⟩, .string ⟨#[]⟩] 38)).alloc (.cells #[.int .i64 0, .int .i64 0] 33)) h; rw [hl] at this; exact this)
  have HE : Hid (progM S.toList = (.none, c, a)) := Lib.hid (by unfold progM; rw [hl])
  have HN := Lib.hid (two_new w (.cells #[.slice none 0 0, .string ⟨#[]⟩, .string ⟨#[]⟩] 38) (.cells #[.int .i64 0, .int .i64 0] 33))
  rw [HE.out]
  have hcd : (c == 0) = false := by rw [beq_eq_false_iff_ne]; exact hc
  clear hl hc h
  go_enter Tryz.func20, Tryz.ntmps20
  go_wp2_with fail
  refine HC.out.mono ?_
  rintro e w1 ⟨v, rfl, ht, hb1⟩
  have HT := Lib.hid ht
  obtain ⟨A, cc, rfl, t1, t2, -⟩ := ht
  unfold maxLen at t2
  have X1 := Lib.hid ((hb1.block _ (lt_of_block HN.out.2.1)).trans HN.out.2.1)
  have Y1 := Lib.hid ((hb1.block _ (lt_of_block HN.out.2.2)).trans HN.out.2.2)
  have HB1 : Hid (Below w.heap.size w w1) := Lib.hid (HN.out.1.trans (hb1.mono HN.out.1.size))
  have lx := lt_of_block X1.out
  have ly := lt_of_block Y1.out
  clear hb1
  have p0 : w1.cell? ⟨w.heap.size, 0, none⟩ = some (.slice none 0 0) := (cell_at X1.out 0).trans rfl
  have p1 : w1.cell? ⟨w.heap.size, 1, none⟩ = some (.string ⟨#[]⟩) := (cell_at X1.out 1).trans rfl
  have p2 : w1.cell? ⟨w.heap.size, 2, none⟩ = some (.string ⟨#[]⟩) := (cell_at X1.out 2).trans rfl
  have q0 : w1.cell? ⟨w.heap.size + 1, 0, none⟩ = some (.int .i64 0) := (cell_at Y1.out 0).trans rfl
  have q1 : w1.cell? ⟨w.heap.size + 1, 1, none⟩ = some (.int .i64 0) := (cell_at Y1.out 1).trans rfl
  have g0 : w1.frozen? ⟨w.heap.size, 0, none⟩ = false := free_at X1.out 0
  have g1 : w1.frozen? ⟨w.heap.size, 1, none⟩ = false := free_at X1.out 1
  have g2 : w1.frozen? ⟨w.heap.size, 2, none⟩ = false := free_at X1.out 2
  have k0 : w1.frozen? ⟨w.heap.size + 1, 0, none⟩ = false := free_at Y1.out 0
  have k1 : w1.frozen? ⟨w.heap.size + 1, 1, none⟩ = false := free_at Y1.out 1
  go_wp2_with fail
  go_region
  all_goals go_wp2
  all_goals
    obtain ⟨⟨z0, z1, z2⟩, ⟨z3, z4⟩⟩ := cells5 (laid5 X1.out Y1.out (by omega) (.slice none 0 0) (.string ⟨#[]⟩) (.string ⟨#[]⟩) (.int .i64 c) (.int .i64 a)) (.cells #[.int .i64 c, .int .i64 a] 33)
    clear p0 p1 p2 q0 q1 g0 g1 g2 k0 k1
    exact bodyPost_ret (v := .tuple #[.agg #[.slice none 0 0, .string ⟨#[]⟩, .string ⟨#[]⟩], .agg #[.int .i64 c, .int .i64 a]]) (by simp [results, Tryz.results20, go_sem, z0, z1, z2, z3, z4]) rfl ⟨_, rfl, RowR.nil _ _ _ _, Tr.below_drewN (n := 1) (below5 HB1.out (Nat.le_refl _) (by omega) _ _ _ _ _ _)⟩
end Go.Proofs.YtgohhnbdicdenaaGreatDoor.Pg

/- Contract of layer prog's Parse: a program, or what is wrong. Conditions: the source is no longer than a string can be. -/
namespace Go.Proofs.YtgohhnbdicdenaaGreatDoor.Pg
open Go.ChangeShapes Go.WideShapes Go.ChangeAt Go.RowKit
open Go.Proofs.YtgohhnbdicdenaaGreatDoor.Ex
open Go.Proofs.YtgohhnbdicdenaaGreatDoor.Tr (str ret_bool ret_int Bytes Nd)
set_option linter.unusedVariables false
set_option linter.unusedSimpArgs false

theorem below_gr {w W w2 : World} {b : Nat} {r : Rd} (h : Below w.heap.size w W) (hb : w.heap.size ≤ b) (g : GrTo W w2 b r) : Below w.heap.size w w2 :=
  ⟨g.grown.os.trans h.os, g.grown.tape.trans h.tape, g.grown.output.trans h.output, Nat.le_trans h.size g.grown.size, fun i hi => (g.grown.block i (Nat.lt_of_lt_of_le hi h.size) (fun e => by injection e with e; omega)).trans (h.block i hi)⟩
theorem toks_gr {w : World} {v : Value} {l : List Tok} (h : Lx.Toks w v l) (o o' : Obj) : TokOff ((w.alloc o).alloc o') (w.heap.size + 1) v l :=
  tok_wide ((toks_off h).keep (w' := (w.alloc o).alloc o') (by simp; omega) (fun g _ hg => by rw [Below.heap_alloc _ _ _ (by simp; omega), Below.heap_alloc _ _ _ hg])) (by omega)
set_option maxRecDepth 100000 in
set_option maxHeartbeats 8000000 in
theorem parse_fault (S : ByteArray) (w : World) (h : S.size ≤ maxLen) (hvar : VarAt w w.heap.size) (l : List Tok) (hl : Lx.lexM S.toList = .ok l) (p : Prg) (r' : Rd) (hp : progP ⟨l, 0, 0, 0, 0⟩ = (p, r')) (hc : r'.code ≠ 0) : Calls Tryz.prog 20 #[.string S] w (ParG w (progM S.toList)) := by
  have HC : Hid (Calls Tryz.prog 34 #[.string S] ((w.alloc (.cells #[.slice none 0 0, .string ⟨#[]⟩, .string ⟨#[]⟩] 38)).alloc (.cells #[.int .i64 0, .int .i64 0] 33)) (Lx.LexGives ((w.alloc (.cells #[.slice none 0 0, .string ⟨#[]⟩, .string ⟨#[]⟩] 38)).alloc (.cells #[.int .i64 0, .int .i64 0] 33)) l 0 0)) := Lib.hid (by
    have := Lx.lex_gives S ((w.alloc (.cells #[.slice none 0 0, .string ⟨#[]⟩, .string ⟨#[]⟩] 38)).alloc (.cells #[.int .i64 0, .int .i64 0] 33)) h; rw [hl] at this; exact this)
  have HE : Hid (progM S.toList = (.none, r'.code, r'.at_)) := Lib.hid (by unfold progM; rw [hl]; simp only; rw [hp]; rw [if_pos hc])
  have HN := Lib.hid (two_new w (.cells #[.slice none 0 0, .string ⟨#[]⟩, .string ⟨#[]⟩] 38) (.cells #[.int .i64 0, .int .i64 0] 33))
  have HV := Lib.hid hvar
  have HOK : Hid (OkG ⟨l, 0, 0, 0, 0⟩) := Lib.hid ⟨okr_of hl, fun hc => absurd rfl hc, .inr (Nat.zero_le _)⟩
  have HP : Hid (∀ (b : Nat) (w' : World), GrAt w' b ⟨l, 0, 0, 0, 0⟩ → Calls Tryz.prog 35 #[.pointer (some ⟨b, 0, none⟩)] w' (PrgG w' b (p, r'))) := Lib.hid (fun b w' h => by rw [← hp]; exact prog_any b _ w' h)
  rw [HE.out]
  have hd : (r'.code == 0) = false := by rw [beq_eq_false_iff_ne]; exact hc
  clear hc
  clear hl hp h hvar
  go_enter Tryz.func20, Tryz.ntmps20
  go_wp2_with fail
  refine HC.out.mono ?_
  rintro e w1 ⟨v, rfl, ht, hb1⟩
  have HT := Lib.hid ht
  obtain ⟨A, cc, rfl, t1, t2, -⟩ := ht
  unfold maxLen at t2
  have X1 := Lib.hid ((hb1.block _ (lt_of_block HN.out.2.1)).trans HN.out.2.1)
  have Y1 := Lib.hid ((hb1.block _ (lt_of_block HN.out.2.2)).trans HN.out.2.2)
  have HB1 : Hid (Below w.heap.size w w1) := Lib.hid (HN.out.1.trans (hb1.mono HN.out.1.size))
  have lx := lt_of_block X1.out
  have ly := lt_of_block Y1.out
  have hs1 := HB1.out.size
  have N2 := Lib.hid (two_new w1 (.cells #[.int .i64 0, .int .i64 0] 33) (.cells #[.slice A l.length cc, .int .i64 0, .int .i64 0, .int .i64 0] 74))
  have HR : Hid (GrAt ((w1.alloc (.cells #[.int .i64 0, .int .i64 0] 33)).alloc (.cells #[.slice A l.length cc, .int .i64 0, .int .i64 0, .int .i64 0] 74)) (w1.heap.size + 1) ⟨l, 0, 0, 0, 0⟩) :=
    Lib.hid ⟨⟨_, N2.out.2.2, toks_gr HT.out _ _⟩, var_wide (HV.out.keep (Nat.le_trans hs1 N2.out.1.size) (fun g h1 h2 => (N2.out.1.block g (by omega)).trans (HB1.out.block g h2))) (by omega), HOK.out⟩
  clear hb1
  go_wp2_with fail
  refine (HP.out _ _ HR.out).mono ?_
  rintro e w2 ⟨uv, rfl, hu, hg⟩
  have HG := Lib.hid hg
  have HB2 := Lib.hid (below_gr (HB1.out.trans (N2.out.1.mono hs1)) (by omega) hg)
  have X2 := Lib.hid (hg.block ((N2.out.1.block _ lx).trans X1.out) (by omega))
  have Y2 := Lib.hid (hg.block ((N2.out.1.block _ ly).trans Y1.out) (by omega))
  have lx2 := lt_of_block X2.out
  have ly2 := lt_of_block Y2.out
  have lb2 := hg.rd.lt
  have HU := Lib.hid hu
  obtain ⟨A3, n3, c3, rfl, u1, u2⟩ := row_form hu
  obtain ⟨lv, ke, -⟩ := hg.rd.blk
  have b2 : w2.cell? ⟨w1.heap.size + 1, 2, none⟩ = some (.int .i64 r'.code) := gr_cell ke 2
  have b3 : w2.cell? ⟨w1.heap.size + 1, 3, none⟩ = some (.int .i64 r'.at_) := gr_cell ke 3
  have p0 : w2.cell? ⟨w.heap.size, 0, none⟩ = some (.slice none 0 0) := (cell_at X2.out 0).trans rfl
  have p1 : w2.cell? ⟨w.heap.size, 1, none⟩ = some (.string ⟨#[]⟩) := (cell_at X2.out 1).trans rfl
  have p2 : w2.cell? ⟨w.heap.size, 2, none⟩ = some (.string ⟨#[]⟩) := (cell_at X2.out 2).trans rfl
  have q0 : w2.cell? ⟨w.heap.size + 1, 0, none⟩ = some (.int .i64 0) := (cell_at Y2.out 0).trans rfl
  have q1 : w2.cell? ⟨w.heap.size + 1, 1, none⟩ = some (.int .i64 0) := (cell_at Y2.out 1).trans rfl
  have g0 : w2.frozen? ⟨w.heap.size, 0, none⟩ = false := free_at X2.out 0
  have g1 : w2.frozen? ⟨w.heap.size, 1, none⟩ = false := free_at X2.out 1
  have g2 : w2.frozen? ⟨w.heap.size, 2, none⟩ = false := free_at X2.out 2
  have k0 : w2.frozen? ⟨w.heap.size + 1, 0, none⟩ = false := free_at Y2.out 0
  have k1 : w2.frozen? ⟨w.heap.size + 1, 1, none⟩ = false := free_at Y2.out 1
  have hxb : w.heap.size ≠ w1.heap.size + 1 := by omega
  have hyb : w.heap.size + 1 ≠ w1.heap.size + 1 := by omega
  clear hu hg ke
  go_wp2
  go_region
  all_goals go_wp2
  all_goals
    obtain ⟨⟨z0, z1, z2⟩, ⟨z3, z4⟩⟩ := cells5 (laid5 X2.out Y2.out (by omega) (.slice none 0 0) (.string ⟨#[]⟩) (.string ⟨#[]⟩) (.int .i64 r'.code) (.int .i64 r'.at_)) (.cells #[.slice A3 n3 c3, .string (str p.main), .string (str p.back)] 38)
    clear p0 p1 p2 q0 q1 g0 g1 g2 k0 k1 b2 b3
    exact bodyPost_ret (v := .tuple #[.agg #[.slice none 0 0, .string ⟨#[]⟩, .string ⟨#[]⟩], .agg #[.int .i64 r'.code, .int .i64 r'.at_]]) (by simp [results, Tryz.results20, go_sem, z0, z1, z2, z3, z4]) rfl ⟨_, rfl, RowR.nil _ _ _ _, Tr.below_drewN (n := 1) (below5 HB2.out (Nat.le_refl _) (by omega) _ _ _ _ _ _)⟩
end Go.Proofs.YtgohhnbdicdenaaGreatDoor.Pg

/- Contract of layer prog's Parse: a program, or what is wrong. Conditions: the source is no longer than a string can be. -/
namespace Go.Proofs.YtgohhnbdicdenaaGreatDoor.Pg
open Go.ChangeShapes Go.WideShapes Go.ChangeAt Go.RowKit
open Go.Proofs.YtgohhnbdicdenaaGreatDoor.Ex
open Go.Proofs.YtgohhnbdicdenaaGreatDoor.Tr (str ret_bool ret_int Bytes Nd)
set_option linter.unusedVariables false
set_option linter.unusedSimpArgs false

theorem stay5 {W : World} {X Y : Nat} {u0 u1 u2 t0 t1 : Value} (hX : W.heap[X]? = some (.cells #[u0, u1, u2] 38 (0, 0))) (hY : W.heap[Y]? = some (.cells #[t0, t1] 33 (0, 0))) (v0 v1 v2 y0 y1 : Value) (o : Obj) :
    Stay (fun t => t = 38 ∨ t = 33) W ((((((W.setCell ⟨X, 0, none⟩ v0).setCell ⟨X, 1, none⟩ v1).setCell ⟨X, 2, none⟩ v2).setCell ⟨Y, 0, none⟩ y0).setCell ⟨Y, 1, none⟩ y1).alloc o) := by
  refine ⟨by simp [World.setCell], fun g cs T f hg hp => ?_⟩
  have h1 : g ≠ X := by
    rintro rfl
    rw [hX] at hg
    simp only [Option.some.injEq, Obj.cells.injEq] at hg
    exact hp (.inl hg.2.1.symm)
  have h2 : g ≠ Y := by
    rintro rfl
    rw [hY] at hg
    simp only [Option.some.injEq, Obj.cells.injEq] at hg
    exact hp (.inr hg.2.1.symm)
  rw [Below.heap_alloc _ _ _ (by simp [World.setCell]; exact lt_of_block hg)]
  simp only [set_ne h1, set_ne h2]
set_option maxRecDepth 100000 in
set_option maxHeartbeats 8000000 in
theorem parse_okay (S : ByteArray) (w : World) (h : S.size ≤ maxLen) (hvar : VarAt w w.heap.size) (l : List Tok) (hl : Lx.lexM S.toList = .ok l) (p : Prg) (r' : Rd) (hp : progP ⟨l, 0, 0, 0, 0⟩ = (p, r')) (hc : r'.code = 0) : Calls Tryz.prog 20 #[.string S] w (ParG w (progM S.toList)) := by
  have HC : Hid (Calls Tryz.prog 34 #[.string S] ((w.alloc (.cells #[.slice none 0 0, .string ⟨#[]⟩, .string ⟨#[]⟩] 38)).alloc (.cells #[.int .i64 0, .int .i64 0] 33)) (Lx.LexGives ((w.alloc (.cells #[.slice none 0 0, .string ⟨#[]⟩, .string ⟨#[]⟩] 38)).alloc (.cells #[.int .i64 0, .int .i64 0] 33)) l 0 0)) := Lib.hid (by
    have := Lx.lex_gives S ((w.alloc (.cells #[.slice none 0 0, .string ⟨#[]⟩, .string ⟨#[]⟩] 38)).alloc (.cells #[.int .i64 0, .int .i64 0] 33)) h; rw [hl] at this; exact this)
  have HE : Hid (progM S.toList = (p, 0, 0)) := Lib.hid (by unfold progM; rw [hl]; simp only; rw [hp]; rw [if_neg (by simpa using hc)])
  have HN := Lib.hid (two_new w (.cells #[.slice none 0 0, .string ⟨#[]⟩, .string ⟨#[]⟩] 38) (.cells #[.int .i64 0, .int .i64 0] 33))
  have HV := Lib.hid hvar
  have HOK : Hid (OkG ⟨l, 0, 0, 0, 0⟩) := Lib.hid ⟨okr_of hl, fun hc => absurd rfl hc, .inr (Nat.zero_le _)⟩
  have HP : Hid (∀ (b : Nat) (w' : World), GrAt w' b ⟨l, 0, 0, 0, 0⟩ → Calls Tryz.prog 35 #[.pointer (some ⟨b, 0, none⟩)] w' (PrgG w' b (p, r'))) := Lib.hid (fun b w' h => by rw [← hp]; exact prog_any b _ w' h)
  rw [HE.out]
  have hd : (r'.code == 0) = true := by simpa using hc
  clear hc
  clear hl hp h hvar
  go_enter Tryz.func20, Tryz.ntmps20
  go_wp2_with fail
  refine HC.out.mono ?_
  rintro e w1 ⟨v, rfl, ht, hb1⟩
  have HT := Lib.hid ht
  obtain ⟨A, cc, rfl, t1, t2, -⟩ := ht
  unfold maxLen at t2
  have X1 := Lib.hid ((hb1.block _ (lt_of_block HN.out.2.1)).trans HN.out.2.1)
  have Y1 := Lib.hid ((hb1.block _ (lt_of_block HN.out.2.2)).trans HN.out.2.2)
  have HB1 : Hid (Below w.heap.size w w1) := Lib.hid (HN.out.1.trans (hb1.mono HN.out.1.size))
  have lx := lt_of_block X1.out
  have ly := lt_of_block Y1.out
  have hs1 := HB1.out.size
  have N2 := Lib.hid (two_new w1 (.cells #[.int .i64 0, .int .i64 0] 33) (.cells #[.slice A l.length cc, .int .i64 0, .int .i64 0, .int .i64 0] 74))
  have HR : Hid (GrAt ((w1.alloc (.cells #[.int .i64 0, .int .i64 0] 33)).alloc (.cells #[.slice A l.length cc, .int .i64 0, .int .i64 0, .int .i64 0] 74)) (w1.heap.size + 1) ⟨l, 0, 0, 0, 0⟩) :=
    Lib.hid ⟨⟨_, N2.out.2.2, toks_gr HT.out _ _⟩, var_wide (HV.out.keep (Nat.le_trans hs1 N2.out.1.size) (fun g h1 h2 => (N2.out.1.block g (by omega)).trans (HB1.out.block g h2))) (by omega), HOK.out⟩
  clear hb1
  go_wp2_with fail
  refine (HP.out _ _ HR.out).mono ?_
  rintro e w2 ⟨uv, rfl, hu, hg⟩
  have HG := Lib.hid hg
  have HB2 := Lib.hid (below_gr (HB1.out.trans (N2.out.1.mono hs1)) (by omega) hg)
  have X2 := Lib.hid (hg.block ((N2.out.1.block _ lx).trans X1.out) (by omega))
  have Y2 := Lib.hid (hg.block ((N2.out.1.block _ ly).trans Y1.out) (by omega))
  have lx2 := lt_of_block X2.out
  have ly2 := lt_of_block Y2.out
  have lb2 := hg.rd.lt
  have HU := Lib.hid hu
  obtain ⟨A3, n3, c3, rfl, u1, u2⟩ := row_form hu
  obtain ⟨lv, ke, -⟩ := hg.rd.blk
  have b2 : w2.cell? ⟨w1.heap.size + 1, 2, none⟩ = some (.int .i64 r'.code) := gr_cell ke 2
  have b3 : w2.cell? ⟨w1.heap.size + 1, 3, none⟩ = some (.int .i64 r'.at_) := gr_cell ke 3
  have p0 : w2.cell? ⟨w.heap.size, 0, none⟩ = some (.slice none 0 0) := (cell_at X2.out 0).trans rfl
  have p1 : w2.cell? ⟨w.heap.size, 1, none⟩ = some (.string ⟨#[]⟩) := (cell_at X2.out 1).trans rfl
  have p2 : w2.cell? ⟨w.heap.size, 2, none⟩ = some (.string ⟨#[]⟩) := (cell_at X2.out 2).trans rfl
  have q0 : w2.cell? ⟨w.heap.size + 1, 0, none⟩ = some (.int .i64 0) := (cell_at Y2.out 0).trans rfl
  have q1 : w2.cell? ⟨w.heap.size + 1, 1, none⟩ = some (.int .i64 0) := (cell_at Y2.out 1).trans rfl
  have g0 : w2.frozen? ⟨w.heap.size, 0, none⟩ = false := free_at X2.out 0
  have g1 : w2.frozen? ⟨w.heap.size, 1, none⟩ = false := free_at X2.out 1
  have g2 : w2.frozen? ⟨w.heap.size, 2, none⟩ = false := free_at X2.out 2
  have k0 : w2.frozen? ⟨w.heap.size + 1, 0, none⟩ = false := free_at Y2.out 0
  have k1 : w2.frozen? ⟨w.heap.size + 1, 1, none⟩ = false := free_at Y2.out 1
  have hxb : w.heap.size ≠ w1.heap.size + 1 := by omega
  have hyb : w.heap.size + 1 ≠ w1.heap.size + 1 := by omega
  clear hu hg ke
  go_wp2
  obtain ⟨⟨z0, z1, z2⟩, ⟨z3, z4⟩⟩ := cells5 (laid5 X2.out Y2.out (by omega) (.slice A3 n3 c3) (.string (str p.main)) (.string (str p.back)) (.int .i64 0) (.int .i64 0)) (.cells #[.slice A3 n3 c3, .string (str p.main), .string (str p.back)] 38)
  clear p0 p1 p2 q0 q1 g0 g1 g2 k0 k1 b2 b3
  have hst : Stay (fun t => t = 38 ∨ t = 33) w2 ((((((w2.setCell ⟨w.heap.size, 0, none⟩ (.slice A3 n3 c3)).setCell ⟨w.heap.size, 1, none⟩ (.string (str p.main))).setCell ⟨w.heap.size, 2, none⟩ (.string (str p.back))).setCell ⟨w.heap.size + 1, 0, none⟩ (.int .i64 0)).setCell ⟨w.heap.size + 1, 1, none⟩ (.int .i64 0)).alloc (.cells #[.slice A3 n3 c3, .string (str p.main), .string (str p.back)] 38)) :=
    stay5 X2.out Y2.out _ _ _ _ _ _
  exact bodyPost_ret (v := .tuple #[.agg #[.slice A3 n3 c3, .string (str p.main), .string (str p.back)], .agg #[.int .i64 0, .int .i64 0]]) (by simp [results, Tryz.results20, go_sem, z0, z1, z2, z3, z4]) rfl ⟨_, rfl, HU.out.stay hst (by decide) (fun a x hx => UntV.stay hst ⟨by decide, by decide, by decide, by decide, by decide⟩ a x hx), below5 HB2.out (Nat.le_refl _) (by omega) _ _ _ _ _ _⟩
end Go.Proofs.YtgohhnbdicdenaaGreatDoor.Pg

/- Contract of layer prog's Parse: what it tells. Conditions: the source is no longer than a string can be. -/
namespace Go.Proofs.YtgohhnbdicdenaaGreatDoor.Pg
open Go.ChangeShapes Go.WideShapes Go.ChangeAt Go.RowKit
open Go.Proofs.YtgohhnbdicdenaaGreatDoor.Ex
open Go.Proofs.YtgohhnbdicdenaaGreatDoor.Tr (str ret_bool ret_int Bytes Nd)
set_option linter.unusedVariables false
set_option linter.unusedSimpArgs false

theorem prog_parse (S : ByteArray) (w : World) (h : S.size ≤ maxLen) (hvar : VarAt w w.heap.size) : Calls Tryz.prog 20 #[.string S] w (ParG w (progM S.toList)) := by
  cases hl : Lx.lexM S.toList with
  | bad c a =>
    refine parse_bad S w h c a hl ?_
    by_cases hs : 100000 < S.toList.length
    · unfold Lx.lexM at hl; rw [if_pos hs] at hl; cases hl; decide
    · exact (Lx.lexM_code _ (by omega) c a hl).1
  | ok l =>
    obtain ⟨⟨p, r'⟩, hp⟩ : ∃ x, progP ⟨l, 0, 0, 0, 0⟩ = x := ⟨_, rfl⟩
    by_cases hc : r'.code = 0
    · exact parse_okay S w h hvar l hl p r' hp hc
    · exact parse_fault S w h hvar l hl p r' hp hc
end Go.Proofs.YtgohhnbdicdenaaGreatDoor.Pg

