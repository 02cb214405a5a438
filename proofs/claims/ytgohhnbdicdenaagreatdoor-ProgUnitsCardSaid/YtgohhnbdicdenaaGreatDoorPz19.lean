/- The document's comparisons of layer prog, of what is the same: units, programs. Conditions: slices are read as lists. -/
import Derived.Test.YtgohhnbdicdenaaGreatDoorPz18
import Derived.Test.YtgohhnbdicdenaaGreatDoorPz09
import Derived.Deep.RegionHeld3
namespace Go.Proofs.YtgohhnbdicdenaaGreatDoor.Pg
open Go.ChangeShapes Go.WideShapes Go.ChangeAt Go.RowKit
open Go.Proofs.YtgohhnbdicdenaaGreatDoor.Ex
open Go.Proofs.YtgohhnbdicdenaaGreatDoor.Tr (str ret_bool ret_int Bytes Nd)
set_option linter.unusedVariables false
set_option linter.unusedSimpArgs false

attribute [local go_sem ↓] neq_prm eql_prm guard_prm
theorem blocks_two (w : World) (o o' : Obj) : ((w.alloc o).alloc o').heap[w.heap.size]? = some o ∧ ((w.alloc o).alloc o').heap[w.heap.size + 1]? = some o' :=
  ⟨by rw [Below.heap_alloc _ _ _ (by simp)]; exact heap_alloc_new w o, by have h := heap_alloc_new (w.alloc o) o'; simpa using h⟩
theorem below_twice (w : World) (o o' : Obj) : Below w.heap.size w ((w.alloc o).alloc o') := ((Below.refl _ _).alloc (Nat.le_refl _) _).alloc (by simp) _
/-- In what two units lie while they are compared. -/
structure UAt (w wr : World) (a b : Array Value) : Prop where
  low : Below w.heap.size w wr
  one : wr.heap[w.heap.size]? = some (.cells a 50 (0, 0))
  two : wr.heap[w.heap.size + 1]? = some (.cells b 50 (0, 0))
theorem UAt.start (w : World) (a b : Array Value) (n : Nat) : UAt w (((w.alloc (.cells a 50)).alloc (.cells b 50)).drewN n) a b :=
  ⟨Tr.below_drewN (below_twice w _ _) n, (blocks_two w _ _).1, (blocks_two w _ _).2⟩
theorem UAt.drewN {w wr : World} {a b : Array Value} (h : UAt w wr a b) (n : Nat) : UAt w (wr.drewN n) a b := ⟨Tr.below_drewN h.low n, h.one, h.two⟩
theorem UAt.two_ {w wr : World} {a b : Array Value} (h : UAt w wr a b) (o o' : Obj) : UAt w ((wr.alloc o).alloc o') a b :=
  ⟨(h.low.alloc h.low.size _).alloc (by simp; have := h.low.size; omega) _, ((below_twice wr o o').block _ (lt_of_block h.one)).trans h.one, ((below_twice wr o o').block _ (lt_of_block h.two)).trans h.two⟩
set_option maxRecDepth 100000 in
set_option maxHeartbeats 8000000 in
theorem unit_eq (con : Bool) (nm on : Bytes) (ot : Int) (ins vars : List Prm) (eqs : List Eqn) (items : List Itm) (i1 v1 q1 l1 i2 v2 q2 l2 : Value) (w : World)
    (a1 : RowR 46 2 PrmV w ins i1) (a2 : RowR 46 2 PrmV w vars v1) (a3 : RowR 78 2 EqnV w eqs q1) (a4 : RowR 72 6 ItmV w items l1)
    (b1 : RowR 46 2 PrmV w ins i2) (b2 : RowR 46 2 PrmV w vars v2) (b3 : RowR 78 2 EqnV w eqs q2) (b4 : RowR 72 6 ItmV w items l2) :
    Calls Tryz.prog 23 #[.agg #[.bool con, .string (str nm), i1, .string (str on), .int .i64 ot, v1, q1, l1], .agg #[.bool con, .string (str nm), i2, .string (str on), .int .i64 ot, v2, q2, l2]] w fun e w' => e = .returned (.bool true) ∧ Below w.heap.size w w' := by
  have HA1 := Lib.hid a1
  have HA2 := Lib.hid a2
  have HA3 := Lib.hid a3
  have HA4 := Lib.hid a4
  have HB1 := Lib.hid b1
  have HB2 := Lib.hid b2
  have HB3 := Lib.hid b3
  have HB4 := Lib.hid b4
  obtain ⟨A1, c1, rfl, x1, y1, -⟩ := a1
  obtain ⟨A2, c2, rfl, x2, y2, -⟩ := a2
  obtain ⟨A3, c3, rfl, x3, y3, hA3⟩ := a3
  obtain ⟨A4, c4, rfl, x4, y4, hA4⟩ := a4
  obtain ⟨B1, d1, rfl, z1, t1, -⟩ := b1
  obtain ⟨B2, d2, rfl, z2, t2, -⟩ := b2
  obtain ⟨B3, d3, rfl, z3, t3, hB3⟩ := b3
  obtain ⟨B4, d4, rfl, z4, t4, hB4⟩ := b4
  have KA3 := Lib.hid hA3
  have KA4 := Lib.hid hA4
  have KB3 := Lib.hid hB3
  have KB4 := Lib.hid hB4
  unfold maxLen at y1 y2 y3 y4 t1 t2 t3 t4
  clear hA3 hA4 hB3 hB4
  have e1 : (!(str nm).toList == (str nm).toList) = false := by simp
  have e2 : prmB (str on) (str on) ot ot = true := prmB_self _ _
  have e3 : ((eqs.length : Int) != (eqs.length : Int)) = false := by simp
  have e4 : ((items.length : Int) != (items.length : Int)) = false := by simp
  have e5 : (con != con) = false := by simp
  have e6 : (!con == con) = false := by simp
  have HB0 := Lib.hid (below_twice w (.cells #[.bool con, .string (str nm), .slice A1 ins.length c1, .string (str on), .int .i64 ot, .slice A2 vars.length c2, .slice A3 eqs.length c3, .slice A4 items.length c4] 50) (.cells #[.bool con, .string (str nm), .slice B1 ins.length d1, .string (str on), .int .i64 ot, .slice B2 vars.length d2, .slice B3 eqs.length d3, .slice B4 items.length d4] 50))
  have st := fun (P : World → Prop) (h : P w) => h
  go_enter Tryz.func23, Tryz.ntmps23
  go_wp2_with fail
  refine (params_eq ins _ _ _ (HA1.out.stay (Stay.below (P := fun _ => False) HB0.out) (fun h => h) (fun a x h => h)) (HB1.out.stay (Stay.below (P := fun _ => False) HB0.out) (fun h => h) (fun a x h => h))).mono ?_
  rintro e w1 ⟨rfl, n1, rfl⟩
  go_wp2_with fail
  refine (params_eq vars _ _ _ ((HA2.out.stay (Stay.below (P := fun _ => False) HB0.out) (fun h => h) (fun a x h => h)).drewN n1 (fun a x h => h)) ((HB2.out.stay (Stay.below (P := fun _ => False) HB0.out) (fun h => h) (fun a x h => h)).drewN n1 (fun a x h => h))).mono ?_
  rintro e w2 ⟨rfl, n2, rfl⟩
  clear HB0
  go_wp2
  go_loopw [5] (fun i wr => ∃ k : Nat, k ≤ eqs.length ∧ i = .int .i64 k ∧ UAt w wr #[.bool con, .string (str nm), .slice A1 ins.length c1, .string (str on), .int .i64 ot, .slice A2 vars.length c2, .slice A3 eqs.length c3, .slice A4 items.length c4] #[.bool con, .string (str nm), .slice B1 ins.length d1, .string (str on), .int .i64 ot, .slice B2 vars.length d2, .slice B3 eqs.length d3, .slice B4 items.length d4]) (fun i _ => eqs.length - (intOf i).toNat)
  case atStart => exact ⟨0, Nat.zero_le _, rfl, UAt.start w _ _ _⟩
  case round =>
    obtain ⟨k, hk, rfl, hu⟩ := hrel
    have HU := Lib.hid hu
    have la := lt_of_block hu.one
    have lb := lt_of_block hu.two
    have ca : wr.cell? ⟨w.heap.size, 6, none⟩ = some (.slice A3 eqs.length c3) := (at_cell hu.one 6).trans rfl
    have cb : wr.cell? ⟨w.heap.size + 1, 6, none⟩ = some (.slice B3 eqs.length d3) := (at_cell hu.two 6).trans rfl
    have da : wr.cell? ⟨w.heap.size, 7, none⟩ = some (.slice A4 items.length c4) := (at_cell hu.one 7).trans rfl
    have db : wr.cell? ⟨w.heap.size + 1, 7, none⟩ = some (.slice B4 items.length d4) := (at_cell hu.two 7).trans rfl
    clear hu
    by_cases hlt : k < eqs.length
    · obtain ⟨p, hp⟩ : ∃ p, eqs[k]? = some p := ⟨_, List.getElem?_eq_getElem hlt⟩
      obtain ⟨g, x, cs, f, rfl, g1, ⟨eu, rfl, pu⟩, -, g3⟩ := KA3.out k p hp
      obtain ⟨g', x', cs', f', rfl, k1, ⟨ev, rfl, pv⟩, -, k3⟩ := KB3.out k p hp
      have hwg := (HU.out.low.block g (lt_of_block g1)).trans g1
      have hwg' := (HU.out.low.block g' (lt_of_block k1)).trans k1
      have hg := lt_of_block hwg
      have hg' := lt_of_block hwg'
      have u0 : wr.cell? ⟨g, k * 2, none⟩ = some (.string (str p.name)) := (at_cell hwg _).trans (g3 0 (by decide))
      have u1 : wr.cell? ⟨g, k * 2 + 1, none⟩ = some eu := (at_cell hwg _).trans (g3 1 (by decide))
      have s0 : wr.cell? ⟨g', k * 2, none⟩ = some (.string (str p.name)) := (at_cell hwg' _).trans (k3 0 (by decide))
      have s1 : wr.cell? ⟨g', k * 2 + 1, none⟩ = some ev := (at_cell hwg' _).trans (k3 1 (by decide))
      have hq : (!(str p.name).toList == (str p.name).toList) = false := by simp
      have PU := Lib.hid (pu.below HU.out.low)
      have PV := Lib.hid (pv.below HU.out.low)
      clear g1 g3 k1 k3 hp pu pv hwg hwg'
      go_wp2
      go_quiet ((go_at_call 37; exact Calls.quiet_of (same_eq (PtW.drewN PU.out _) (PtW.drewN PV.out _))))
      go_wp2
      go_roundw
      case rel => exact ⟨k + 1, by omega, by go_num, HU.out.drewN _⟩
      case measure => simp [intOf]; omega
    · clear KA3 KB3
      go_wp2
      go_loopw [6] (fun i wr2 => ∃ k : Nat, k ≤ items.length ∧ i = .int .i64 k ∧ UAt w wr2 #[.bool con, .string (str nm), .slice A1 ins.length c1, .string (str on), .int .i64 ot, .slice A2 vars.length c2, .slice A3 eqs.length c3, .slice A4 items.length c4] #[.bool con, .string (str nm), .slice B1 ins.length d1, .string (str on), .int .i64 ot, .slice B2 vars.length d2, .slice B3 eqs.length d3, .slice B4 items.length d4]) (fun i _ => items.length - (intOf i).toNat)
      case atStart => exact ⟨0, Nat.zero_le _, rfl, HU.out⟩
      case round =>
        clear HU la lb ca cb da db
        obtain ⟨m, hm, rfl, hu⟩ := hrel
        have HV := Lib.hid hu
        have la := lt_of_block hu.one
        have lb := lt_of_block hu.two
        have da : wr.cell? ⟨w.heap.size, 7, none⟩ = some (.slice A4 items.length c4) := (at_cell hu.one 7).trans rfl
        have db : wr.cell? ⟨w.heap.size + 1, 7, none⟩ = some (.slice B4 items.length d4) := (at_cell hu.two 7).trans rfl
        clear hu
        by_cases hlt2 : m < items.length
        · obtain ⟨p, hp⟩ : ∃ p, items[m]? = some p := ⟨_, List.getElem?_eq_getElem hlt2⟩
          obtain ⟨g, x, cs, f, rfl, g1, ⟨eu, fu, au, rfl, pu, qu, ru⟩, -, g3⟩ := KA4.out m p hp
          obtain ⟨g', x', cs', f', rfl, k1, ⟨ev, fv, av, rfl, pv, qv, rv⟩, -, k3⟩ := KB4.out m p hp
          obtain ⟨E1, f1, h1, rfl, -, -⟩ := pt_form pu
          obtain ⟨E2, f2, h2, rfl, -, -⟩ := pt_form qu
          obtain ⟨E3, f3, h3, rfl, -, -⟩ := row_form ru
          obtain ⟨F1, j1, i1, rfl, -, -⟩ := pt_form pv
          obtain ⟨F2, j2, i2, rfl, -, -⟩ := pt_form qv
          obtain ⟨F3, j3, i3, rfl, -, -⟩ := row_form rv
          have hwg := (HV.out.low.block g (lt_of_block g1)).trans g1
          have hwg' := (HV.out.low.block g' (lt_of_block k1)).trans k1
          have hg := lt_of_block hwg
          have hg' := lt_of_block hwg'
          have u0 : wr.cell? ⟨g, m * 6, none⟩ = some (.int .i64 p.kind) := (at_cell hwg _).trans (g3 0 (by decide))
          have u1 : wr.cell? ⟨g, m * 6 + 1, none⟩ = some (.string (str p.name)) := (at_cell hwg _).trans (g3 1 (by decide))
          have u2 : wr.cell? ⟨g, m * 6 + 2, none⟩ = some (.int .i64 p.ty) := (at_cell hwg _).trans (g3 2 (by decide))
          have u3 : wr.cell? ⟨g, m * 6 + 3, none⟩ = some (.slice E1 f1 h1) := (at_cell hwg _).trans (g3 3 (by decide))
          have u4 : wr.cell? ⟨g, m * 6 + 4, none⟩ = some (.slice E2 f2 h2) := (at_cell hwg _).trans (g3 4 (by decide))
          have u5 : wr.cell? ⟨g, m * 6 + 5, none⟩ = some (.slice E3 f3 h3) := (at_cell hwg _).trans (g3 5 (by decide))
          have s0 : wr.cell? ⟨g', m * 6, none⟩ = some (.int .i64 p.kind) := (at_cell hwg' _).trans (k3 0 (by decide))
          have s1 : wr.cell? ⟨g', m * 6 + 1, none⟩ = some (.string (str p.name)) := (at_cell hwg' _).trans (k3 1 (by decide))
          have s2 : wr.cell? ⟨g', m * 6 + 2, none⟩ = some (.int .i64 p.ty) := (at_cell hwg' _).trans (k3 2 (by decide))
          have s3 : wr.cell? ⟨g', m * 6 + 3, none⟩ = some (.slice F1 j1 i1) := (at_cell hwg' _).trans (k3 3 (by decide))
          have s4 : wr.cell? ⟨g', m * 6 + 4, none⟩ = some (.slice F2 j2 i2) := (at_cell hwg' _).trans (k3 4 (by decide))
          have s5 : wr.cell? ⟨g', m * 6 + 5, none⟩ = some (.slice F3 j3 i3) := (at_cell hwg' _).trans (k3 5 (by decide))
          have hq : (!(str p.name).toList == (str p.name).toList) = false := by simp
          have hq1 : (p.kind != p.kind) = false := by simp
          have hq2 : (p.ty != p.ty) = false := by simp
          have HD := Lib.hid (below_twice wr (.cells #[.int .i64 p.kind, .string (str p.name), .int .i64 p.ty, .slice E1 f1 h1, .slice E2 f2 h2, .slice E3 f3 h3] 72) (.cells #[.int .i64 p.kind, .string (str p.name), .int .i64 p.ty, .slice F1 j1 i1, .slice F2 j2 i2, .slice F3 j3 i3] 72))
          have HV2 := Lib.hid (HV.out.two_ (.cells #[.int .i64 p.kind, .string (str p.name), .int .i64 p.ty, .slice E1 f1 h1, .slice E2 f2 h2, .slice E3 f3 h3] 72) (.cells #[.int .i64 p.kind, .string (str p.name), .int .i64 p.ty, .slice F1 j1 i1, .slice F2 j2 i2, .slice F3 j3 i3] 72))
          have PU := Lib.hid ((pu.below HV.out.low).below HD.out)
          have PV := Lib.hid ((pv.below HV.out.low).below HD.out)
          have QU := Lib.hid ((qu.below HV.out.low).below HD.out)
          have QV := Lib.hid ((qv.below HV.out.low).below HD.out)
          have RU := Lib.hid ((ru.stay (Stay.below (P := fun _ => False) HV.out.low) (fun h => h) (ExpV.stay (Stay.below (P := fun _ => False) HV.out.low) (fun h => h))).stay (Stay.below (P := fun _ => False) HD.out) (fun h => h) (ExpV.stay (Stay.below (P := fun _ => False) HD.out) (fun h => h)))
          have RV := Lib.hid ((rv.stay (Stay.below (P := fun _ => False) HV.out.low) (fun h => h) (ExpV.stay (Stay.below (P := fun _ => False) HV.out.low) (fun h => h))).stay (Stay.below (P := fun _ => False) HD.out) (fun h => h) (ExpV.stay (Stay.below (P := fun _ => False) HD.out) (fun h => h)))
          clear g1 g3 k1 k3 hp pu pv qu qv ru rv hwg hwg'
          go_wp2_with fail
          refine (same_eq PU.out PV.out).mono ?_
          rintro e w3 ⟨rfl, n3, rfl⟩
          go_wp2_with fail
          refine (same_eq (PtW.drewN QU.out _) (PtW.drewN QV.out _)).mono ?_
          rintro e w4 ⟨rfl, n4, rfl⟩
          go_wp2_with fail
          refine (exprs_eq p.args _ _ _ (by first | exact RU.out.drewN _ (fun a x h => h) | exact (RU.out.drewN _ (fun a x h => h)).drewN _ (fun a x h => h)) (by first | exact RV.out.drewN _ (fun a x h => h) | exact (RV.out.drewN _ (fun a x h => h)).drewN _ (fun a x h => h))).mono ?_
          rintro e w5 ⟨rfl, n5, rfl⟩
          go_wp2
          go_roundw
          case rel => exact ⟨m + 1, by omega, by go_num, by first | exact HV2.out.drewN _ | exact (HV2.out.drewN _).drewN _ | exact ((HV2.out.drewN _).drewN _).drewN _⟩
          case measure => simp [intOf]; omega
        · go_wp2
          go_ret
          exact ⟨rfl, HV.out.low⟩
end Go.Proofs.YtgohhnbdicdenaaGreatDoor.Pg

/- The function live of the statements of layer prog answers true and leaves what was there as it was. Conditions: the variable of the error of a number's form holds an error or none. -/
namespace Go.Proofs.YtgohhnbdicdenaaGreatDoor.Pg
open Go.ChangeShapes Go.WideShapes Go.ChangeAt Go.RowKit
open Go.Proofs.YtgohhnbdicdenaaGreatDoor.Ex
open Go.Proofs.YtgohhnbdicdenaaGreatDoor.Tr (str ret_bool ret_int Bytes Nd)
set_option linter.unusedVariables false
set_option linter.unusedSimpArgs false

def s1 : Bytes := [110, 111, 100, 101, 32, 102, 40, 97, 58, 32, 105, 110, 116, 59, 32, 98, 58, 32, 98, 111, 111, 108, 41, 32, 114, 101, 116, 117, 114, 110, 115, 32, 40, 99, 58, 32, 105, 110, 116, 41, 32, 99, 111, 110, 116, 114, 97, 99, 116, 32, 97, 115, 115, 117, 109, 101, 32, 98, 59, 32, 103, 104, 111, 115, 116, 32, 103, 58, 32, 105, 110, 116, 32, 61, 32, 97, 59, 32, 101, 110, 100, 32, 118, 97, 114, 32, 120, 58, 32, 105, 110, 116, 59, 32, 108, 101, 116, 32, 120, 32, 61, 32, 97, 59, 32, 99, 32, 61, 32, 120, 59, 32, 116, 101, 108, 32, 99, 111, 110, 116, 114, 97, 99, 116, 32, 107, 40, 41, 32, 101, 110, 100, 32, 109, 97, 105, 110, 32, 102, 59, 32, 102, 97, 108, 108, 98, 97, 99, 107, 32, 102, 59]
def s2 : Bytes := [110, 111, 100, 101, 32, 102, 40, 41, 32, 114, 101, 116, 117, 114, 110, 115, 32, 40, 99, 58, 32, 105, 110, 116, 41, 32, 108, 101, 116, 32, 99, 32, 61, 32, 49, 32, 116, 101, 108, 32, 109, 97, 105, 110, 32, 102, 59]
def s3 : Bytes := [109, 97, 105, 110, 32, 102]
theorem prog_at {S : ByteArray} {s : Bytes} {x : Prg × Int × Int} {w : World} (hS : S = str s) (t : progM s = x) (hn : s.length ≤ 1000000) (hvar : VarAt w w.heap.size) : Calls Tryz.prog 20 #[.string S] w (ParG w x) := by
  subst hS
  have h := prog_parse (str s) w (by rw [Tr.str_size]; unfold maxLen; omega) hvar
  rw [Tr.str_toList, t] at h; exact h
theorem var_up {w w' : World} (h : VarAt w w.heap.size) (hb : Below w.heap.size w w') : VarAt w' w'.heap.size := var_wide (h.keep hb.size (fun g _ hg => hb.block g hg)) hb.size
theorem live2 : (progM s2).2 = (5, 36) := by decide +kernel
theorem live3 : (progM s3).2 = (5, -1) := by decide +kernel
theorem live1a : (progM s1).2 = (0, 0) := by decide +kernel
theorem live1b : (progM s1).1.main = [102] := by decide +kernel
theorem live1c : (progM s1).1.back = [102] := by decide +kernel
theorem live1d : (progM s1).1.units.map Unt.contract = [false, true] := by decide +kernel
theorem live1e : (progM s1).1.units.map Unt.name = [[102], [107]] := by decide +kernel
theorem live1f : (progM s1).1.units.map Unt.ins = [[⟨[97], 2⟩, ⟨[98], 1⟩], []] := by decide +kernel
theorem live1g : (progM s1).1.units.map Unt.out = [⟨[99], 2⟩, ⟨[], 0⟩] := by decide +kernel
theorem live1h : (progM s1).1.units.map (fun u => u.items.map Itm.name) = [[[], [103]], []] := by decide +kernel
theorem live1i : (progM s1).1.units.map (fun u => u.vars.length) = [1, 0] := by decide +kernel
theorem live1j : (progM s1).1.units.map (fun u => u.eqs.length) = [2, 0] := by decide +kernel
theorem map_two {α β : Type} {f : α → β} {l : List α} {x y : β} (h : l.map f = [x, y]) : ∃ a b, l = [a, b] ∧ f a = x ∧ f b = y := by
  match l, h with
  | [a, b], h => simp at h; exact ⟨a, b, rfl, h.1, h.2⟩
theorem live1 : ∃ (u v : Unt) (i j : Itm) (a : Prm), progM s1 = (⟨[u, v], [102], [102]⟩, 0, 0) ∧ u.name = [102] ∧ u.ins = [a, ⟨[98], 1⟩] ∧ u.out = ⟨[99], 2⟩ ∧ u.items = [i, j] ∧ j.name = [103] ∧ u.vars.length = 1 ∧ u.eqs.length = 2 ∧ v.contract = true := by
  have ha := live1a
  have hb := live1b
  have hc := live1c
  have hd := live1d
  have he := live1e
  have hf := live1f
  have hg := live1g
  have hh := live1h
  have hi := live1i
  have hj := live1j
  generalize progM s1 = X at ha hb hc hd he hf hg hh hi hj ⊢
  obtain ⟨⟨us, m, k⟩, c, d⟩ := X
  simp only [Prod.mk.injEq] at ha
  simp only at hb hc
  obtain ⟨rfl, rfl⟩ := ha
  subst hb; subst hc
  obtain ⟨u, v, hus, -, hv⟩ := map_two hd
  simp only at hus
  subst hus
  simp only [List.map_cons, List.map_nil, List.cons.injEq, and_true] at he hf hg hh hi hj
  obtain ⟨i, j, h8, -, h9⟩ := map_two hh.1
  exact ⟨u, v, i, j, ⟨[97], 2⟩, rfl, he.1, hf.1, hg.1, h8, h9, hi.1, hj.1, hv⟩
end Go.Proofs.YtgohhnbdicdenaaGreatDoor.Pg

/- The function live of the statements of layer prog answers true and leaves what was there as it was. Conditions: the variable of the error of a number's form holds an error or none. -/
namespace Go.Proofs.YtgohhnbdicdenaaGreatDoor.Pg
open Go.ChangeShapes Go.WideShapes Go.ChangeAt Go.RowKit
open Go.Proofs.YtgohhnbdicdenaaGreatDoor.Ex
open Go.Proofs.YtgohhnbdicdenaaGreatDoor.Tr (str ret_bool ret_int Bytes Nd)
set_option linter.unusedVariables false
set_option linter.unusedSimpArgs false

attribute [local go_sem ↓] neq_prm eql_prm guard_prm Lx.eql_fault Lx.guard_fault
theorem row_two {α : Type} {T : TypeId} {K : Nat} {R : World → α → List Value → Prop} {w W : World} {a b : α} {v : Value} (h : RowR T K R w [a, b] v) (hb : Below w.heap.size w W) :
    ∃ g c x y cs f, v = .slice (some ⟨g, 0, none⟩) 2 c ∧ 2 ≤ c ∧ c ≤ 9223372036854775807 ∧ W.heap[g]? = some (Obj.cells cs T f) ∧ R w a x ∧ R w b y ∧ (∀ k, k < K → cs[k]? = x[k]?) ∧ (∀ k, k < K → cs[K + k]? = y[k]?) := by
  obtain ⟨A, c, rfl, h1, h2, h3⟩ := h
  unfold maxLen at h2
  obtain ⟨g, x, cs, f, rfl, e1, e2, -, e3⟩ := h3 0 a rfl
  obtain ⟨g', y, cs', f', e4, e5, e6, -, e7⟩ := h3 1 b rfl
  simp only [Option.some.injEq, Addr.mk.injEq, and_true] at e4
  subst e4
  rw [e1] at e5
  simp only [Option.some.injEq, Obj.cells.injEq] at e5
  obtain ⟨rfl, -, -⟩ := e5
  exact ⟨g, c, x, y, cs, f, rfl, h1, h2, (hb.block g (lt_of_block e1)).trans e1, e2, e6, fun k hk => by have := e3 k hk; simpa using this, fun k hk => by have := e7 k hk; simpa using this⟩
set_option maxRecDepth 100000 in
set_option maxHeartbeats 8000000 in
theorem live_any (w : World) (hvar : VarAt w w.heap.size) : Calls Tryz.prog 19 #[] w (fun e w' => e = .returned (.bool true) ∧ Below w.heap.size w w') := by
  have HV := Lib.hid hvar
  obtain ⟨⟨uc, un, ui, uo, uvs, uq, ul⟩, ⟨vc, vn, vi, vo, vvs, vq, vl⟩, it0, ⟨jk, jn, jt, je, jf, ja⟩, pa, hp, h1, h2, h3, h4, h5, h6, h7, h8⟩ := live1
  simp only at h1 h2 h3 h4 h5 h6 h7 h8
  subst h1; subst h2; subst h3; subst h4; subst h5; subst h8
  obtain ⟨P2, hp2⟩ : ∃ P, progM s2 = (P, 5, 36) := ⟨(progM s2).1, by rw [← live2]⟩
  obtain ⟨P3, hp3⟩ : ∃ P, progM s3 = (P, 5, -1) := ⟨(progM s3).1, by rw [← live3]⟩
  have H1 := Lib.hid hp
  have H2 := Lib.hid hp2
  have H3 := Lib.hid hp3
  have H6 := Lib.hid h6
  have H7 := Lib.hid h7
  clear hp hp2 hp3 hvar h6 h7
  go_enter Tryz.func19, Tryz.ntmps19
  go_wp2_with fail
  refine (prog_at (s := s1) rfl H1.out (by decide) HV.out).mono ?_
  rintro e w1 ⟨v1, rfl, hu1, hb1⟩
  have HU1 := Lib.hid hu1
  have HB1 := Lib.hid hb1
  obtain ⟨A1, n1, c1, rfl, y1, y2⟩ := row_form hu1
  have N1 := Lib.hid (two_new w1 (.cells #[.slice A1 n1 c1, .string (str [102]), .string (str [102])] 38) (.cells #[.int .i64 0, .int .i64 0] 33))
  have HW1 := Lib.hid (hb1.trans (N1.out.1.mono hb1.size))
  clear hu1 hb1
  go_wp2_with fail
  refine (prog_at (s := s2) rfl H2.out (by decide) (var_up HV.out HW1.out)).mono ?_
  rintro e w2 ⟨v2, rfl, hu2, hb2⟩
  have HB2 := Lib.hid (HW1.out.trans (hb2.mono HW1.out.size))
  have B12 := Lib.hid (N1.out.1.trans (hb2.mono N1.out.1.size))
  have X2 := Lib.hid ((hb2.block _ (lt_of_block N1.out.2.1)).trans N1.out.2.1)
  have Y2 := Lib.hid ((hb2.block _ (lt_of_block N1.out.2.2)).trans N1.out.2.2)
  obtain ⟨A2, n2, c2, rfl, y3, y4⟩ := row_form hu2
  have N2 := Lib.hid (two_new w2 (.cells #[.slice A2 n2 c2, .string (str P2.main), .string (str P2.back)] 38) (.cells #[.int .i64 5, .int .i64 36] 33))
  have HW2 := Lib.hid (HB2.out.trans (N2.out.1.mono HB2.out.size))
  clear hu2 hb2
  go_wp2_with fail
  refine (prog_at (s := s3) rfl H3.out (by decide) (var_up HV.out HW2.out)).mono ?_
  rintro e w3 ⟨v3, rfl, hu3, hb3⟩
  have HB3 := Lib.hid (HW2.out.trans (hb3.mono HW2.out.size))
  have B13 := Lib.hid ((B12.out.trans (N2.out.1.mono B12.out.size)).trans (hb3.mono (Nat.le_trans B12.out.size N2.out.1.size)))
  have X3 := Lib.hid ((hb3.block _ (Nat.lt_of_lt_of_le (lt_of_block X2.out) N2.out.1.size)).trans ((N2.out.1.block _ (lt_of_block X2.out)).trans X2.out))
  have Y3 := Lib.hid ((hb3.block _ (Nat.lt_of_lt_of_le (lt_of_block Y2.out) N2.out.1.size)).trans ((N2.out.1.block _ (lt_of_block Y2.out)).trans Y2.out))
  have Z3 := Lib.hid ((hb3.block _ (lt_of_block N2.out.2.2)).trans N2.out.2.2)
  obtain ⟨A3, n3, c3, rfl, y5, y6⟩ := row_form hu3
  clear hu3 hb3
  obtain ⟨g, c, x, y, cs, f, hv, z1, z2, hg, ⟨iv, vv, qv, lv, rfl, r1, r2, r3, r4⟩, ⟨iv', vv', qv', lv', rfl, -⟩, k1, k2⟩ := row_two HU1.out B13.out
  simp only [Value.slice.injEq] at hv
  obtain ⟨rfl, rfl, rfl⟩ := hv
  obtain ⟨gi, ci, xi, yi, csi, fi, rfl, z3, z4, hgi, -, rfl, -, ki⟩ := row_two r1 B13.out
  obtain ⟨gl, cl, xl, yl, csl, fl, rfl, z5, z6, hgl, -, ⟨e1, e2, e3, rfl, -⟩, -, kl⟩ := row_two r4 B13.out
  obtain ⟨Av, cv, rfl, z7, z8, -⟩ := r2
  obtain ⟨Aq, cq, rfl, z9, z10, -⟩ := r3
  rw [H6.out] at z7
  rw [H7.out] at z9
  unfold maxLen at z8 z10
  have lx := lt_of_block X3.out
  have ly := lt_of_block Y3.out
  have lz := lt_of_block Z3.out
  have lg := lt_of_block hg
  have lgi := lt_of_block hgi
  have lgl := lt_of_block hgl
  have p0 : w3.cell? ⟨w1.heap.size, 0, none⟩ = some (.slice (some ⟨g, 0, none⟩) 2 c1) := (cell_at X3.out 0).trans rfl
  have p1 : w3.cell? ⟨w1.heap.size, 1, none⟩ = some (.string (str [102])) := (cell_at X3.out 1).trans rfl
  have p2 : w3.cell? ⟨w1.heap.size, 2, none⟩ = some (.string (str [102])) := (cell_at X3.out 2).trans rfl
  have f0 : w3.cell? ⟨w1.heap.size + 1, 0, none⟩ = some (.int .i64 0) := (cell_at Y3.out 0).trans rfl
  have f1 : w3.cell? ⟨w1.heap.size + 1, 1, none⟩ = some (.int .i64 0) := (cell_at Y3.out 1).trans rfl
  have f2 : w3.cell? ⟨w2.heap.size + 1, 0, none⟩ = some (.int .i64 5) := (cell_at Z3.out 0).trans rfl
  have f3 : w3.cell? ⟨w2.heap.size + 1, 1, none⟩ = some (.int .i64 36) := (cell_at Z3.out 1).trans rfl
  have u0 : w3.cell? ⟨g, 0, none⟩ = some (.bool uc) := (at_cell hg 0).trans (k1 0 (by decide))
  have u1 : w3.cell? ⟨g, 1, none⟩ = some (.string (str [102])) := (at_cell hg 1).trans (k1 1 (by decide))
  have u2 : w3.cell? ⟨g, 2, none⟩ = some (.slice (some ⟨gi, 0, none⟩) 2 ci) := (at_cell hg 2).trans (k1 2 (by decide))
  have u3 : w3.cell? ⟨g, 3, none⟩ = some (.string (str [99])) := (at_cell hg 3).trans (k1 3 (by decide))
  have u4 : w3.cell? ⟨g, 4, none⟩ = some (.int .i64 2) := (at_cell hg 4).trans (k1 4 (by decide))
  have u5 : w3.cell? ⟨g, 5, none⟩ = some (.slice Av 1 cv) := (at_cell hg 5).trans ((k1 5 (by decide)).trans (by rw [← H6.out]; rfl))
  have u6 : w3.cell? ⟨g, 6, none⟩ = some (.slice Aq 2 cq) := (at_cell hg 6).trans ((k1 6 (by decide)).trans (by rw [← H7.out]; rfl))
  have u7 : w3.cell? ⟨g, 7, none⟩ = some (.slice (some ⟨gl, 0, none⟩) 2 cl) := (at_cell hg 7).trans (k1 7 (by decide))
  have u8 : w3.cell? ⟨g, 8, none⟩ = some (.bool true) := (at_cell hg 8).trans (k2 0 (by decide))
  have i2 : w3.cell? ⟨gi, 2, none⟩ = some (.string (str [98])) := (at_cell hgi 2).trans (ki 0 (by decide))
  have i3 : w3.cell? ⟨gi, 3, none⟩ = some (.int .i64 1) := (at_cell hgi 3).trans (ki 1 (by decide))
  have l7 : w3.cell? ⟨gl, 7, none⟩ = some (.string (str [103])) := (at_cell hgl 7).trans (kl 1 (by decide))
  have s1 : ((str [102]).toList == [102]) = true := by rw [Tr.str_toList]; rfl
  have s2 : ((str [103]).toList == [103]) = true := by rw [Tr.str_toList]; rfl
  have s3 : prmB (str [98]) ⟨#[98]⟩ 1 1 = true := prmB_self _ _
  have s4 : prmB (str [99]) ⟨#[99]⟩ 2 2 = true := prmB_self _ _
  have s5 : Lx.faultB 0 0 0 0 = true := rfl
  have s6 : Lx.faultB 5 5 36 36 = true := rfl
  have s7 : Lx.faultB 5 5 (-1) (-1) = true := rfl
  have og1 : g < w3.heap.size + 1 := by omega
  have og2 : g < w3.heap.size + 1 + 1 := by omega
  have og3 : g ≠ w3.heap.size + 1 + 1 := by omega
  have og4 : g ≠ w3.heap.size + 1 := by omega
  have og5 : g ≠ w3.heap.size := by omega
  have oi1 : gi < w3.heap.size + 1 := by omega
  have oi2 : gi < w3.heap.size + 1 + 1 := by omega
  have oi3 : gi ≠ w3.heap.size + 1 + 1 := by omega
  have oi4 : gi ≠ w3.heap.size + 1 := by omega
  have oi5 : gi ≠ w3.heap.size := by omega
  have ol1 : gl < w3.heap.size + 1 := by omega
  have ol2 : gl < w3.heap.size + 1 + 1 := by omega
  have ol3 : gl ≠ w3.heap.size + 1 + 1 := by omega
  have ol4 : gl ≠ w3.heap.size + 1 := by omega
  have ol5 : gl ≠ w3.heap.size := by omega
  have ox1 : w1.heap.size < w3.heap.size + 1 := by omega
  have ox2 : w1.heap.size < w3.heap.size + 1 + 1 := by omega
  have ox3 : w1.heap.size ≠ w3.heap.size + 1 + 1 := by omega
  have ox4 : w1.heap.size ≠ w3.heap.size + 1 := by omega
  have ox5 : w1.heap.size ≠ w3.heap.size := by omega
  have oy1 : w1.heap.size + 1 < w3.heap.size + 1 := by omega
  have oy2 : w1.heap.size + 1 < w3.heap.size + 1 + 1 := by omega
  have oy3 : w1.heap.size + 1 ≠ w3.heap.size + 1 + 1 := by omega
  have oy4 : w1.heap.size + 1 ≠ w3.heap.size + 1 := by omega
  have oy5 : w1.heap.size + 1 ≠ w3.heap.size := by omega
  have oz1 : w2.heap.size + 1 < w3.heap.size + 1 := by omega
  have oz2 : w2.heap.size + 1 < w3.heap.size + 1 + 1 := by omega
  have oz3 : w2.heap.size + 1 ≠ w3.heap.size + 1 + 1 := by omega
  have oz4 : w2.heap.size + 1 ≠ w3.heap.size + 1 := by omega
  have oz5 : w2.heap.size + 1 ≠ w3.heap.size := by omega
  clear hg hgi hgl k1 k2 ki kl r1 r4
  go_wp2
  go_ret
  exact ⟨rfl, ((HB3.out.alloc HB3.out.size _).alloc (by simp; have := HB3.out.size; omega) _).alloc (by simp; have := HB3.out.size; omega) _⟩
end Go.Proofs.YtgohhnbdicdenaaGreatDoor.Pg

