/- The document's text of an operator of one operand. Conditions: the slice reads as a list of nodes; the operand's text is written. -/
import Derived.Test.YtgohhnbdicdenaaGreatDoorPx25
import Derived.Deep.RegionHeld3
namespace Go.Proofs.YtgohhnbdicdenaaGreatDoor.Sh
open Go.ChangeShapes Go.WideShapes Go.ChangeAt Go.RowKit
open Go.Proofs.YtgohhnbdicdenaaGreatDoor.Tr (str ret_bool ret_int Bytes Nd T Nodes May tree kidsM mkL mkT fitsB argsL unaryB binaryB ndCells)
set_option linter.unusedVariables false
set_option linter.unusedSimpArgs false

theorem undrew {w w' : World} (h : Below w.drew.heap.size w.drew w') : Below w.heap.size w w' := ⟨h.os, h.tape, h.output, h.size, h.block⟩
theorem ret_un (tx P : Bytes) : Ending.returned (.string (str tx ++ (⟨#[32]⟩ : ByteArray) ++ str P)) = .returned (.string (str (tx ++ [32] ++ P))) := by
  rw [← app_str, ← app_str]; rfl
theorem partB_len (a : Int) (t : T) : (textT t).length ≤ (partB a t).length := by
  unfold partB; split <;> simp <;> omega
set_option maxRecDepth 100000 in
set_option maxHeartbeats 1600000 in
theorem rnode_un {W0 : World} {G O C : Nat} {e : List Nd} (cx : Cx W0 G O C e) {i j : Nat} {x : Nd} (hx : e[i]? = some x) (hu : unaryB x.op = true) (h25 : x.op ≠ 25) (ha : x.a = (j : Int)) (ht : tree e i = .l1 x.lab (tree e j))
    (hp : PartR W0 (.slice (some ⟨G, O, none⟩) e.length C) e j) : NodeR W0 (.slice (some ⟨G, O, none⟩) e.length C) e i := by
  intro hl w hw
  have h27 : x.op ≠ 27 := by rintro h; rw [h] at hu; exact absurd hu (by decide)
  have h28 : x.op ≠ 28 := by rintro h; rw [h] at hu; exact absurd hu (by decide)
  have h1 : x.op ≠ 1 := by rintro h; rw [h] at hu; exact absurd hu (by decide)
  have h2 : x.op ≠ 2 := by rintro h; rw [h] at hu; exact absurd hu (by decide)
  have h3 : x.op ≠ 3 := by rintro h; rw [h] at hu; exact absurd hu (by decide)
  have h26 : x.op ≠ 26 := by rintro h; rw [h] at hu; exact absurd hu (by decide)
  have d1 : (x.op == 1) = false := by simpa using h1
  have d2 : (x.op == 2) = false := by simpa using h2
  have d3 : (x.op == 3) = false := by simpa using h3
  have d25 : (x.op == 25) = false := by simpa using h25
  have d26 : (x.op == 26) = false := by simpa using h26
  have d27 : (x.op == 27) = false := by simpa using h27
  have hK : textT (tree e i) = opText x.op ++ [32] ++ partB 9 (tree e j) := by rw [ht]; exact text_un h25 h27 h28
  rw [hK] at hl ⊢
  have hpl := partB_len 9 (tree e j)
  simp only [List.length_append, List.length_cons, List.length_nil] at hl
  have hL := (un_fact hu).1
  have HP := Lib.hid (fun w1 h => hp (by omega) w1 9 h)
  obtain ⟨tx, htx⟩ : ∃ t, opText x.op = t := ⟨_, rfl⟩
  obtain ⟨P, hP⟩ : ∃ t, partB 9 (tree e j) = t := ⟨_, rfl⟩
  have HO : Hid (∀ w1, Calls Tryz.prog 15 #[.int .i64 x.op] w1 fun e w' => e = .returned (.string (str tx)) ∧ Below w1.heap.size w1 w') := Lib.hid (fun w1 => by rw [← htx]; exact rop_any x.op w1)
  have HLV : Hid (∀ w1, Calls Tryz.prog 17 #[.int .i64 x.op] w1 fun e w' => e = .returned (.int .i64 9) ∧ Below w1.heap.size w1 w') := Lib.hid (fun w1 => by rw [← hL]; exact rlevel_any x.op w1)
  rw [htx, hP] at hl ⊢
  rw [hP] at HP
  have N1 : (9223372036854775807 < (str tx).size + 1) = False := eq_false (by rw [Tr.str_size]; omega)
  have N2 : (9223372036854775807 < (str tx).size + 1 + (str P).size) = False := eq_false (by rw [Tr.str_size, Tr.str_size]; omega)
  have hi := (List.getElem?_eq_some_iff.1 hx).1
  have hen := cx.may.le
  obtain ⟨a0, a1, a2, a3, a4, a5⟩ := cx.cells hw hx
  obtain ⟨op, na, nb, nc, nn, nm⟩ := x
  simp only at ha d1 d2 d3 d25 d26 d27 HO HLV a0 a1 a2 a3 a4 a5
  subst ha
  have hbx : BoxAt ((w.alloc (.cells #[.int .i64 op, .int .i64 j, .int .i64 nb, .int .i64 nc, .int .i64 nn, .string (str nm)] 58))) w.heap.size ⟨op, j, nb, nc, nn, nm⟩ := heap_alloc_new w _
  have HBX := Lib.hid hbx
  obtain ⟨c0, c1, c2, c3, c4, c5⟩ := hbx.cells
  simp only at c0 c1 c2 c3 c4 c5
  have HW := Lib.hid hw
  clear hK ht hx cx hw hbx hl hu h25 h27 h28 h1 h2 h3 h26 hL hp htx hP hpl
  go_enter Tryz.func27, Tryz.ntmps27
  go_wp2_with fail
  refine (HLV.out _).mono ?_
  rintro r w1 ⟨rfl, hb1⟩
  have hB : w.heap.size < w1.heap.size := by have := hb1.size; simp at this; omega
  have hbx1 := HBX.out.kept (Kept.of_below hb1)
  have HB1 := Lib.hid (bt (Tr.below_new _ _) hb1)
  have HW1 := Lib.hid (bt HW.out HB1.out)
  clear hb1 c0 c1 c2 c3 c4 c5 a0 a1 a2 a3 a4 a5
  obtain ⟨c0, c1, -, -, -, -⟩ := hbx1.cells
  simp only at c0 c1
  go_upto_region 19 with (fail)
  go_region_held3 (fun w' => w'.cell? ⟨w.heap.size, 0, none⟩ = some (.int .i64 op) ∧ w'.cell? ⟨w.heap.size, 1, none⟩ = some (.int .i64 j))
    (first | go_keep | exact ⟨c0, c1⟩ | exact ⟨c03, c13⟩ | exact ⟨c02, c12⟩)
    (first
      | (go_at_call 15; refine (HO.out w1.drew).mono ?_; rintro r w2 ⟨rfl, hb2⟩; have HB2 := Lib.hid (undrew hb2); have c02 := (HB2.out.cell hB).trans c0; have c12 := (HB2.out.cell hB).trans c1; clear hb2)
      | (go_at_call 45; refine (HP.out w1.drew HW1.out.drew).mono ?_; rintro r w2 ⟨rfl, hb2⟩; have HB2 := Lib.hid (undrew hb2); have c02 := (HB2.out.cell hB).trans c0; have c12 := (HB2.out.cell hB).trans c1; clear hb2)
      | (go_at_call 15; refine (HO.out w2).mono ?_; rintro r w3 ⟨rfl, hb3⟩; have HB3 := Lib.hid hb3; have c03 := (HB3.out.cell (Nat.lt_of_lt_of_le hB HB2.out.size)).trans c02; have c13 := (HB3.out.cell (Nat.lt_of_lt_of_le hB HB2.out.size)).trans c12; clear hb3)
      | (go_at_call 45; refine (HP.out w2 (bt HW1.out HB2.out)).mono ?_; rintro r w3 ⟨rfl, hb3⟩; have HB3 := Lib.hid hb3; have c03 := (HB3.out.cell (Nat.lt_of_lt_of_le hB HB2.out.size)).trans c02; have c13 := (HB3.out.cell (Nat.lt_of_lt_of_le hB HB2.out.size)).trans c12; clear hb3))
  all_goals go_wp2_with fail
  all_goals go_ret
  all_goals exact ⟨ret_un tx P, bt HB1.out (bt HB2.out HB3.out)⟩
end Go.Proofs.YtgohhnbdicdenaaGreatDoor.Sh

/- The document's text of an operator between two operands. Conditions: the slice reads as a list of nodes; the operands' texts are written. -/
namespace Go.Proofs.YtgohhnbdicdenaaGreatDoor.Sh
open Go.ChangeShapes Go.WideShapes Go.ChangeAt Go.RowKit
open Go.Proofs.YtgohhnbdicdenaaGreatDoor.Tr (str ret_bool ret_int Bytes Nd T Nodes May tree kidsM mkL mkT fitsB argsL unaryB binaryB ndCells)
set_option linter.unusedVariables false
set_option linter.unusedSimpArgs false

theorem ret_bin (P tx Q : Bytes) : Ending.returned (.string (str P ++ (⟨#[32]⟩ : ByteArray) ++ str tx ++ (⟨#[32]⟩ : ByteArray) ++ str Q)) = .returned (.string (str (P ++ [32] ++ tx ++ [32] ++ Q))) := by
  rw [← app_str, ← app_str, ← app_str, ← app_str]; rfl
set_option maxRecDepth 100000 in
set_option maxHeartbeats 3200000 in
theorem rnode_bin {W0 : World} {G O C : Nat} {e : List Nd} (cx : Cx W0 G O C e) {i j k : Nat} {x : Nd} (hx : e[i]? = some x) (hbn : binaryB x.op = true) (ha : x.a = (j : Int)) (hb : x.b = (k : Int)) (ht : tree e i = .l2 x.lab (tree e j) (tree e k))
    (hp : PartR W0 (.slice (some ⟨G, O, none⟩) e.length C) e j) (hq : PartR W0 (.slice (some ⟨G, O, none⟩) e.length C) e k) : NodeR W0 (.slice (some ⟨G, O, none⟩) e.length C) e i := by
  intro hl w hw
  have h1 : x.op ≠ 1 := by rintro h; rw [h] at hbn; exact absurd hbn (by decide)
  have h2 : x.op ≠ 2 := by rintro h; rw [h] at hbn; exact absurd hbn (by decide)
  have h3 : x.op ≠ 3 := by rintro h; rw [h] at hbn; exact absurd hbn (by decide)
  have h25 : x.op ≠ 25 := by rintro h; rw [h] at hbn; exact absurd hbn (by decide)
  have h26 : x.op ≠ 26 := by rintro h; rw [h] at hbn; exact absurd hbn (by decide)
  have h27 : x.op ≠ 27 := by rintro h; rw [h] at hbn; exact absurd hbn (by decide)
  have h28 : x.op ≠ 28 := by rintro h; rw [h] at hbn; exact absurd hbn (by decide)
  have d1 : (x.op == 1) = false := by simpa using h1
  have d2 : (x.op == 2) = false := by simpa using h2
  have d3 : (x.op == 3) = false := by simpa using h3
  have d25 : (x.op == 25) = false := by simpa using h25
  have d26 : (x.op == 26) = false := by simpa using h26
  have d27 : (x.op == 27) = false := by simpa using h27
  obtain ⟨L, hL⟩ : ∃ L, levM x.op = L := ⟨_, rfl⟩
  have hlv := bin_level hbn
  have hK : textT (tree e i) = partB (leftOf (levM x.op)) (tree e j) ++ [32] ++ opText x.op ++ [32] ++ partB (rightOf (levM x.op)) (tree e k) := by rw [ht]; exact text_bin h28
  rw [hL] at hlv hK
  rw [hK] at hl ⊢
  have hpl := partB_len (leftOf L) (tree e j)
  have hql := partB_len (rightOf L) (tree e k)
  simp only [List.length_append, List.length_cons, List.length_nil] at hl
  have HP := Lib.hid (fun w1 h => hp (by omega) w1 (leftOf L) h)
  have HQ := Lib.hid (fun w1 h => hq (by omega) w1 (rightOf L) h)
  obtain ⟨tx, htx⟩ : ∃ t, opText x.op = t := ⟨_, rfl⟩
  obtain ⟨P, hP⟩ : ∃ t, partB (leftOf L) (tree e j) = t := ⟨_, rfl⟩
  obtain ⟨Q, hQ⟩ : ∃ t, partB (rightOf L) (tree e k) = t := ⟨_, rfl⟩
  have HO : Hid (∀ w1, Calls Tryz.prog 15 #[.int .i64 x.op] w1 fun e w' => e = .returned (.string (str tx)) ∧ Below w1.heap.size w1 w') := Lib.hid (fun w1 => by rw [← htx]; exact rop_any x.op w1)
  have HLV : Hid (∀ w1, Calls Tryz.prog 17 #[.int .i64 x.op] w1 fun e w' => e = .returned (.int .i64 L) ∧ Below w1.heap.size w1 w') := Lib.hid (fun w1 => by rw [← hL]; exact rlevel_any x.op w1)
  rw [htx, hP, hQ] at hl ⊢
  rw [hP] at HP
  rw [hQ] at HQ
  have N1 : (9223372036854775807 < (str P).size + 1) = False := eq_false (by rw [Tr.str_size]; omega)
  have N2 : (9223372036854775807 < (str P).size + 1 + (str tx).size) = False := eq_false (by rw [Tr.str_size, Tr.str_size]; omega)
  have N3 : (9223372036854775807 < (str P).size + 1 + (str tx).size + 1) = False := eq_false (by rw [Tr.str_size, Tr.str_size]; omega)
  have N4 : (9223372036854775807 < (str P).size + 1 + (str tx).size + 1 + (str Q).size) = False := eq_false (by rw [Tr.str_size, Tr.str_size, Tr.str_size]; omega)
  have hi := (List.getElem?_eq_some_iff.1 hx).1
  have hen := cx.may.le
  obtain ⟨a0, a1, a2, a3, a4, a5⟩ := cx.cells hw hx
  obtain ⟨op, na, nb, nc, nn, nm⟩ := x
  simp only at ha hb d1 d2 d3 d25 d26 d27 HO HLV a0 a1 a2 a3 a4 a5
  subst ha; subst hb
  have hbx : BoxAt ((w.alloc (.cells #[.int .i64 op, .int .i64 j, .int .i64 k, .int .i64 nc, .int .i64 nn, .string (str nm)] 58))) w.heap.size ⟨op, j, k, nc, nn, nm⟩ := heap_alloc_new w _
  have HBX := Lib.hid hbx
  obtain ⟨c0, c1, c2, c3, c4, c5⟩ := hbx.cells
  simp only at c0 c1 c2 c3 c4 c5
  have HW := Lib.hid hw
  have hL8 : L = 1 ∨ L = 2 ∨ L = 3 ∨ L = 4 ∨ L = 5 ∨ L = 6 ∨ L = 7 ∨ L = 8 := by omega
  clear hK ht hx cx hw hbx hl hbn h25 h27 h28 h1 h2 h3 h26 hL hp hq htx hP hQ hpl hql hlv
  rcases hL8 with rfl | rfl | rfl | rfl | rfl | rfl | rfl | rfl
  · have HP' : Hid (∀ w1, Below W0.heap.size W0 w1 → Calls Tryz.prog 45 #[(.slice (some ⟨G, O, none⟩) e.length C), .int .i64 (j : Int), .int .i64 2] w1 fun r w' => r = .returned (.string (str P)) ∧ Below w1.heap.size w1 w') := HP
    have HQ' : Hid (∀ w1, Below W0.heap.size W0 w1 → Calls Tryz.prog 45 #[(.slice (some ⟨G, O, none⟩) e.length C), .int .i64 (k : Int), .int .i64 1] w1 fun r w' => r = .returned (.string (str Q)) ∧ Below w1.heap.size w1 w') := HQ
    clear HP HQ
    go_enter Tryz.func27, Tryz.ntmps27
    go_wp2_with fail
    refine (HLV.out _).mono ?_
    rintro r w1 ⟨rfl, hb1⟩
    have hB : w.heap.size < w1.heap.size := by have := hb1.size; simp at this; omega
    have hbx1 := HBX.out.kept (Kept.of_below hb1)
    have HB1 := Lib.hid (bt (Tr.below_new _ _) hb1)
    have HW1 := Lib.hid (bt HW.out HB1.out)
    clear hb1 c0 c1 c2 c3 c4 c5 a0 a1 a2 a3 a4 a5
    obtain ⟨c0, c1, c2, -, -, -⟩ := hbx1.cells
    simp only at c0 c1 c2
    go_upto_region 27 with (fail)
    go_region_held3 (fun w' => w'.cell? ⟨w.heap.size, 0, none⟩ = some (.int .i64 op) ∧ w'.cell? ⟨w.heap.size, 1, none⟩ = some (.int .i64 j) ∧ w'.cell? ⟨w.heap.size, 2, none⟩ = some (.int .i64 k))
      (first | go_keep | exact ⟨c0, c1, c2⟩ | exact ⟨c03, c13, c23⟩ | exact ⟨c02, c12, c22⟩ | exact ⟨c01, c11, c21⟩)
      (first
        | (go_at_call 45; with_reducible refine (HP'.out w1.drew HW1.out.drew).mono ?_; rintro r v1 ⟨rfl, hb1⟩; have HC1 := Lib.hid (undrew hb1); have c01 := (HC1.out.cell hB).trans c0; have c11 := (HC1.out.cell hB).trans c1; have c21 := (HC1.out.cell hB).trans c2; clear hb1)
        | (go_at_call 15; with_reducible refine (HO.out w1.drew).mono ?_; rintro r v1 ⟨rfl, hb1⟩; have HC1 := Lib.hid (undrew hb1); have c01 := (HC1.out.cell hB).trans c0; have c11 := (HC1.out.cell hB).trans c1; have c21 := (HC1.out.cell hB).trans c2; clear hb1)
        | (go_at_call 45; with_reducible refine (HQ'.out w1.drew HW1.out.drew).mono ?_; rintro r v1 ⟨rfl, hb1⟩; have HC1 := Lib.hid (undrew hb1); have c01 := (HC1.out.cell hB).trans c0; have c11 := (HC1.out.cell hB).trans c1; have c21 := (HC1.out.cell hB).trans c2; clear hb1)
        | (go_at_call 45; with_reducible refine (HP'.out v1 (bt HW1.out HC1.out)).mono ?_; rintro r v2 ⟨rfl, hb2⟩; have HC2 := Lib.hid (bt HC1.out hb2); have c02 := (HC2.out.cell hB).trans c0; have c12 := (HC2.out.cell hB).trans c1; have c22 := (HC2.out.cell hB).trans c2; clear hb2)
        | (go_at_call 15; with_reducible refine (HO.out v1).mono ?_; rintro r v2 ⟨rfl, hb2⟩; have HC2 := Lib.hid (bt HC1.out hb2); have c02 := (HC2.out.cell hB).trans c0; have c12 := (HC2.out.cell hB).trans c1; have c22 := (HC2.out.cell hB).trans c2; clear hb2)
        | (go_at_call 45; with_reducible refine (HQ'.out v1 (bt HW1.out HC1.out)).mono ?_; rintro r v2 ⟨rfl, hb2⟩; have HC2 := Lib.hid (bt HC1.out hb2); have c02 := (HC2.out.cell hB).trans c0; have c12 := (HC2.out.cell hB).trans c1; have c22 := (HC2.out.cell hB).trans c2; clear hb2)
        | (go_at_call 45; with_reducible refine (HP'.out v2 (bt HW1.out HC2.out)).mono ?_; rintro r v3 ⟨rfl, hb3⟩; have HC3 := Lib.hid (bt HC2.out hb3); have c03 := (HC3.out.cell hB).trans c0; have c13 := (HC3.out.cell hB).trans c1; have c23 := (HC3.out.cell hB).trans c2; clear hb3)
        | (go_at_call 15; with_reducible refine (HO.out v2).mono ?_; rintro r v3 ⟨rfl, hb3⟩; have HC3 := Lib.hid (bt HC2.out hb3); have c03 := (HC3.out.cell hB).trans c0; have c13 := (HC3.out.cell hB).trans c1; have c23 := (HC3.out.cell hB).trans c2; clear hb3)
        | (go_at_call 45; with_reducible refine (HQ'.out v2 (bt HW1.out HC2.out)).mono ?_; rintro r v3 ⟨rfl, hb3⟩; have HC3 := Lib.hid (bt HC2.out hb3); have c03 := (HC3.out.cell hB).trans c0; have c13 := (HC3.out.cell hB).trans c1; have c23 := (HC3.out.cell hB).trans c2; clear hb3))
    all_goals go_wp2_with fail
    all_goals go_ret
    all_goals exact ⟨ret_bin P tx Q, bt HB1.out HC3.out⟩
  · have HP' : Hid (∀ w1, Below W0.heap.size W0 w1 → Calls Tryz.prog 45 #[(.slice (some ⟨G, O, none⟩) e.length C), .int .i64 (j : Int), .int .i64 3] w1 fun r w' => r = .returned (.string (str P)) ∧ Below w1.heap.size w1 w') := HP
    have HQ' : Hid (∀ w1, Below W0.heap.size W0 w1 → Calls Tryz.prog 45 #[(.slice (some ⟨G, O, none⟩) e.length C), .int .i64 (k : Int), .int .i64 2] w1 fun r w' => r = .returned (.string (str Q)) ∧ Below w1.heap.size w1 w') := HQ
    clear HP HQ
    go_enter Tryz.func27, Tryz.ntmps27
    go_wp2_with fail
    refine (HLV.out _).mono ?_
    rintro r w1 ⟨rfl, hb1⟩
    have hB : w.heap.size < w1.heap.size := by have := hb1.size; simp at this; omega
    have hbx1 := HBX.out.kept (Kept.of_below hb1)
    have HB1 := Lib.hid (bt (Tr.below_new _ _) hb1)
    have HW1 := Lib.hid (bt HW.out HB1.out)
    clear hb1 c0 c1 c2 c3 c4 c5 a0 a1 a2 a3 a4 a5
    obtain ⟨c0, c1, c2, -, -, -⟩ := hbx1.cells
    simp only at c0 c1 c2
    go_upto_region 27 with (fail)
    go_region_held3 (fun w' => w'.cell? ⟨w.heap.size, 0, none⟩ = some (.int .i64 op) ∧ w'.cell? ⟨w.heap.size, 1, none⟩ = some (.int .i64 j) ∧ w'.cell? ⟨w.heap.size, 2, none⟩ = some (.int .i64 k))
      (first | go_keep | exact ⟨c0, c1, c2⟩ | exact ⟨c03, c13, c23⟩ | exact ⟨c02, c12, c22⟩ | exact ⟨c01, c11, c21⟩)
      (first
        | (go_at_call 45; with_reducible refine (HP'.out w1.drew HW1.out.drew).mono ?_; rintro r v1 ⟨rfl, hb1⟩; have HC1 := Lib.hid (undrew hb1); have c01 := (HC1.out.cell hB).trans c0; have c11 := (HC1.out.cell hB).trans c1; have c21 := (HC1.out.cell hB).trans c2; clear hb1)
        | (go_at_call 15; with_reducible refine (HO.out w1.drew).mono ?_; rintro r v1 ⟨rfl, hb1⟩; have HC1 := Lib.hid (undrew hb1); have c01 := (HC1.out.cell hB).trans c0; have c11 := (HC1.out.cell hB).trans c1; have c21 := (HC1.out.cell hB).trans c2; clear hb1)
        | (go_at_call 45; with_reducible refine (HQ'.out w1.drew HW1.out.drew).mono ?_; rintro r v1 ⟨rfl, hb1⟩; have HC1 := Lib.hid (undrew hb1); have c01 := (HC1.out.cell hB).trans c0; have c11 := (HC1.out.cell hB).trans c1; have c21 := (HC1.out.cell hB).trans c2; clear hb1)
        | (go_at_call 45; with_reducible refine (HP'.out v1 (bt HW1.out HC1.out)).mono ?_; rintro r v2 ⟨rfl, hb2⟩; have HC2 := Lib.hid (bt HC1.out hb2); have c02 := (HC2.out.cell hB).trans c0; have c12 := (HC2.out.cell hB).trans c1; have c22 := (HC2.out.cell hB).trans c2; clear hb2)
        | (go_at_call 15; with_reducible refine (HO.out v1).mono ?_; rintro r v2 ⟨rfl, hb2⟩; have HC2 := Lib.hid (bt HC1.out hb2); have c02 := (HC2.out.cell hB).trans c0; have c12 := (HC2.out.cell hB).trans c1; have c22 := (HC2.out.cell hB).trans c2; clear hb2)
        | (go_at_call 45; with_reducible refine (HQ'.out v1 (bt HW1.out HC1.out)).mono ?_; rintro r v2 ⟨rfl, hb2⟩; have HC2 := Lib.hid (bt HC1.out hb2); have c02 := (HC2.out.cell hB).trans c0; have c12 := (HC2.out.cell hB).trans c1; have c22 := (HC2.out.cell hB).trans c2; clear hb2)
        | (go_at_call 45; with_reducible refine (HP'.out v2 (bt HW1.out HC2.out)).mono ?_; rintro r v3 ⟨rfl, hb3⟩; have HC3 := Lib.hid (bt HC2.out hb3); have c03 := (HC3.out.cell hB).trans c0; have c13 := (HC3.out.cell hB).trans c1; have c23 := (HC3.out.cell hB).trans c2; clear hb3)
        | (go_at_call 15; with_reducible refine (HO.out v2).mono ?_; rintro r v3 ⟨rfl, hb3⟩; have HC3 := Lib.hid (bt HC2.out hb3); have c03 := (HC3.out.cell hB).trans c0; have c13 := (HC3.out.cell hB).trans c1; have c23 := (HC3.out.cell hB).trans c2; clear hb3)
        | (go_at_call 45; with_reducible refine (HQ'.out v2 (bt HW1.out HC2.out)).mono ?_; rintro r v3 ⟨rfl, hb3⟩; have HC3 := Lib.hid (bt HC2.out hb3); have c03 := (HC3.out.cell hB).trans c0; have c13 := (HC3.out.cell hB).trans c1; have c23 := (HC3.out.cell hB).trans c2; clear hb3))
    all_goals go_wp2_with fail
    all_goals go_ret
    all_goals exact ⟨ret_bin P tx Q, bt HB1.out HC3.out⟩
  · have HP' : Hid (∀ w1, Below W0.heap.size W0 w1 → Calls Tryz.prog 45 #[(.slice (some ⟨G, O, none⟩) e.length C), .int .i64 (j : Int), .int .i64 3] w1 fun r w' => r = .returned (.string (str P)) ∧ Below w1.heap.size w1 w') := HP
    have HQ' : Hid (∀ w1, Below W0.heap.size W0 w1 → Calls Tryz.prog 45 #[(.slice (some ⟨G, O, none⟩) e.length C), .int .i64 (k : Int), .int .i64 4] w1 fun r w' => r = .returned (.string (str Q)) ∧ Below w1.heap.size w1 w') := HQ
    clear HP HQ
    go_enter Tryz.func27, Tryz.ntmps27
    go_wp2_with fail
    refine (HLV.out _).mono ?_
    rintro r w1 ⟨rfl, hb1⟩
    have hB : w.heap.size < w1.heap.size := by have := hb1.size; simp at this; omega
    have hbx1 := HBX.out.kept (Kept.of_below hb1)
    have HB1 := Lib.hid (bt (Tr.below_new _ _) hb1)
    have HW1 := Lib.hid (bt HW.out HB1.out)
    clear hb1 c0 c1 c2 c3 c4 c5 a0 a1 a2 a3 a4 a5
    obtain ⟨c0, c1, c2, -, -, -⟩ := hbx1.cells
    simp only at c0 c1 c2
    go_upto_region 27 with (fail)
    go_region_held3 (fun w' => w'.cell? ⟨w.heap.size, 0, none⟩ = some (.int .i64 op) ∧ w'.cell? ⟨w.heap.size, 1, none⟩ = some (.int .i64 j) ∧ w'.cell? ⟨w.heap.size, 2, none⟩ = some (.int .i64 k))
      (first | go_keep | exact ⟨c0, c1, c2⟩ | exact ⟨c03, c13, c23⟩ | exact ⟨c02, c12, c22⟩ | exact ⟨c01, c11, c21⟩)
      (first
        | (go_at_call 45; with_reducible refine (HP'.out w1.drew HW1.out.drew).mono ?_; rintro r v1 ⟨rfl, hb1⟩; have HC1 := Lib.hid (undrew hb1); have c01 := (HC1.out.cell hB).trans c0; have c11 := (HC1.out.cell hB).trans c1; have c21 := (HC1.out.cell hB).trans c2; clear hb1)
        | (go_at_call 15; with_reducible refine (HO.out w1.drew).mono ?_; rintro r v1 ⟨rfl, hb1⟩; have HC1 := Lib.hid (undrew hb1); have c01 := (HC1.out.cell hB).trans c0; have c11 := (HC1.out.cell hB).trans c1; have c21 := (HC1.out.cell hB).trans c2; clear hb1)
        | (go_at_call 45; with_reducible refine (HQ'.out w1.drew HW1.out.drew).mono ?_; rintro r v1 ⟨rfl, hb1⟩; have HC1 := Lib.hid (undrew hb1); have c01 := (HC1.out.cell hB).trans c0; have c11 := (HC1.out.cell hB).trans c1; have c21 := (HC1.out.cell hB).trans c2; clear hb1)
        | (go_at_call 45; with_reducible refine (HP'.out v1 (bt HW1.out HC1.out)).mono ?_; rintro r v2 ⟨rfl, hb2⟩; have HC2 := Lib.hid (bt HC1.out hb2); have c02 := (HC2.out.cell hB).trans c0; have c12 := (HC2.out.cell hB).trans c1; have c22 := (HC2.out.cell hB).trans c2; clear hb2)
        | (go_at_call 15; with_reducible refine (HO.out v1).mono ?_; rintro r v2 ⟨rfl, hb2⟩; have HC2 := Lib.hid (bt HC1.out hb2); have c02 := (HC2.out.cell hB).trans c0; have c12 := (HC2.out.cell hB).trans c1; have c22 := (HC2.out.cell hB).trans c2; clear hb2)
        | (go_at_call 45; with_reducible refine (HQ'.out v1 (bt HW1.out HC1.out)).mono ?_; rintro r v2 ⟨rfl, hb2⟩; have HC2 := Lib.hid (bt HC1.out hb2); have c02 := (HC2.out.cell hB).trans c0; have c12 := (HC2.out.cell hB).trans c1; have c22 := (HC2.out.cell hB).trans c2; clear hb2)
        | (go_at_call 45; with_reducible refine (HP'.out v2 (bt HW1.out HC2.out)).mono ?_; rintro r v3 ⟨rfl, hb3⟩; have HC3 := Lib.hid (bt HC2.out hb3); have c03 := (HC3.out.cell hB).trans c0; have c13 := (HC3.out.cell hB).trans c1; have c23 := (HC3.out.cell hB).trans c2; clear hb3)
        | (go_at_call 15; with_reducible refine (HO.out v2).mono ?_; rintro r v3 ⟨rfl, hb3⟩; have HC3 := Lib.hid (bt HC2.out hb3); have c03 := (HC3.out.cell hB).trans c0; have c13 := (HC3.out.cell hB).trans c1; have c23 := (HC3.out.cell hB).trans c2; clear hb3)
        | (go_at_call 45; with_reducible refine (HQ'.out v2 (bt HW1.out HC2.out)).mono ?_; rintro r v3 ⟨rfl, hb3⟩; have HC3 := Lib.hid (bt HC2.out hb3); have c03 := (HC3.out.cell hB).trans c0; have c13 := (HC3.out.cell hB).trans c1; have c23 := (HC3.out.cell hB).trans c2; clear hb3))
    all_goals go_wp2_with fail
    all_goals go_ret
    all_goals exact ⟨ret_bin P tx Q, bt HB1.out HC3.out⟩
  · have HP' : Hid (∀ w1, Below W0.heap.size W0 w1 → Calls Tryz.prog 45 #[(.slice (some ⟨G, O, none⟩) e.length C), .int .i64 (j : Int), .int .i64 4] w1 fun r w' => r = .returned (.string (str P)) ∧ Below w1.heap.size w1 w') := HP
    have HQ' : Hid (∀ w1, Below W0.heap.size W0 w1 → Calls Tryz.prog 45 #[(.slice (some ⟨G, O, none⟩) e.length C), .int .i64 (k : Int), .int .i64 5] w1 fun r w' => r = .returned (.string (str Q)) ∧ Below w1.heap.size w1 w') := HQ
    clear HP HQ
    go_enter Tryz.func27, Tryz.ntmps27
    go_wp2_with fail
    refine (HLV.out _).mono ?_
    rintro r w1 ⟨rfl, hb1⟩
    have hB : w.heap.size < w1.heap.size := by have := hb1.size; simp at this; omega
    have hbx1 := HBX.out.kept (Kept.of_below hb1)
    have HB1 := Lib.hid (bt (Tr.below_new _ _) hb1)
    have HW1 := Lib.hid (bt HW.out HB1.out)
    clear hb1 c0 c1 c2 c3 c4 c5 a0 a1 a2 a3 a4 a5
    obtain ⟨c0, c1, c2, -, -, -⟩ := hbx1.cells
    simp only at c0 c1 c2
    go_upto_region 27 with (fail)
    go_region_held3 (fun w' => w'.cell? ⟨w.heap.size, 0, none⟩ = some (.int .i64 op) ∧ w'.cell? ⟨w.heap.size, 1, none⟩ = some (.int .i64 j) ∧ w'.cell? ⟨w.heap.size, 2, none⟩ = some (.int .i64 k))
      (first | go_keep | exact ⟨c0, c1, c2⟩ | exact ⟨c03, c13, c23⟩ | exact ⟨c02, c12, c22⟩ | exact ⟨c01, c11, c21⟩)
      (first
        | (go_at_call 45; with_reducible refine (HP'.out w1.drew HW1.out.drew).mono ?_; rintro r v1 ⟨rfl, hb1⟩; have HC1 := Lib.hid (undrew hb1); have c01 := (HC1.out.cell hB).trans c0; have c11 := (HC1.out.cell hB).trans c1; have c21 := (HC1.out.cell hB).trans c2; clear hb1)
        | (go_at_call 15; with_reducible refine (HO.out w1.drew).mono ?_; rintro r v1 ⟨rfl, hb1⟩; have HC1 := Lib.hid (undrew hb1); have c01 := (HC1.out.cell hB).trans c0; have c11 := (HC1.out.cell hB).trans c1; have c21 := (HC1.out.cell hB).trans c2; clear hb1)
        | (go_at_call 45; with_reducible refine (HQ'.out w1.drew HW1.out.drew).mono ?_; rintro r v1 ⟨rfl, hb1⟩; have HC1 := Lib.hid (undrew hb1); have c01 := (HC1.out.cell hB).trans c0; have c11 := (HC1.out.cell hB).trans c1; have c21 := (HC1.out.cell hB).trans c2; clear hb1)
        | (go_at_call 45; with_reducible refine (HP'.out v1 (bt HW1.out HC1.out)).mono ?_; rintro r v2 ⟨rfl, hb2⟩; have HC2 := Lib.hid (bt HC1.out hb2); have c02 := (HC2.out.cell hB).trans c0; have c12 := (HC2.out.cell hB).trans c1; have c22 := (HC2.out.cell hB).trans c2; clear hb2)
        | (go_at_call 15; with_reducible refine (HO.out v1).mono ?_; rintro r v2 ⟨rfl, hb2⟩; have HC2 := Lib.hid (bt HC1.out hb2); have c02 := (HC2.out.cell hB).trans c0; have c12 := (HC2.out.cell hB).trans c1; have c22 := (HC2.out.cell hB).trans c2; clear hb2)
        | (go_at_call 45; with_reducible refine (HQ'.out v1 (bt HW1.out HC1.out)).mono ?_; rintro r v2 ⟨rfl, hb2⟩; have HC2 := Lib.hid (bt HC1.out hb2); have c02 := (HC2.out.cell hB).trans c0; have c12 := (HC2.out.cell hB).trans c1; have c22 := (HC2.out.cell hB).trans c2; clear hb2)
        | (go_at_call 45; with_reducible refine (HP'.out v2 (bt HW1.out HC2.out)).mono ?_; rintro r v3 ⟨rfl, hb3⟩; have HC3 := Lib.hid (bt HC2.out hb3); have c03 := (HC3.out.cell hB).trans c0; have c13 := (HC3.out.cell hB).trans c1; have c23 := (HC3.out.cell hB).trans c2; clear hb3)
        | (go_at_call 15; with_reducible refine (HO.out v2).mono ?_; rintro r v3 ⟨rfl, hb3⟩; have HC3 := Lib.hid (bt HC2.out hb3); have c03 := (HC3.out.cell hB).trans c0; have c13 := (HC3.out.cell hB).trans c1; have c23 := (HC3.out.cell hB).trans c2; clear hb3)
        | (go_at_call 45; with_reducible refine (HQ'.out v2 (bt HW1.out HC2.out)).mono ?_; rintro r v3 ⟨rfl, hb3⟩; have HC3 := Lib.hid (bt HC2.out hb3); have c03 := (HC3.out.cell hB).trans c0; have c13 := (HC3.out.cell hB).trans c1; have c23 := (HC3.out.cell hB).trans c2; clear hb3))
    all_goals go_wp2_with fail
    all_goals go_ret
    all_goals exact ⟨ret_bin P tx Q, bt HB1.out HC3.out⟩
  · have HP' : Hid (∀ w1, Below W0.heap.size W0 w1 → Calls Tryz.prog 45 #[(.slice (some ⟨G, O, none⟩) e.length C), .int .i64 (j : Int), .int .i64 5] w1 fun r w' => r = .returned (.string (str P)) ∧ Below w1.heap.size w1 w') := HP
    have HQ' : Hid (∀ w1, Below W0.heap.size W0 w1 → Calls Tryz.prog 45 #[(.slice (some ⟨G, O, none⟩) e.length C), .int .i64 (k : Int), .int .i64 6] w1 fun r w' => r = .returned (.string (str Q)) ∧ Below w1.heap.size w1 w') := HQ
    clear HP HQ
    go_enter Tryz.func27, Tryz.ntmps27
    go_wp2_with fail
    refine (HLV.out _).mono ?_
    rintro r w1 ⟨rfl, hb1⟩
    have hB : w.heap.size < w1.heap.size := by have := hb1.size; simp at this; omega
    have hbx1 := HBX.out.kept (Kept.of_below hb1)
    have HB1 := Lib.hid (bt (Tr.below_new _ _) hb1)
    have HW1 := Lib.hid (bt HW.out HB1.out)
    clear hb1 c0 c1 c2 c3 c4 c5 a0 a1 a2 a3 a4 a5
    obtain ⟨c0, c1, c2, -, -, -⟩ := hbx1.cells
    simp only at c0 c1 c2
    go_upto_region 27 with (fail)
    go_region_held3 (fun w' => w'.cell? ⟨w.heap.size, 0, none⟩ = some (.int .i64 op) ∧ w'.cell? ⟨w.heap.size, 1, none⟩ = some (.int .i64 j) ∧ w'.cell? ⟨w.heap.size, 2, none⟩ = some (.int .i64 k))
      (first | go_keep | exact ⟨c0, c1, c2⟩ | exact ⟨c03, c13, c23⟩ | exact ⟨c02, c12, c22⟩ | exact ⟨c01, c11, c21⟩)
      (first
        | (go_at_call 45; with_reducible refine (HP'.out w1.drew HW1.out.drew).mono ?_; rintro r v1 ⟨rfl, hb1⟩; have HC1 := Lib.hid (undrew hb1); have c01 := (HC1.out.cell hB).trans c0; have c11 := (HC1.out.cell hB).trans c1; have c21 := (HC1.out.cell hB).trans c2; clear hb1)
        | (go_at_call 15; with_reducible refine (HO.out w1.drew).mono ?_; rintro r v1 ⟨rfl, hb1⟩; have HC1 := Lib.hid (undrew hb1); have c01 := (HC1.out.cell hB).trans c0; have c11 := (HC1.out.cell hB).trans c1; have c21 := (HC1.out.cell hB).trans c2; clear hb1)
        | (go_at_call 45; with_reducible refine (HQ'.out w1.drew HW1.out.drew).mono ?_; rintro r v1 ⟨rfl, hb1⟩; have HC1 := Lib.hid (undrew hb1); have c01 := (HC1.out.cell hB).trans c0; have c11 := (HC1.out.cell hB).trans c1; have c21 := (HC1.out.cell hB).trans c2; clear hb1)
        | (go_at_call 45; with_reducible refine (HP'.out v1 (bt HW1.out HC1.out)).mono ?_; rintro r v2 ⟨rfl, hb2⟩; have HC2 := Lib.hid (bt HC1.out hb2); have c02 := (HC2.out.cell hB).trans c0; have c12 := (HC2.out.cell hB).trans c1; have c22 := (HC2.out.cell hB).trans c2; clear hb2)
        | (go_at_call 15; with_reducible refine (HO.out v1).mono ?_; rintro r v2 ⟨rfl, hb2⟩; have HC2 := Lib.hid (bt HC1.out hb2); have c02 := (HC2.out.cell hB).trans c0; have c12 := (HC2.out.cell hB).trans c1; have c22 := (HC2.out.cell hB).trans c2; clear hb2)
        | (go_at_call 45; with_reducible refine (HQ'.out v1 (bt HW1.out HC1.out)).mono ?_; rintro r v2 ⟨rfl, hb2⟩; have HC2 := Lib.hid (bt HC1.out hb2); have c02 := (HC2.out.cell hB).trans c0; have c12 := (HC2.out.cell hB).trans c1; have c22 := (HC2.out.cell hB).trans c2; clear hb2)
        | (go_at_call 45; with_reducible refine (HP'.out v2 (bt HW1.out HC2.out)).mono ?_; rintro r v3 ⟨rfl, hb3⟩; have HC3 := Lib.hid (bt HC2.out hb3); have c03 := (HC3.out.cell hB).trans c0; have c13 := (HC3.out.cell hB).trans c1; have c23 := (HC3.out.cell hB).trans c2; clear hb3)
        | (go_at_call 15; with_reducible refine (HO.out v2).mono ?_; rintro r v3 ⟨rfl, hb3⟩; have HC3 := Lib.hid (bt HC2.out hb3); have c03 := (HC3.out.cell hB).trans c0; have c13 := (HC3.out.cell hB).trans c1; have c23 := (HC3.out.cell hB).trans c2; clear hb3)
        | (go_at_call 45; with_reducible refine (HQ'.out v2 (bt HW1.out HC2.out)).mono ?_; rintro r v3 ⟨rfl, hb3⟩; have HC3 := Lib.hid (bt HC2.out hb3); have c03 := (HC3.out.cell hB).trans c0; have c13 := (HC3.out.cell hB).trans c1; have c23 := (HC3.out.cell hB).trans c2; clear hb3))
    all_goals go_wp2_with fail
    all_goals go_ret
    all_goals exact ⟨ret_bin P tx Q, bt HB1.out HC3.out⟩
  · have HP' : Hid (∀ w1, Below W0.heap.size W0 w1 → Calls Tryz.prog 45 #[(.slice (some ⟨G, O, none⟩) e.length C), .int .i64 (j : Int), .int .i64 7] w1 fun r w' => r = .returned (.string (str P)) ∧ Below w1.heap.size w1 w') := HP
    have HQ' : Hid (∀ w1, Below W0.heap.size W0 w1 → Calls Tryz.prog 45 #[(.slice (some ⟨G, O, none⟩) e.length C), .int .i64 (k : Int), .int .i64 7] w1 fun r w' => r = .returned (.string (str Q)) ∧ Below w1.heap.size w1 w') := HQ
    clear HP HQ
    go_enter Tryz.func27, Tryz.ntmps27
    go_wp2_with fail
    refine (HLV.out _).mono ?_
    rintro r w1 ⟨rfl, hb1⟩
    have hB : w.heap.size < w1.heap.size := by have := hb1.size; simp at this; omega
    have hbx1 := HBX.out.kept (Kept.of_below hb1)
    have HB1 := Lib.hid (bt (Tr.below_new _ _) hb1)
    have HW1 := Lib.hid (bt HW.out HB1.out)
    clear hb1 c0 c1 c2 c3 c4 c5 a0 a1 a2 a3 a4 a5
    obtain ⟨c0, c1, c2, -, -, -⟩ := hbx1.cells
    simp only at c0 c1 c2
    go_upto_region 27 with (fail)
    go_region_held3 (fun w' => w'.cell? ⟨w.heap.size, 0, none⟩ = some (.int .i64 op) ∧ w'.cell? ⟨w.heap.size, 1, none⟩ = some (.int .i64 j) ∧ w'.cell? ⟨w.heap.size, 2, none⟩ = some (.int .i64 k))
      (first | go_keep | exact ⟨c0, c1, c2⟩ | exact ⟨c03, c13, c23⟩ | exact ⟨c02, c12, c22⟩ | exact ⟨c01, c11, c21⟩)
      (first
        | (go_at_call 45; with_reducible refine (HP'.out w1.drew HW1.out.drew).mono ?_; rintro r v1 ⟨rfl, hb1⟩; have HC1 := Lib.hid (undrew hb1); have c01 := (HC1.out.cell hB).trans c0; have c11 := (HC1.out.cell hB).trans c1; have c21 := (HC1.out.cell hB).trans c2; clear hb1)
        | (go_at_call 15; with_reducible refine (HO.out w1.drew).mono ?_; rintro r v1 ⟨rfl, hb1⟩; have HC1 := Lib.hid (undrew hb1); have c01 := (HC1.out.cell hB).trans c0; have c11 := (HC1.out.cell hB).trans c1; have c21 := (HC1.out.cell hB).trans c2; clear hb1)
        | (go_at_call 45; with_reducible refine (HQ'.out w1.drew HW1.out.drew).mono ?_; rintro r v1 ⟨rfl, hb1⟩; have HC1 := Lib.hid (undrew hb1); have c01 := (HC1.out.cell hB).trans c0; have c11 := (HC1.out.cell hB).trans c1; have c21 := (HC1.out.cell hB).trans c2; clear hb1)
        | (go_at_call 45; with_reducible refine (HP'.out v1 (bt HW1.out HC1.out)).mono ?_; rintro r v2 ⟨rfl, hb2⟩; have HC2 := Lib.hid (bt HC1.out hb2); have c02 := (HC2.out.cell hB).trans c0; have c12 := (HC2.out.cell hB).trans c1; have c22 := (HC2.out.cell hB).trans c2; clear hb2)
        | (go_at_call 15; with_reducible refine (HO.out v1).mono ?_; rintro r v2 ⟨rfl, hb2⟩; have HC2 := Lib.hid (bt HC1.out hb2); have c02 := (HC2.out.cell hB).trans c0; have c12 := (HC2.out.cell hB).trans c1; have c22 := (HC2.out.cell hB).trans c2; clear hb2)
        | (go_at_call 45; with_reducible refine (HQ'.out v1 (bt HW1.out HC1.out)).mono ?_; rintro r v2 ⟨rfl, hb2⟩; have HC2 := Lib.hid (bt HC1.out hb2); have c02 := (HC2.out.cell hB).trans c0; have c12 := (HC2.out.cell hB).trans c1; have c22 := (HC2.out.cell hB).trans c2; clear hb2)
        | (go_at_call 45; with_reducible refine (HP'.out v2 (bt HW1.out HC2.out)).mono ?_; rintro r v3 ⟨rfl, hb3⟩; have HC3 := Lib.hid (bt HC2.out hb3); have c03 := (HC3.out.cell hB).trans c0; have c13 := (HC3.out.cell hB).trans c1; have c23 := (HC3.out.cell hB).trans c2; clear hb3)
        | (go_at_call 15; with_reducible refine (HO.out v2).mono ?_; rintro r v3 ⟨rfl, hb3⟩; have HC3 := Lib.hid (bt HC2.out hb3); have c03 := (HC3.out.cell hB).trans c0; have c13 := (HC3.out.cell hB).trans c1; have c23 := (HC3.out.cell hB).trans c2; clear hb3)
        | (go_at_call 45; with_reducible refine (HQ'.out v2 (bt HW1.out HC2.out)).mono ?_; rintro r v3 ⟨rfl, hb3⟩; have HC3 := Lib.hid (bt HC2.out hb3); have c03 := (HC3.out.cell hB).trans c0; have c13 := (HC3.out.cell hB).trans c1; have c23 := (HC3.out.cell hB).trans c2; clear hb3))
    all_goals go_wp2_with fail
    all_goals go_ret
    all_goals exact ⟨ret_bin P tx Q, bt HB1.out HC3.out⟩
  · have HP' : Hid (∀ w1, Below W0.heap.size W0 w1 → Calls Tryz.prog 45 #[(.slice (some ⟨G, O, none⟩) e.length C), .int .i64 (j : Int), .int .i64 7] w1 fun r w' => r = .returned (.string (str P)) ∧ Below w1.heap.size w1 w') := HP
    have HQ' : Hid (∀ w1, Below W0.heap.size W0 w1 → Calls Tryz.prog 45 #[(.slice (some ⟨G, O, none⟩) e.length C), .int .i64 (k : Int), .int .i64 8] w1 fun r w' => r = .returned (.string (str Q)) ∧ Below w1.heap.size w1 w') := HQ
    clear HP HQ
    go_enter Tryz.func27, Tryz.ntmps27
    go_wp2_with fail
    refine (HLV.out _).mono ?_
    rintro r w1 ⟨rfl, hb1⟩
    have hB : w.heap.size < w1.heap.size := by have := hb1.size; simp at this; omega
    have hbx1 := HBX.out.kept (Kept.of_below hb1)
    have HB1 := Lib.hid (bt (Tr.below_new _ _) hb1)
    have HW1 := Lib.hid (bt HW.out HB1.out)
    clear hb1 c0 c1 c2 c3 c4 c5 a0 a1 a2 a3 a4 a5
    obtain ⟨c0, c1, c2, -, -, -⟩ := hbx1.cells
    simp only at c0 c1 c2
    go_upto_region 27 with (fail)
    go_region_held3 (fun w' => w'.cell? ⟨w.heap.size, 0, none⟩ = some (.int .i64 op) ∧ w'.cell? ⟨w.heap.size, 1, none⟩ = some (.int .i64 j) ∧ w'.cell? ⟨w.heap.size, 2, none⟩ = some (.int .i64 k))
      (first | go_keep | exact ⟨c0, c1, c2⟩ | exact ⟨c03, c13, c23⟩ | exact ⟨c02, c12, c22⟩ | exact ⟨c01, c11, c21⟩)
      (first
        | (go_at_call 45; with_reducible refine (HP'.out w1.drew HW1.out.drew).mono ?_; rintro r v1 ⟨rfl, hb1⟩; have HC1 := Lib.hid (undrew hb1); have c01 := (HC1.out.cell hB).trans c0; have c11 := (HC1.out.cell hB).trans c1; have c21 := (HC1.out.cell hB).trans c2; clear hb1)
        | (go_at_call 15; with_reducible refine (HO.out w1.drew).mono ?_; rintro r v1 ⟨rfl, hb1⟩; have HC1 := Lib.hid (undrew hb1); have c01 := (HC1.out.cell hB).trans c0; have c11 := (HC1.out.cell hB).trans c1; have c21 := (HC1.out.cell hB).trans c2; clear hb1)
        | (go_at_call 45; with_reducible refine (HQ'.out w1.drew HW1.out.drew).mono ?_; rintro r v1 ⟨rfl, hb1⟩; have HC1 := Lib.hid (undrew hb1); have c01 := (HC1.out.cell hB).trans c0; have c11 := (HC1.out.cell hB).trans c1; have c21 := (HC1.out.cell hB).trans c2; clear hb1)
        | (go_at_call 45; with_reducible refine (HP'.out v1 (bt HW1.out HC1.out)).mono ?_; rintro r v2 ⟨rfl, hb2⟩; have HC2 := Lib.hid (bt HC1.out hb2); have c02 := (HC2.out.cell hB).trans c0; have c12 := (HC2.out.cell hB).trans c1; have c22 := (HC2.out.cell hB).trans c2; clear hb2)
        | (go_at_call 15; with_reducible refine (HO.out v1).mono ?_; rintro r v2 ⟨rfl, hb2⟩; have HC2 := Lib.hid (bt HC1.out hb2); have c02 := (HC2.out.cell hB).trans c0; have c12 := (HC2.out.cell hB).trans c1; have c22 := (HC2.out.cell hB).trans c2; clear hb2)
        | (go_at_call 45; with_reducible refine (HQ'.out v1 (bt HW1.out HC1.out)).mono ?_; rintro r v2 ⟨rfl, hb2⟩; have HC2 := Lib.hid (bt HC1.out hb2); have c02 := (HC2.out.cell hB).trans c0; have c12 := (HC2.out.cell hB).trans c1; have c22 := (HC2.out.cell hB).trans c2; clear hb2)
        | (go_at_call 45; with_reducible refine (HP'.out v2 (bt HW1.out HC2.out)).mono ?_; rintro r v3 ⟨rfl, hb3⟩; have HC3 := Lib.hid (bt HC2.out hb3); have c03 := (HC3.out.cell hB).trans c0; have c13 := (HC3.out.cell hB).trans c1; have c23 := (HC3.out.cell hB).trans c2; clear hb3)
        | (go_at_call 15; with_reducible refine (HO.out v2).mono ?_; rintro r v3 ⟨rfl, hb3⟩; have HC3 := Lib.hid (bt HC2.out hb3); have c03 := (HC3.out.cell hB).trans c0; have c13 := (HC3.out.cell hB).trans c1; have c23 := (HC3.out.cell hB).trans c2; clear hb3)
        | (go_at_call 45; with_reducible refine (HQ'.out v2 (bt HW1.out HC2.out)).mono ?_; rintro r v3 ⟨rfl, hb3⟩; have HC3 := Lib.hid (bt HC2.out hb3); have c03 := (HC3.out.cell hB).trans c0; have c13 := (HC3.out.cell hB).trans c1; have c23 := (HC3.out.cell hB).trans c2; clear hb3))
    all_goals go_wp2_with fail
    all_goals go_ret
    all_goals exact ⟨ret_bin P tx Q, bt HB1.out HC3.out⟩
  · have HP' : Hid (∀ w1, Below W0.heap.size W0 w1 → Calls Tryz.prog 45 #[(.slice (some ⟨G, O, none⟩) e.length C), .int .i64 (j : Int), .int .i64 8] w1 fun r w' => r = .returned (.string (str P)) ∧ Below w1.heap.size w1 w') := HP
    have HQ' : Hid (∀ w1, Below W0.heap.size W0 w1 → Calls Tryz.prog 45 #[(.slice (some ⟨G, O, none⟩) e.length C), .int .i64 (k : Int), .int .i64 9] w1 fun r w' => r = .returned (.string (str Q)) ∧ Below w1.heap.size w1 w') := HQ
    clear HP HQ
    go_enter Tryz.func27, Tryz.ntmps27
    go_wp2_with fail
    refine (HLV.out _).mono ?_
    rintro r w1 ⟨rfl, hb1⟩
    have hB : w.heap.size < w1.heap.size := by have := hb1.size; simp at this; omega
    have hbx1 := HBX.out.kept (Kept.of_below hb1)
    have HB1 := Lib.hid (bt (Tr.below_new _ _) hb1)
    have HW1 := Lib.hid (bt HW.out HB1.out)
    clear hb1 c0 c1 c2 c3 c4 c5 a0 a1 a2 a3 a4 a5
    obtain ⟨c0, c1, c2, -, -, -⟩ := hbx1.cells
    simp only at c0 c1 c2
    go_upto_region 27 with (fail)
    go_region_held3 (fun w' => w'.cell? ⟨w.heap.size, 0, none⟩ = some (.int .i64 op) ∧ w'.cell? ⟨w.heap.size, 1, none⟩ = some (.int .i64 j) ∧ w'.cell? ⟨w.heap.size, 2, none⟩ = some (.int .i64 k))
      (first | go_keep | exact ⟨c0, c1, c2⟩ | exact ⟨c03, c13, c23⟩ | exact ⟨c02, c12, c22⟩ | exact ⟨c01, c11, c21⟩)
      (first
        | (go_at_call 45; with_reducible refine (HP'.out w1.drew HW1.out.drew).mono ?_; rintro r v1 ⟨rfl, hb1⟩; have HC1 := Lib.hid (undrew hb1); have c01 := (HC1.out.cell hB).trans c0; have c11 := (HC1.out.cell hB).trans c1; have c21 := (HC1.out.cell hB).trans c2; clear hb1)
        | (go_at_call 15; with_reducible refine (HO.out w1.drew).mono ?_; rintro r v1 ⟨rfl, hb1⟩; have HC1 := Lib.hid (undrew hb1); have c01 := (HC1.out.cell hB).trans c0; have c11 := (HC1.out.cell hB).trans c1; have c21 := (HC1.out.cell hB).trans c2; clear hb1)
        | (go_at_call 45; with_reducible refine (HQ'.out w1.drew HW1.out.drew).mono ?_; rintro r v1 ⟨rfl, hb1⟩; have HC1 := Lib.hid (undrew hb1); have c01 := (HC1.out.cell hB).trans c0; have c11 := (HC1.out.cell hB).trans c1; have c21 := (HC1.out.cell hB).trans c2; clear hb1)
        | (go_at_call 45; with_reducible refine (HP'.out v1 (bt HW1.out HC1.out)).mono ?_; rintro r v2 ⟨rfl, hb2⟩; have HC2 := Lib.hid (bt HC1.out hb2); have c02 := (HC2.out.cell hB).trans c0; have c12 := (HC2.out.cell hB).trans c1; have c22 := (HC2.out.cell hB).trans c2; clear hb2)
        | (go_at_call 15; with_reducible refine (HO.out v1).mono ?_; rintro r v2 ⟨rfl, hb2⟩; have HC2 := Lib.hid (bt HC1.out hb2); have c02 := (HC2.out.cell hB).trans c0; have c12 := (HC2.out.cell hB).trans c1; have c22 := (HC2.out.cell hB).trans c2; clear hb2)
        | (go_at_call 45; with_reducible refine (HQ'.out v1 (bt HW1.out HC1.out)).mono ?_; rintro r v2 ⟨rfl, hb2⟩; have HC2 := Lib.hid (bt HC1.out hb2); have c02 := (HC2.out.cell hB).trans c0; have c12 := (HC2.out.cell hB).trans c1; have c22 := (HC2.out.cell hB).trans c2; clear hb2)
        | (go_at_call 45; with_reducible refine (HP'.out v2 (bt HW1.out HC2.out)).mono ?_; rintro r v3 ⟨rfl, hb3⟩; have HC3 := Lib.hid (bt HC2.out hb3); have c03 := (HC3.out.cell hB).trans c0; have c13 := (HC3.out.cell hB).trans c1; have c23 := (HC3.out.cell hB).trans c2; clear hb3)
        | (go_at_call 15; with_reducible refine (HO.out v2).mono ?_; rintro r v3 ⟨rfl, hb3⟩; have HC3 := Lib.hid (bt HC2.out hb3); have c03 := (HC3.out.cell hB).trans c0; have c13 := (HC3.out.cell hB).trans c1; have c23 := (HC3.out.cell hB).trans c2; clear hb3)
        | (go_at_call 45; with_reducible refine (HQ'.out v2 (bt HW1.out HC2.out)).mono ?_; rintro r v3 ⟨rfl, hb3⟩; have HC3 := Lib.hid (bt HC2.out hb3); have c03 := (HC3.out.cell hB).trans c0; have c13 := (HC3.out.cell hB).trans c1; have c23 := (HC3.out.cell hB).trans c2; clear hb3))
    all_goals go_wp2_with fail
    all_goals go_ret
    all_goals exact ⟨ret_bin P tx Q, bt HB1.out HC3.out⟩
end Go.Proofs.YtgohhnbdicdenaaGreatDoor.Sh

