/- The document's text of if. Conditions: the slice reads as a list of nodes; the operands' texts are written. -/
import Derived.Test.YtgohhnbdicdenaaGreatDoorPx26
namespace Go.Proofs.YtgohhnbdicdenaaGreatDoor.Sh
open Go.ChangeShapes Go.WideShapes Go.ChangeAt Go.RowKit
open Go.Proofs.YtgohhnbdicdenaaGreatDoor.Tr (str ret_bool ret_int Bytes Nd T Nodes May tree kidsM mkL mkT fitsB argsL unaryB binaryB ndCells)
set_option linter.unusedVariables false
set_option linter.unusedSimpArgs false

theorem ret_if (A B D : Bytes) : Ending.returned (.string ((⟨#[105, 102, 32]⟩ : ByteArray) ++ str A ++ (⟨#[32, 116, 104, 101, 110, 32]⟩ : ByteArray) ++ str B ++ (⟨#[32, 101, 108, 115, 101, 32]⟩ : ByteArray) ++ str D)) = .returned (.string (str ([105, 102, 32] ++ A ++ [32, 116, 104, 101, 110, 32] ++ B ++ [32, 101, 108, 115, 101, 32] ++ D))) := by
  rw [← app_str, ← app_str, ← app_str, ← app_str, ← app_str]; rfl
set_option maxRecDepth 100000 in
set_option maxHeartbeats 3200000 in
theorem rnode_if {W0 : World} {G O C : Nat} {e : List Nd} (cx : Cx W0 G O C e) {i j k m : Nat} {x : Nd} (hx : e[i]? = some x) (h1 : x.op = 26) (ha : x.a = (j : Int)) (hb : x.b = (k : Int)) (hc : x.c = (m : Int)) (ht : tree e i = .l3 x.lab (tree e j) (tree e k) (tree e m))
    (hp : NodeR W0 (.slice (some ⟨G, O, none⟩) e.length C) e j) (hq : NodeR W0 (.slice (some ⟨G, O, none⟩) e.length C) e k) (hr : NodeR W0 (.slice (some ⟨G, O, none⟩) e.length C) e m) : NodeR W0 (.slice (some ⟨G, O, none⟩) e.length C) e i := by
  intro hl w hw
  have hK : textT (tree e i) = [105, 102, 32] ++ textT (tree e j) ++ [32, 116, 104, 101, 110, 32] ++ textT (tree e k) ++ [32, 101, 108, 115, 101, 32] ++ textT (tree e m) := by rw [ht]; exact text_if _ _ _ _
  rw [hK] at hl ⊢
  simp only [List.length_append, List.length_cons, List.length_nil] at hl
  have HP := Lib.hid (hp (by omega))
  have HQ := Lib.hid (hq (by omega))
  have HR := Lib.hid (hr (by omega))
  obtain ⟨A, hA⟩ : ∃ t, textT (tree e j) = t := ⟨_, rfl⟩
  obtain ⟨B, hB'⟩ : ∃ t, textT (tree e k) = t := ⟨_, rfl⟩
  obtain ⟨D, hD⟩ : ∃ t, textT (tree e m) = t := ⟨_, rfl⟩
  rw [hA] at HP
  rw [hB'] at HQ
  rw [hD] at HR
  rw [hA, hB', hD] at hl ⊢
  have N1 : (9223372036854775807 < 3 + (str A).size) = False := eq_false (by rw [Tr.str_size]; omega)
  have N2 : (9223372036854775807 < 3 + (str A).size + 6) = False := eq_false (by rw [Tr.str_size]; omega)
  have N3 : (9223372036854775807 < 3 + (str A).size + 6 + (str B).size) = False := eq_false (by rw [Tr.str_size, Tr.str_size]; omega)
  have N4 : (9223372036854775807 < 3 + (str A).size + 6 + (str B).size + 6) = False := eq_false (by rw [Tr.str_size, Tr.str_size]; omega)
  have N5 : (9223372036854775807 < 3 + (str A).size + 6 + (str B).size + 6 + (str D).size) = False := eq_false (by rw [Tr.str_size, Tr.str_size, Tr.str_size]; omega)
  have hi := (List.getElem?_eq_some_iff.1 hx).1
  have hen := cx.may.le
  obtain ⟨a0, a1, a2, a3, a4, a5⟩ := cx.cells hw hx
  obtain ⟨op, na, nb, nc, nn, nm⟩ := x
  simp only at ha hb hc h1 a0 a1 a2 a3 a4 a5
  subst ha; subst hb; subst hc; subst h1
  have hbx : BoxAt ((w.alloc (.cells #[.int .i64 26, .int .i64 j, .int .i64 k, .int .i64 m, .int .i64 nn, .string (str nm)] 58))) w.heap.size ⟨26, j, k, m, nn, nm⟩ := heap_alloc_new w _
  obtain ⟨c0, c1, c2, c3, c4, c5⟩ := hbx.cells
  simp only at c0 c1 c2 c3 c4 c5
  have hB : w.heap.size < (w.alloc (.cells #[.int .i64 26, .int .i64 j, .int .i64 k, .int .i64 m, .int .i64 nn, .string (str nm)] 58)).heap.size := by simp
  have HW1 := Lib.hid (bt hw (Tr.below_new w (.cells #[.int .i64 26, .int .i64 j, .int .i64 k, .int .i64 m, .int .i64 nn, .string (str nm)] 58)))
  have HB1 := Lib.hid (Tr.below_new w (.cells #[.int .i64 26, .int .i64 j, .int .i64 k, .int .i64 m, .int .i64 nn, .string (str nm)] 58))
  clear hK ht hx cx hw hbx hl hp hq hr hA hB' hD
  go_enter Tryz.func27, Tryz.ntmps27
  go_upto_region 14 with (fail)
  clear a0 a1 a2 a3 a4 a5 c0 c4 c5
  go_region_held3 (fun w' => w'.cell? ⟨w.heap.size, 1, none⟩ = some (.int .i64 j) ∧ w'.cell? ⟨w.heap.size, 2, none⟩ = some (.int .i64 k) ∧ w'.cell? ⟨w.heap.size, 3, none⟩ = some (.int .i64 m))
    (first | go_keep | exact ⟨c1, c2, c3⟩ | exact ⟨c13, c23, c33⟩ | exact ⟨c12, c22, c32⟩ | exact ⟨c11, c21, c31⟩)
    (first
      | (go_at_call 27; with_reducible refine (HP.out (w.alloc (.cells #[.int .i64 26, .int .i64 j, .int .i64 k, .int .i64 m, .int .i64 nn, .string (str nm)] 58)).drew HW1.out.drew).mono ?_; rintro r v1 ⟨rfl, hb1⟩; have HC1 := Lib.hid (undrew hb1); have c11 := (HC1.out.cell hB).trans c1; have c21 := (HC1.out.cell hB).trans c2; have c31 := (HC1.out.cell hB).trans c3; clear hb1)
      | (go_at_call 27; with_reducible refine (HQ.out (w.alloc (.cells #[.int .i64 26, .int .i64 j, .int .i64 k, .int .i64 m, .int .i64 nn, .string (str nm)] 58)).drew HW1.out.drew).mono ?_; rintro r v1 ⟨rfl, hb1⟩; have HC1 := Lib.hid (undrew hb1); have c11 := (HC1.out.cell hB).trans c1; have c21 := (HC1.out.cell hB).trans c2; have c31 := (HC1.out.cell hB).trans c3; clear hb1)
      | (go_at_call 27; with_reducible refine (HR.out (w.alloc (.cells #[.int .i64 26, .int .i64 j, .int .i64 k, .int .i64 m, .int .i64 nn, .string (str nm)] 58)).drew HW1.out.drew).mono ?_; rintro r v1 ⟨rfl, hb1⟩; have HC1 := Lib.hid (undrew hb1); have c11 := (HC1.out.cell hB).trans c1; have c21 := (HC1.out.cell hB).trans c2; have c31 := (HC1.out.cell hB).trans c3; clear hb1)
      | (go_at_call 27; with_reducible refine (HP.out v1 (bt HW1.out HC1.out)).mono ?_; rintro r v2 ⟨rfl, hb2⟩; have HC2 := Lib.hid (bt HC1.out hb2); have c12 := (HC2.out.cell hB).trans c1; have c22 := (HC2.out.cell hB).trans c2; have c32 := (HC2.out.cell hB).trans c3; clear hb2)
      | (go_at_call 27; with_reducible refine (HQ.out v1 (bt HW1.out HC1.out)).mono ?_; rintro r v2 ⟨rfl, hb2⟩; have HC2 := Lib.hid (bt HC1.out hb2); have c12 := (HC2.out.cell hB).trans c1; have c22 := (HC2.out.cell hB).trans c2; have c32 := (HC2.out.cell hB).trans c3; clear hb2)
      | (go_at_call 27; with_reducible refine (HR.out v1 (bt HW1.out HC1.out)).mono ?_; rintro r v2 ⟨rfl, hb2⟩; have HC2 := Lib.hid (bt HC1.out hb2); have c12 := (HC2.out.cell hB).trans c1; have c22 := (HC2.out.cell hB).trans c2; have c32 := (HC2.out.cell hB).trans c3; clear hb2)
      | (go_at_call 27; with_reducible refine (HP.out v2 (bt HW1.out HC2.out)).mono ?_; rintro r v3 ⟨rfl, hb3⟩; have HC3 := Lib.hid (bt HC2.out hb3); have c13 := (HC3.out.cell hB).trans c1; have c23 := (HC3.out.cell hB).trans c2; have c33 := (HC3.out.cell hB).trans c3; clear hb3)
      | (go_at_call 27; with_reducible refine (HQ.out v2 (bt HW1.out HC2.out)).mono ?_; rintro r v3 ⟨rfl, hb3⟩; have HC3 := Lib.hid (bt HC2.out hb3); have c13 := (HC3.out.cell hB).trans c1; have c23 := (HC3.out.cell hB).trans c2; have c33 := (HC3.out.cell hB).trans c3; clear hb3)
      | (go_at_call 27; with_reducible refine (HR.out v2 (bt HW1.out HC2.out)).mono ?_; rintro r v3 ⟨rfl, hb3⟩; have HC3 := Lib.hid (bt HC2.out hb3); have c13 := (HC3.out.cell hB).trans c1; have c23 := (HC3.out.cell hB).trans c2; have c33 := (HC3.out.cell hB).trans c3; clear hb3))
  all_goals go_wp2_with fail
  all_goals go_ret
  all_goals exact ⟨ret_if A B D, bt HB1.out HC3.out⟩
end Go.Proofs.YtgohhnbdicdenaaGreatDoor.Sh

/- The document's text of Within. Conditions: the slice reads as a list of nodes; the operands' texts are written. -/
namespace Go.Proofs.YtgohhnbdicdenaaGreatDoor.Sh
open Go.ChangeShapes Go.WideShapes Go.ChangeAt Go.RowKit
open Go.Proofs.YtgohhnbdicdenaaGreatDoor.Tr (str ret_bool ret_int Bytes Nd T Nodes May tree kidsM mkL mkT fitsB argsL unaryB binaryB ndCells)
set_option linter.unusedVariables false
set_option linter.unusedSimpArgs false

theorem ret_within (A B : Bytes) : Ending.returned (.string ((⟨#[119, 105, 116, 104, 105, 110, 32]⟩ : ByteArray) ++ str A ++ (⟨#[32]⟩ : ByteArray) ++ str B)) = .returned (.string (str ([119, 105, 116, 104, 105, 110, 32] ++ A ++ [32] ++ B))) := by
  rw [← app_str, ← app_str, ← app_str]; rfl
set_option maxRecDepth 100000 in
set_option maxHeartbeats 3200000 in
theorem rnode_within {W0 : World} {G O C : Nat} {e : List Nd} (cx : Cx W0 G O C e) {i j : Nat} {x : Nd} (hx : e[i]? = some x) (h1 : x.op = 25) (ha : x.a = (j : Int)) (ht : tree e i = .l1 x.lab (tree e j))
    (hp : PartR W0 (.slice (some ⟨G, O, none⟩) e.length C) e j) : NodeR W0 (.slice (some ⟨G, O, none⟩) e.length C) e i := by
  intro hl w hw
  have hK : textT (tree e i) = [119, 105, 116, 104, 105, 110, 32] ++ digs x.n.toNat ++ [32] ++ partB 9 (tree e j) := by rw [ht]; exact text_within h1
  rw [hK] at hl ⊢
  have hpl := partB_len 9 (tree e j)
  simp only [List.length_append, List.length_cons, List.length_nil] at hl
  have HP := Lib.hid (fun w1 h => hp (by omega) w1 9 h)
  have hnn := plain_n (cx.may.node i x hx).plain (.inr (.inr h1))
  obtain ⟨q, hk⟩ : ∃ k : Nat, x.n = k := ⟨x.n.toNat, by omega⟩
  obtain ⟨dg, hdg⟩ : ∃ t, digs x.n.toNat = t := ⟨_, rfl⟩
  obtain ⟨P, hP⟩ : ∃ t, partB 9 (tree e j) = t := ⟨_, rfl⟩
  have HI : Hid (∀ w1, Calls Tryz.prog 43 #[.int .i64 x.n] w1 fun e w' => e = .returned (.string (str dg)) ∧ Below w1.heap.size w1 w') := Lib.hid (fun w1 => by rw [← hdg, hk]; exact rdigits_any q (by omega) w1)
  rw [hP] at HP
  rw [hdg, hP] at hl ⊢
  have N1 : (9223372036854775807 < 7 + (str dg).size) = False := eq_false (by rw [Tr.str_size]; omega)
  have N2 : (9223372036854775807 < 7 + (str dg).size + 1) = False := eq_false (by rw [Tr.str_size]; omega)
  have N3 : (9223372036854775807 < 7 + (str dg).size + 1 + (str P).size) = False := eq_false (by rw [Tr.str_size, Tr.str_size]; omega)
  have hi := (List.getElem?_eq_some_iff.1 hx).1
  have hen := cx.may.le
  obtain ⟨a0, a1, a2, a3, a4, a5⟩ := cx.cells hw hx
  obtain ⟨op, na, nb, nc, nn, nm⟩ := x
  simp only at ha h1 HI a0 a1 a2 a3 a4 a5
  subst ha; subst h1
  have hbx : BoxAt ((w.alloc (.cells #[.int .i64 25, .int .i64 j, .int .i64 nb, .int .i64 nc, .int .i64 nn, .string (str nm)] 58))) w.heap.size ⟨25, j, nb, nc, nn, nm⟩ := heap_alloc_new w _
  obtain ⟨c0, c1, c2, c3, c4, c5⟩ := hbx.cells
  simp only at c0 c1 c2 c3 c4 c5
  have hB : w.heap.size < (w.alloc (.cells #[.int .i64 25, .int .i64 j, .int .i64 nb, .int .i64 nc, .int .i64 nn, .string (str nm)] 58)).heap.size := by simp
  have HW1 := Lib.hid (bt hw (Tr.below_new w (.cells #[.int .i64 25, .int .i64 j, .int .i64 nb, .int .i64 nc, .int .i64 nn, .string (str nm)] 58)))
  have HB1 := Lib.hid (Tr.below_new w (.cells #[.int .i64 25, .int .i64 j, .int .i64 nb, .int .i64 nc, .int .i64 nn, .string (str nm)] 58))
  clear hK ht hx cx hw hbx hl hp hpl hnn hk hdg hP
  go_enter Tryz.func27, Tryz.ntmps27
  go_upto_region 16 with (fail)
  clear a0 a1 a2 a3 a4 a5 c0 c2 c3 c5
  go_region_held3 (fun w' => w'.cell? ⟨w.heap.size, 1, none⟩ = some (.int .i64 j) ∧ w'.cell? ⟨w.heap.size, 4, none⟩ = some (.int .i64 nn))
    (first | go_keep | exact ⟨c1, c4⟩ | exact ⟨c12, c42⟩ | exact ⟨c11, c41⟩)
    (first
      | (go_at_call 43; with_reducible refine (HI.out (w.alloc (.cells #[.int .i64 25, .int .i64 j, .int .i64 nb, .int .i64 nc, .int .i64 nn, .string (str nm)] 58)).drew).mono ?_; rintro r v1 ⟨rfl, hb1⟩; have HC1 := Lib.hid (undrew hb1); have c11 := (HC1.out.cell hB).trans c1; have c41 := (HC1.out.cell hB).trans c4; clear hb1)
      | (go_at_call 45; with_reducible refine (HP.out (w.alloc (.cells #[.int .i64 25, .int .i64 j, .int .i64 nb, .int .i64 nc, .int .i64 nn, .string (str nm)] 58)).drew HW1.out.drew).mono ?_; rintro r v1 ⟨rfl, hb1⟩; have HC1 := Lib.hid (undrew hb1); have c11 := (HC1.out.cell hB).trans c1; have c41 := (HC1.out.cell hB).trans c4; clear hb1)
      | (go_at_call 43; with_reducible refine (HI.out v1).mono ?_; rintro r v2 ⟨rfl, hb2⟩; have HC2 := Lib.hid (bt HC1.out hb2); have c12 := (HC2.out.cell hB).trans c1; have c42 := (HC2.out.cell hB).trans c4; clear hb2)
      | (go_at_call 45; with_reducible refine (HP.out v1 (bt HW1.out HC1.out)).mono ?_; rintro r v2 ⟨rfl, hb2⟩; have HC2 := Lib.hid (bt HC1.out hb2); have c12 := (HC2.out.cell hB).trans c1; have c42 := (HC2.out.cell hB).trans c4; clear hb2))
  all_goals go_wp2_with fail
  all_goals go_ret
  all_goals exact ⟨ret_within dg P, bt HB1.out HC2.out⟩
end Go.Proofs.YtgohhnbdicdenaaGreatDoor.Sh

/- The document's text of a call with no operands. Conditions: the slice reads as a list of nodes. -/
namespace Go.Proofs.YtgohhnbdicdenaaGreatDoor.Sh
open Go.ChangeShapes Go.WideShapes Go.ChangeAt Go.RowKit
open Go.Proofs.YtgohhnbdicdenaaGreatDoor.Tr (str ret_bool ret_int Bytes Nd T Nodes May tree kidsM mkL mkT fitsB argsL unaryB binaryB ndCells)
set_option linter.unusedVariables false
set_option linter.unusedSimpArgs false

/-- A call's text is what the document writes. -/
def CallR (W0 : World) (ev : Value) (e : List Nd) (i : Nat) : Prop := ∀ w : World, Below W0.heap.size W0 w →
  Calls Tryz.prog 44 #[ev, .int .i64 (i : Int)] w (fun r w' => r = .returned (.string (str (textT (tree e i)))) ∧ Below w.heap.size w w')
theorem ret_call0 (nm : Bytes) : Ending.returned (.string (str nm ++ (⟨#[32, 40, 32, 41]⟩ : ByteArray))) = .returned (.string (str (nm ++ [32, 40, 32, 41]))) := by
  rw [← app_str]; rfl
set_option maxRecDepth 100000 in
set_option maxHeartbeats 1600000 in
theorem rcall_none {W0 : World} {G O C : Nat} {e : List Nd} (cx : Cx W0 G O C e) {i : Nat} {x : Nd} (hx : e[i]? = some x) (h1 : x.op = 27) (ha : x.a = -1) (ht : tree e i = .l0 x.lab) (hl : (textT (tree e i)).length ≤ 100000) : CallR W0 (.slice (some ⟨G, O, none⟩) e.length C) e i := by
  intro w hw
  have hK : textT (tree e i) = x.name ++ [32, 40, 32, 41] := by rw [ht]; exact text_call0 h1
  rw [hK] at hl ⊢
  simp only [List.length_append, List.length_cons, List.length_nil] at hl
  have hi := (List.getElem?_eq_some_iff.1 hx).1
  have hen := cx.may.le
  obtain ⟨c0, c1, c2, c3, c4, c5⟩ := cx.cells hw hx
  obtain ⟨op, na, nb, nc, nn, nm⟩ := x
  simp only at h1 ha c0 c1 c2 c3 c4 c5 hl ⊢
  subst h1; subst ha
  have s1 : (str nm).size + 4 ≤ 9223372036854775807 := by rw [Tr.str_size]; omega
  clear hK ht hx cx hw hl
  go_enter Tryz.func44, Tryz.ntmps44
  go_wp2
  go_ret
  exact ⟨ret_call0 nm, Below.refl _ _⟩
set_option maxRecDepth 100000 in
set_option maxHeartbeats 1600000 in
theorem rnode_call {W0 : World} {G O C : Nat} {e : List Nd} (cx : Cx W0 G O C e) {i : Nat} {x : Nd} (hx : e[i]? = some x) (h1 : x.op = 27)
    (hp : (textT (tree e i)).length ≤ 100000 → CallR W0 (.slice (some ⟨G, O, none⟩) e.length C) e i) : NodeR W0 (.slice (some ⟨G, O, none⟩) e.length C) e i := by
  intro hl w hw
  have HC := Lib.hid (hp hl)
  unfold CallR at HC
  obtain ⟨K, hK⟩ : ∃ t, textT (tree e i) = t := ⟨_, rfl⟩
  rw [hK] at HC ⊢
  have hi := (List.getElem?_eq_some_iff.1 hx).1
  have hen := cx.may.le
  obtain ⟨a0, a1, a2, a3, a4, a5⟩ := cx.cells hw hx
  obtain ⟨op, na, nb, nc, nn, nm⟩ := x
  simp only at h1 a0 a1 a2 a3 a4 a5
  subst h1
  have hbx : BoxAt ((w.alloc (.cells #[.int .i64 27, .int .i64 na, .int .i64 nb, .int .i64 nc, .int .i64 nn, .string (str nm)] 58))) w.heap.size ⟨27, na, nb, nc, nn, nm⟩ := heap_alloc_new w _
  obtain ⟨c0, c1, c2, c3, c4, c5⟩ := hbx.cells
  simp only at c0 c1 c2 c3 c4 c5
  have HW := Lib.hid hw
  clear hK hx cx hw hbx hl hp
  go_enter Tryz.func27, Tryz.ntmps27
  go_wp2_with fail
  refine (HC.out _ (bt HW.out (Tr.below_new _ _))).mono ?_
  rintro r w1 ⟨rfl, hb1⟩
  have HB1 := Lib.hid hb1
  clear hb1 c0 c1 c2 c3 c4 c5 a0 a1 a2 a3 a4 a5
  go_wp2
  go_ret
  exact ⟨rfl, bt (Tr.below_new _ _) HB1.out⟩
end Go.Proofs.YtgohhnbdicdenaaGreatDoor.Sh

/- A call's operands, from the last one to the first, and the text that is put together from them. Conditions: the list may be. -/
namespace Go.Proofs.YtgohhnbdicdenaaGreatDoor.Sh
open Go.Proofs.YtgohhnbdicdenaaGreatDoor.Tr (str Bytes Nd T May tree)
set_option linter.unusedVariables false
set_option linter.unusedSimpArgs false

/-- The texts from an Args on, or none. -/
def restT (e : List Nd) (i : Int) : List Bytes := if i < 0 then [] else argTs (tree e i.toNat)
/-- One operand, and those before it. -/
theorem args_step {e : List Nd} (hm : May e) {q : Nat} {x : Nd} (hx : e[q]? = some x) (h28 : x.op = 28) :
    ∃ k : Nat, k < q ∧ x.a = (k : Int) ∧ (tree e k).lab.op ≠ 28 ∧ argTs (tree e q) = textT (tree e k) :: restT e x.b ∧ (x.b = -1 ∨ ∃ j : Nat, j < q ∧ x.b = (j : Int) ∧ (tree e j).lab.op = 28) := by
  rcases shape hm hx with ⟨ha, hb, hc, ht, ho⟩ | ⟨j, hj, ha, hb, hc, ht, ho⟩ | ⟨j, k, hj, hk, hbn, ha, hb, hc, ht, h1, h2⟩ | ⟨j, k, hj, hk, _, hb, ha, hc, ht, h1, h2⟩ | ⟨j, k, m, hj, hk, hm', h26, ha, hb, hc, ht, h1, h2, h3⟩
  · omega
  · rcases ho with ⟨hu, _⟩ | ⟨h27, _⟩ | ⟨_, hj28⟩
    · rw [h28] at hu; exact absurd hu (by decide)
    · omega
    · refine ⟨j, hj, ha, hj28, ?_, .inl hb⟩
      rw [ht, hb]; simp [argTs, restT]
  · rw [h28] at hbn; exact absurd hbn (by decide)
  · refine ⟨k, hk, ha, h2, ?_, .inr ⟨j, hj, hb, h1⟩⟩
    rw [ht, hb]
    have : ¬ (j : Int) < 0 := by omega
    simp only [argTs, restT, if_neg this, Int.toNat_natCast]
  · omega
/-- What stands written when the operands from number k on have been. -/
def accF (s : Bytes) (A : List Bytes) (k : Nat) : Bytes := if A.length ≤ k then s else callF s (A.drop k) ++ (if 0 < k then [32, 44] else [])
theorem acc_end (s : Bytes) (A : List Bytes) : accF s A A.length = s := by unfold accF; rw [if_pos (Nat.le_refl _)]
theorem acc_zero (s : Bytes) (A : List Bytes) (h : A ≠ []) : accF s A 0 = callF s A := by
  unfold accF
  have : ¬ A.length ≤ 0 := by cases A with
    | nil => exact absurd rfl h
    | cons a r => simp
  rw [if_neg this]; simp
theorem acc_step (s : Bytes) (A : List Bytes) {k : Nat} {a : Bytes} (h : A[k]? = some a) : accF s A k = accF s A (k + 1) ++ [32] ++ a ++ (if 0 < k then [32, 44] else []) := by
  have hk := (List.getElem?_eq_some_iff.1 h).1
  have hd : A.drop k = a :: A.drop (k + 1) := by
    rw [List.drop_eq_getElem_cons hk, (List.getElem?_eq_some_iff.1 h).2]
  unfold accF
  rw [if_neg (by omega : ¬ A.length ≤ k), hd]
  by_cases h1 : A.length ≤ k + 1
  · rw [if_pos h1, List.drop_eq_nil_of_le h1]; rfl
  · rw [if_neg h1, if_pos (by omega : 0 < k + 1)]
    have h2 : A.drop (k + 1) ≠ [] := by
      intro h3
      have := congrArg List.length h3
      rw [List.length_drop] at this; simp at this; omega
    cases hr : A.drop (k + 1) with
    | nil => exact absurd hr h2
    | cons b r => simp [callF]
theorem callF_len (s : Bytes) : ∀ A : List Bytes, (∀ a ∈ A, a.length ≤ (callF s A).length) ∧ s.length ≤ (callF s A).length
  | [] => ⟨by simp, by simp [callF]⟩
  | [a] => ⟨by simp [callF]; omega, by simp [callF]⟩
  | a :: b :: r => by
    obtain ⟨h1, h2⟩ := callF_len s (b :: r)
    refine ⟨fun x hx => ?_, by simp only [callF, List.length_append]; omega⟩
    rcases List.mem_cons.1 hx with rfl | hx
    · simp only [callF, List.length_append]; omega
    · have := h1 x hx
      simp only [callF, List.length_append]; omega
end Go.Proofs.YtgohhnbdicdenaaGreatDoor.Sh

