/- A node is written, where its operands are. Conditions: a writer lies in memory. -/
import Derived.Test.YtgohhnbdicdenaaGreatDoorPq15
import Derived.Test.YtgohhnbdicdenaaGreatDoorPk07
import Derived.Test.YtgohhnbdicdenaaGreatDoorPk10
import Derived.Test.YtgohhnbdicdenaaGreatDoorPk01
import Derived.Deep.Slices
import Derived.ChangeArms
import Derived.SliceStrings
import Derived.Carry
import Derived.Test.YtgohhnbdicdenaaGreatDoorPq14
namespace Go.Proofs.YtgohhnbdicdenaaGreatDoor.Sh
open Go.ChangeShapes Go.WideShapes Go.ChangeAt Go.RowKit
open Go.Proofs.YtgohhnbdicdenaaGreatDoor.Tr (str ret_bool ret_int Bytes Nd T Nodes May tree kidsM mkL mkT fitsB argsL unaryB binaryB ndCells)
set_option linter.unusedVariables false
set_option linter.unusedSimpArgs false

set_option maxRecDepth 100000 in
set_option maxHeartbeats 1600000 in
theorem node_num {W0 : World} {G O C : Nat} {e : List Nd} (cx : Cx W0 G O C e) {i : Nat} {x : Nd} (hx : e[i]? = some x) (h1 : x.op = 1) (ht : tree e i = .l0 x.lab) : NodeOk W0 (.slice (some ⟨G, O, none⟩) e.length C) e i x := by
  intro w l hw hl
  have hK : toks (tree e i) = [numT x.n] := by rw [ht]; simp [toks, Tr.Nd.lab, h1]
  rw [hK] at hl ⊢
  have hnn := plain_n (cx.may.node i x hx).plain (.inl h1)
  obtain ⟨dg, hdg⟩ : ∃ t, digs x.n.toNat = t := ⟨_, rfl⟩
  have HI : Hid (∀ w1, Below W0.heap.size W0 w1 → Calls Tryz.prog 79 #[.int .i64 x.n] w1 fun e w' => e = .returned (.string (str dg)) ∧ Below w1.heap.size w1 w') := Lib.hid (fun w1 h => by rw [← hdg]; exact itoa_any x.n hnn.1 hnn.2 w1 (cx.tabAt h))
  have HE := Lib.hid (show l ++ txts [numT x.n] = l ++ [dg] by simp [txts, numT, hdg])
  rw [HE.out]
  simp only [List.length_cons, List.length_nil] at hl
  have ST := Lib.hid (show St W0 w (.slice (some ⟨G, O, none⟩) e.length C) l w from ⟨hw, Kept.refl _⟩)
  obtain ⟨op, na, nb, nc, nn, nm⟩ := x
  simp only at h1 HI
  subst h1
  have hbx : BoxAt ((w.alloc (.cells #[.int .i64 1, .int .i64 na, .int .i64 nb, .int .i64 nc, .int .i64 nn, .string (str nm)] 58))) w.heap.size ⟨1, na, nb, nc, nn, nm⟩ := heap_alloc_new w _
  have HBX := Lib.hid hbx
  obtain ⟨c0, c1, c2, c3, c4, c5⟩ := hbx.cells
  simp only at c0 c1 c2 c3 c4 c5
  clear hK ht hx cx hw hbx HE hdg hnn
  go_enter Tryz.func40, Tryz.ntmps40
  go_wp2_with fail
  refine (HI.out _ (alloc_st ST.out _).wr.below).mono ?_
  rintro r w1 ⟨rfl, hb1⟩
  have ST1 := Lib.hid ((alloc_st ST.out _).up hb1)
  clear hb1 c0 c1 c2 c3 c4 c5
  go_wp2_with fail
  refine (put1 (t := dg) rfl (by simp) ST1.out.wr (by omega)).mono ?_
  rintro r w2 ⟨rfl, hw2, hk2⟩
  have ST2 := Lib.hid (ST1.out.to hw2 hk2)
  clear hw2 hk2
  go_wp2
  go_end0
  exact ⟨rfl, ST2.out.wr, ST2.out.kept⟩
set_option maxRecDepth 100000 in
set_option maxHeartbeats 1600000 in
theorem node_bool {W0 : World} {G O C : Nat} {e : List Nd} (cx : Cx W0 G O C e) {i : Nat} {x : Nd} (hx : e[i]? = some x) (h1 : x.op = 2) (ht : tree e i = .l0 x.lab) : NodeOk W0 (.slice (some ⟨G, O, none⟩) e.length C) e i x := by
  intro w l hw hl
  have hK : toks (tree e i) = [if x.n = 1 then tTrue else tFalse] := by rw [ht]; simp [toks, Tr.Nd.lab, h1]
  rw [hK] at hl ⊢
  obtain ⟨dg, hdg⟩ : ∃ t, (if x.n = 1 then tTrue.2 else tFalse.2) = t := ⟨_, rfl⟩
  have HI : Hid (∀ w1, Calls Tryz.prog 80 #[.int .i64 x.n] w1 fun e w' => e = .returned (.string (str dg)) ∧ w1 = w') := Lib.hid (fun w1 => by rw [← hdg]; exact truth_any x.n w1)
  have HE := Lib.hid (show l ++ txts [if x.n = 1 then tTrue else tFalse] = l ++ [dg] by rw [← hdg]; simp only [txts, List.map_cons, List.map_nil]; split <;> rfl)
  rw [HE.out]
  simp only [List.length_cons, List.length_nil] at hl
  have ST := Lib.hid (show St W0 w (.slice (some ⟨G, O, none⟩) e.length C) l w from ⟨hw, Kept.refl _⟩)
  obtain ⟨op, na, nb, nc, nn, nm⟩ := x
  simp only at h1 HI
  subst h1
  have hbx : BoxAt ((w.alloc (.cells #[.int .i64 2, .int .i64 na, .int .i64 nb, .int .i64 nc, .int .i64 nn, .string (str nm)] 58))) w.heap.size ⟨2, na, nb, nc, nn, nm⟩ := heap_alloc_new w _
  have HBX := Lib.hid hbx
  obtain ⟨c0, c1, c2, c3, c4, c5⟩ := hbx.cells
  simp only at c0 c1 c2 c3 c4 c5
  clear hK ht hx cx hw hbx HE hdg
  go_enter Tryz.func40, Tryz.ntmps40
  go_wp2_with fail
  refine (HI.out _).mono ?_
  rintro r w1 ⟨rfl, rfl⟩
  clear c0 c1 c2 c3 c4 c5
  go_wp2_with fail
  refine (put1 (t := dg) rfl (by simp) (alloc_st ST.out _).wr (by omega)).mono ?_
  rintro r w2 ⟨rfl, hw2, hk2⟩
  have ST2 := Lib.hid ((alloc_st ST.out _).to hw2 hk2)
  clear hw2 hk2
  go_wp2
  go_end0
  exact ⟨rfl, ST2.out.wr, ST2.out.kept⟩
set_option maxRecDepth 100000 in
set_option maxHeartbeats 1600000 in
theorem node_var {W0 : World} {G O C : Nat} {e : List Nd} (cx : Cx W0 G O C e) {i : Nat} {x : Nd} (hx : e[i]? = some x) (h1 : x.op = 3) (ht : tree e i = .l0 x.lab) : NodeOk W0 (.slice (some ⟨G, O, none⟩) e.length C) e i x := by
  intro w l hw hl
  have hK : toks (tree e i) = [nameT x.name] := by rw [ht]; simp [toks, Tr.Nd.lab, h1]
  rw [hK] at hl ⊢
  have HE := Lib.hid (show l ++ txts [nameT x.name] = l ++ [x.name] by simp [txts, nameT])
  rw [HE.out]
  simp only [List.length_cons, List.length_nil] at hl
  have ST := Lib.hid (show St W0 w (.slice (some ⟨G, O, none⟩) e.length C) l w from ⟨hw, Kept.refl _⟩)
  obtain ⟨op, na, nb, nc, nn, nm⟩ := x
  simp only at h1
  subst h1
  have hbx : BoxAt ((w.alloc (.cells #[.int .i64 3, .int .i64 na, .int .i64 nb, .int .i64 nc, .int .i64 nn, .string (str nm)] 58))) w.heap.size ⟨3, na, nb, nc, nn, nm⟩ := heap_alloc_new w _
  have HBX := Lib.hid hbx
  obtain ⟨c0, c1, c2, c3, c4, c5⟩ := hbx.cells
  simp only at c0 c1 c2 c3 c4 c5
  clear hK ht hx cx hw hbx HE
  go_enter Tryz.func40, Tryz.ntmps40
  go_wp2_with fail
  refine (put1 (t := nm) rfl (by simp) (alloc_st ST.out _).wr (by omega)).mono ?_
  rintro r w2 ⟨rfl, hw2, hk2⟩
  have ST2 := Lib.hid ((alloc_st ST.out _).to hw2 hk2)
  clear hw2 hk2
  go_wp2
  go_end0
  exact ⟨rfl, ST2.out.wr, ST2.out.kept⟩
set_option maxRecDepth 100000 in
set_option maxHeartbeats 1600000 in
theorem node_call {W0 : World} {G O C : Nat} {e : List Nd} (cx : Cx W0 G O C e) {i : Nat} {x : Nd} (hx : e[i]? = some x) (h1 : x.op = 27) (S : List KT) (hK : toks (tree e i) = nameT x.name :: tLp :: (S ++ [tRp]))
    (hp : ∀ (w : World) (l : List Bytes), WrAt W0 w (.slice (some ⟨G, O, none⟩) e.length C) l → l.length + S.length ≤ 1000000 → Calls Tryz.prog 81 #[.pointer (some ⟨W0.heap.size, 0, none⟩), .int .i64 x.a] w (WrTo W0 w (.slice (some ⟨G, O, none⟩) e.length C) (l ++ txts S))) : NodeOk W0 (.slice (some ⟨G, O, none⟩) e.length C) e i x := by
  intro w l hw hl
  rw [hK] at hl ⊢
  have HE := Lib.hid (show l ++ txts (nameT x.name :: tLp :: (S ++ [tRp])) = ((l ++ [x.name, [40]]) ++ txts S) ++ [[41]] by simp [txts, nameT, tLp, tRp])
  rw [HE.out]
  simp only [List.length_cons, List.length_nil, List.length_append] at hl
  have HP := Lib.hid hp
  have ST := Lib.hid (show St W0 w (.slice (some ⟨G, O, none⟩) e.length C) l w from ⟨hw, Kept.refl _⟩)
  obtain ⟨op, na, nb, nc, nn, nm⟩ := x
  simp only at h1 HP
  subst h1
  have hbx : BoxAt ((w.alloc (.cells #[.int .i64 27, .int .i64 na, .int .i64 nb, .int .i64 nc, .int .i64 nn, .string (str nm)] 58))) w.heap.size ⟨27, na, nb, nc, nn, nm⟩ := heap_alloc_new w _
  have HBX := Lib.hid hbx
  obtain ⟨c0, c1, c2, c3, c4, c5⟩ := hbx.cells
  simp only at c0 c1 c2 c3 c4 c5
  clear hK hp hx cx hw hbx HE
  go_enter Tryz.func40, Tryz.ntmps40
  go_wp2_with fail
  refine (put2 (t := nm) (u := [40]) rfl rfl (by simp) (alloc_st ST.out _).wr (by omega)).mono ?_
  rintro r w2 ⟨rfl, hw2, hk2⟩
  have ST2 := Lib.hid ((alloc_st ST.out _).to hw2 hk2)
  have hb2 := HBX.out.kept hk2
  clear hw2 hk2 c0 c1 c2 c3 c4 c5
  obtain ⟨c0, c1, c2, c3, c4, c5⟩ := hb2.cells
  simp only at c0 c1 c2 c3 c4 c5
  clear hb2
  go_wp2_with fail
  refine (HP.out _ _ ST2.out.wr (by rw [List.length_append]; simp; omega)).mono ?_
  rintro r w3 ⟨rfl, hw3, hk3⟩
  have ST3 := Lib.hid (ST2.out.to hw3 hk3)
  clear hw3 hk3 c0 c1 c2 c3 c4 c5
  go_wp2_with fail
  refine (put1 (t := [41]) rfl (by simp) ST3.out.wr (by rw [List.length_append, List.length_append, txts_len]; simp; omega)).mono ?_
  rintro r w4 ⟨rfl, hw4, hk4⟩
  have ST4 := Lib.hid (ST3.out.to hw4 hk4)
  clear hw4 hk4
  go_wp2
  go_end0
  exact ⟨rfl, ST4.out.wr, ST4.out.kept⟩
set_option maxRecDepth 100000 in
set_option maxHeartbeats 1600000 in
theorem node_if {W0 : World} {G O C : Nat} {e : List Nd} (cx : Cx W0 G O C e) {i j k m : Nat} {x : Nd} (hx : e[i]? = some x) (h1 : x.op = 26) (ha : x.a = (j : Int)) (hb : x.b = (k : Int)) (hc : x.c = (m : Int)) (A B D : List KT) (hK : toks (tree e i) = tIf :: (A ++ tThen :: (B ++ tElse :: D)))
    (hA : partT 0 (tree e j) = A) (hB : partT 0 (tree e k) = B) (hD : partT 0 (tree e m) = D)
    (hp : PartOk W0 (.slice (some ⟨G, O, none⟩) e.length C) e j) (hq : PartOk W0 (.slice (some ⟨G, O, none⟩) e.length C) e k) (hr : PartOk W0 (.slice (some ⟨G, O, none⟩) e.length C) e m) : NodeOk W0 (.slice (some ⟨G, O, none⟩) e.length C) e i x := by
  intro w l hw hl
  rw [hK] at hl ⊢
  have HE := Lib.hid (show l ++ txts (tIf :: (A ++ tThen :: (B ++ tElse :: D))) = (((((l ++ [[105, 102]]) ++ txts A) ++ [[116, 104, 101, 110]]) ++ txts B) ++ [[101, 108, 115, 101]]) ++ txts D by simp [txts, tIf, tThen, tElse])
  rw [HE.out]
  simp only [List.length_cons, List.length_nil, List.length_append] at hl
  have HO : Hid (∀ w1, Below W0.heap.size W0 w1 → Calls Tryz.prog 14 #[.int .i64 26] w1 fun e w' => e = .returned (.string (str [105, 102])) ∧ Below w1.heap.size w1 w') := Lib.hid (fun w1 h => op_any 26 w1 (cx.sgAt h))
  have HA := Lib.hid hA
  have HB := Lib.hid hB
  have HD := Lib.hid hD
  have HP := Lib.hid hp
  have HQ := Lib.hid hq
  have HR := Lib.hid hr
  have ST := Lib.hid (show St W0 w (.slice (some ⟨G, O, none⟩) e.length C) l w from ⟨hw, Kept.refl _⟩)
  obtain ⟨op, na, nb, nc, nn, nm⟩ := x
  simp only at h1 ha hb hc
  subst h1; subst ha; subst hb; subst hc
  have hbx : BoxAt ((w.alloc (.cells #[.int .i64 26, .int .i64 j, .int .i64 k, .int .i64 m, .int .i64 nn, .string (str nm)] 58))) w.heap.size ⟨26, j, k, m, nn, nm⟩ := heap_alloc_new w _
  have HBX := Lib.hid hbx
  obtain ⟨c0, c1, c2, c3, c4, c5⟩ := hbx.cells
  simp only at c0 c1 c2 c3 c4 c5
  clear hK hp hq hr hA hB hD hx cx hw hbx HE
  go_enter Tryz.func40, Tryz.ntmps40
  go_wp2_with fail
  refine (HO.out _ (alloc_st ST.out _).wr.below).mono ?_
  rintro r w1 ⟨rfl, hb1⟩
  have ST1 := Lib.hid ((alloc_st ST.out _).up hb1)
  have HB1 := Lib.hid (HBX.out.kept (Kept.of_below hb1))
  clear hb1 c0 c1 c2 c3 c4 c5
  go_wp2_with fail
  refine (put1 (t := [105, 102]) rfl (by simp) ST1.out.wr (by omega)).mono ?_
  rintro r w2 ⟨rfl, hw2, hk2⟩
  have ST2 := Lib.hid (ST1.out.to hw2 hk2)
  have hb2 := HB1.out.kept hk2
  have HB2 := Lib.hid hb2
  clear hw2 hk2
  obtain ⟨c0, c1, c2, c3, c4, c5⟩ := hb2.cells
  simp only at c0 c1 c2 c3 c4 c5
  clear hb2
  go_wp2_with fail
  refine (HP.out _ _ 0 ST2.out.wr (by rw [HA.out, List.length_append]; simp; omega)).mono ?_
  rintro r w3 ⟨rfl, hw3, hk3⟩
  rw [HA.out] at hw3
  have ST3 := Lib.hid (ST2.out.to hw3 hk3)
  have HB3 := Lib.hid (HB2.out.kept hk3)
  clear hw3 hk3 c0 c1 c2 c3 c4 c5
  go_wp2_with fail
  refine (put1 (t := [116, 104, 101, 110]) rfl (by simp) ST3.out.wr (by rw [List.length_append, List.length_append, txts_len]; simp; omega)).mono ?_
  rintro r w4 ⟨rfl, hw4, hk4⟩
  have ST4 := Lib.hid (ST3.out.to hw4 hk4)
  have hb4 := HB3.out.kept hk4
  have HB4 := Lib.hid hb4
  clear hw4 hk4
  obtain ⟨c0, c1, c2, c3, c4, c5⟩ := hb4.cells
  simp only at c0 c1 c2 c3 c4 c5
  clear hb4
  go_wp2_with fail
  refine (HQ.out _ _ 0 ST4.out.wr (by rw [HB.out, List.length_append, List.length_append, List.length_append, txts_len]; simp; omega)).mono ?_
  rintro r w5 ⟨rfl, hw5, hk5⟩
  rw [HB.out] at hw5
  have ST5 := Lib.hid (ST4.out.to hw5 hk5)
  have HB5 := Lib.hid (HB4.out.kept hk5)
  clear hw5 hk5 c0 c1 c2 c3 c4 c5
  go_wp2_with fail
  refine (put1 (t := [101, 108, 115, 101]) rfl (by simp) ST5.out.wr (by simp only [List.length_append, txts_len, List.length_cons, List.length_nil]; omega)).mono ?_
  rintro r w6 ⟨rfl, hw6, hk6⟩
  have ST6 := Lib.hid (ST5.out.to hw6 hk6)
  have hb6 := HB5.out.kept hk6
  clear hw6 hk6
  obtain ⟨c0, c1, c2, c3, c4, c5⟩ := hb6.cells
  simp only at c0 c1 c2 c3 c4 c5
  clear hb6
  go_wp2_with fail
  refine (HR.out _ _ 0 ST6.out.wr (by rw [HD.out]; simp only [List.length_append, txts_len, List.length_cons, List.length_nil]; omega)).mono ?_
  rintro r w7 ⟨rfl, hw7, hk7⟩
  rw [HD.out] at hw7
  have ST7 := Lib.hid (ST6.out.to hw7 hk7)
  clear hw7 hk7
  go_wp2
  go_end0
  exact ⟨rfl, ST7.out.wr, ST7.out.kept⟩
set_option maxRecDepth 100000 in
set_option maxHeartbeats 1600000 in
theorem node_op {W0 : World} {G O C : Nat} {e : List Nd} (cx : Cx W0 G O C e) {i : Nat} {x : Nd} (hx : e[i]? = some x) (h1 : x.op ≠ 1) (h2 : x.op ≠ 2) (h3 : x.op ≠ 3) (h26 : x.op ≠ 26) (h27 : x.op ≠ 27)
    (hp : OperOk W0 (.slice (some ⟨G, O, none⟩) e.length C) e i x) : NodeOk W0 (.slice (some ⟨G, O, none⟩) e.length C) e i x := by
  intro w l hw hl
  have d1 : (x.op == 1) = false := by simpa using h1
  have d2 : (x.op == 2) = false := by simpa using h2
  have d3 : (x.op == 3) = false := by simpa using h3
  have d26 : (x.op == 26) = false := by simpa using h26
  have d27 : (x.op == 27) = false := by simpa using h27
  unfold OperOk at hp
  generalize toks (tree e i) = K at hp hl ⊢
  have HL := Lib.hid hl
  have HP := Lib.hid hp
  have ST := Lib.hid (show St W0 w (.slice (some ⟨G, O, none⟩) e.length C) l w from ⟨hw, Kept.refl _⟩)
  obtain ⟨op, na, nb, nc, nn, nm⟩ := x
  simp only at d1 d2 d3 d26 d27
  have hbx : BoxAt ((w.alloc (.cells #[.int .i64 op, .int .i64 na, .int .i64 nb, .int .i64 nc, .int .i64 nn, .string (str nm)] 58))) w.heap.size ⟨op, na, nb, nc, nn, nm⟩ := heap_alloc_new w _
  have HBX := Lib.hid hbx
  obtain ⟨c0, c1, c2, c3, c4, c5⟩ := hbx.cells
  simp only at c0 c1 c2 c3 c4 c5
  clear hp hl hx cx hw hbx h1 h2 h3 h26 h27
  go_enter Tryz.func40, Tryz.ntmps40
  go_wp2_with fail
  refine (HP.out _ _ (alloc_st ST.out _).wr HL.out).mono ?_
  rintro r w2 ⟨rfl, hw2, hk2⟩
  have ST2 := Lib.hid ((alloc_st ST.out _).to hw2 hk2)
  clear hw2 hk2
  go_wp2
  go_end0
  exact ⟨rfl, ST2.out.wr, ST2.out.kept⟩
end Go.Proofs.YtgohhnbdicdenaaGreatDoor.Sh

/- What is written of a tree is read as it: of two and three operands; all of it. Conditions: none. -/
namespace Go.Proofs.YtgohhnbdicdenaaGreatDoor.Sh
open Go.Proofs.YtgohhnbdicdenaaGreatDoor.Tr Go.Proofs.YtgohhnbdicdenaaGreatDoor.Ex
set_option linter.unusedVariables false
set_option linter.unusedSimpArgs false

theorem reads_if (x : Lab) (a b c : T) (Ha : Reads a) (Hb : Reads b) (Hc : Reads c) (h : (T.l3 x a b c).okB = true) : Reads (.l3 x a b c) := by
  have hp := ok_plain h
  simp only [T.lab] at hp
  simp only [T.okB, Bool.and_eq_true] at h
  obtain ⟨⟨⟨⟨⟨_, hf⟩, ha⟩, oka⟩, okb⟩, okc⟩ := h
  have hdep : (T.l3 x a b c).depth = max (max a.depth b.depth) c.depth + 1 := rfl
  have ho : x.op = 26 := by
    unfold fitsB at hf
    by_cases hu : unaryB x.op = true
    · rw [if_pos hu] at hf; cases hf
    · rw [if_neg hu] at hf
      by_cases h26 : x.op = 26
      · exact h26
      · rw [if_neg h26] at hf
        by_cases h27 : x.op = 27
        · rw [if_pos h27] at hf; cases hf
        · rw [if_neg h27] at hf
          by_cases h28 : x.op = 28
          · rw [if_pos h28] at hf; cases hf
          · rw [if_neg h28] at hf
            split at hf <;> cases hf
  have hx : x = ⟨26, 0, []⟩ := lab_eq ho (n_zero hp (by omega) (by omega) (by omega)) (name_nil hp (by omega) (by omega))
  have hh : a.lab.op ≠ 28 ∧ b.lab.op ≠ 28 ∧ c.lab.op ≠ 28 := by
    simp [argsT, argsL, ho] at ha; exact ⟨ha.1.1, ha.1.2, ha.2⟩
  have ht : toks (.l3 x a b c) = tIf :: (toks a ++ tThen :: (toks b ++ tElse :: toks c)) := rfl
  refine ⟨fun _ n h1 h9 h26 _ r rest hs he hb => ?_, fun _ h26 => absurd ho h26, fun _ h26 => absurd ho h26, fun h28 => by simp only [T.lab] at h28; omega, fun rest => by rw [ht]; rfl⟩
  obtain rfl := h26 ho
  rw [hdep] at hb
  rw [ht] at hs ⊢
  have hs' : see r.open_ = tIf :: (toks a ++ tThen :: (toks b ++ tElse :: (toks c ++ rest))) := by rw [see_open, hs]; simp
  obtain ⟨c1, c2, c3, c4⟩ := see_cons hs'
  have g1 := Ha.lev hh.1 1 (by omega) (by omega) (fun _ => rfl) (fun h26 => lev_pos oka h26 hh.1) r.open_.adv _ c4 (ends_then _) (by show r.begun + 1 + _ ≤ 200; omega)
  have d1 := see_app (a := toks a) c4 rfl
  obtain ⟨_, _, _, d2⟩ := see_cons d1
  have g2 := Hb.lev hh.2.1 1 (by omega) (by omega) (fun _ => rfl) (fun h26 => lev_pos okb h26 hh.2.1) _ _ d2 (ends_else _) (by show r.begun + 1 + _ ≤ 200; omega)
  have e1 := see_app (a := toks b) d2 rfl
  obtain ⟨_, _, _, e2⟩ := see_cons e1
  have g3 := Hc.lev hh.2.2 1 (by omega) (by omega) (fun _ => rfl) (fun h26 => lev_pos okc h26 hh.2.2) _ _ e2 he (by show r.begun + 1 + _ ≤ 200; omega)
  have hO := gets_single (r := r) (by omega) (by rw [sign_see, hs']; rfl) (gets_if (r := r.open_) (by rw [isB_see, hs']; rfl) (by rw [isB_see, hs']; rfl) g1 (by rw [isB_see, d1]; rfl) g2 (by rw [isB_see, e1]; rfl) g3)
  rw [ptOf_if 0 [] a b c, ← hx] at hO
  have e : (fwd (fwd (fwd r.open_.adv (toks a).length).adv (toks b).length).adv (toks c).length).shut = fwd r (tIf :: (toks a ++ tThen :: (toks b ++ tElse :: toks c))).length := by
    simp [fwd, Rd.adv, Rd.open_, Rd.shut]; omega
  rw [e] at hO
  exact gets_to (by omega) (Nat.le_refl _) (gets_nine hO) (fun j k1 k2 => he.sign (see_app (a := toks (.l3 x a b c)) (by rw [ht]; exact hs) rfl) j k1 (by omega))

theorem reads_two (x : Lab) (p q : T) (Hp : Reads p) (Hq : Reads q) (h : (T.l2 x p q).okB = true) : Reads (.l2 x p q) := by
  have hpl := ok_plain h
  simp only [T.lab] at hpl
  simp only [T.okB, Bool.and_eq_true] at h
  obtain ⟨⟨⟨⟨_, hf⟩, ha⟩, okp⟩, okq⟩ := h
  have hdep : (T.l2 x p q).depth = max p.depth q.depth + 1 := rfl
  have hop : binaryB x.op = true ∨ x.op = 28 := by
    unfold fitsB at hf
    by_cases hu : unaryB x.op = true
    · rw [if_pos hu] at hf; cases hf
    · rw [if_neg hu] at hf
      by_cases h26 : x.op = 26
      · rw [if_pos h26] at hf; cases hf
      · rw [if_neg h26] at hf
        by_cases h27 : x.op = 27
        · rw [if_pos h27] at hf; cases hf
        · rw [if_neg h27] at hf
          by_cases h28 : x.op = 28
          · exact .inr h28
          · rw [if_neg h28] at hf
            by_cases hb : binaryB x.op = true
            · exact .inl hb
            · rw [if_neg hb] at hf; cases hf
  rcases hop with ho | ho
  · have hbn := ho
    simp [binaryB] at hbn
    have hx : x = ⟨x.op, 0, []⟩ := lab_eq rfl (n_zero hpl (by omega) (by omega) (by omega)) (name_nil hpl (by omega) (by omega))
    have hjoin : sjoin (x.op, false) (ptOf p) (ptOf q) = ptOf (.l2 x p q) := by
      show joined x.op 0 [] [ptOf p, ptOf q] = _
      rw [ptOf_bin x.op 0 [] p q ho, ← hx]
    have h28 : p.lab.op ≠ 28 ∧ q.lab.op ≠ 28 := by
      have e27 : (x.op == 27) = false := beq_eq_false_iff_ne.2 (by omega)
      have e28 : (x.op == 28) = false := beq_eq_false_iff_ne.2 (by omega)
      simp [argsT, argsL, e27, e28] at ha
      exact ha
    obtain ⟨b1, b2, b3, b4, b5, b6⟩ := bin_fact ho
    obtain ⟨L, hL⟩ : ∃ L, lv x.op = L := ⟨_, rfl⟩
    rw [hL] at b1 b2 b3 b4 b5
    have ht : toks (.l2 x p q) = partT (leftOf (L : Int)) p ++ kd (opText x.op) :: partT (rightOf (L : Int)) q := by
      simp only [toks]; rw [if_neg (by omega), b3]; rfl
    have hends : ∀ l, Ends (L + 1) (kd (opText x.op) :: l) := fun l => ⟨b6 l, fun k k1 k2 => b5 k l (by omega) k2 (by omega)⟩
    have hhead : ∀ rest, isBL rp (toks (.l2 x p q) ++ rest) = false := fun rest => by
      rw [ht, List.append_assoc]; exact sur_head Hp.head
    have hlen : ∀ (r : Rd) (k : Nat), (fwd (fwd r k).adv (partT (rightOf (L : Int)) q).length) = fwd r (k + 1 + (partT (rightOf (L : Int)) q).length) := fun r k => by simp [fwd, Rd.adv, Nat.add_assoc]
    have htl : ∀ A : List KT, partT (leftOf (L : Int)) p = A → (toks (.l2 x p q)).length = A.length + 1 + (partT (rightOf (L : Int)) q).length := fun A hA => by rw [ht, hA]; simp; omega
    by_cases hL2 : L ≤ 2
    · -- from the right
      have e1 : leftOf (L : Int) = ((L + 1 : Nat) : Int) := by unfold leftOf; rw [if_pos (by omega)]; simp
      have e2 : rightOf (L : Int) = (L : Int) := by unfold rightOf; rw [if_pos (by omega)]
      have hlev : ∀ r rest, see r = toks (.l2 x p q) ++ rest → Ends L rest → r.begun + 2 * (T.l2 x p q).depth ≤ 200 → Gets (.lev L) r (ptOf (.l2 x p q)) (fwd r (toks (.l2 x p q)).length) := fun r rest hs he hb => by
        rw [hdep] at hb
        rw [ht, List.append_assoc, e1] at hs
        have g1 := part_lev Hp okp h28.1 (n := L + 1) (by omega) (by omega) hs (hends _) (by omega)
        have c1 := see_app hs rfl
        obtain ⟨_, _, _, c2⟩ := see_cons (b := partT (rightOf (L : Int)) q ++ rest) c1
        rw [e2] at c2
        have g2 := part_lev Hq okq h28.2 (n := L) b1 (by omega) c2 he (by show r.begun + _ + 1 ≤ 200; omega)
        have := gets_right hL2 g1 (by rw [sign_see, c1]; exact b4 _) g2
        rw [hjoin, ← e2, hlen] at this
        rw [htl _ rfl, e1]; exact this
      exact ⟨fun _ n h1 h9 _ hl r rest hs he hb => gets_to (by have := hl (by simp only [T.lab]; omega); simp only [T.lab] at this; omega) (by omega) (hlev r rest hs (he.up (by have := hl (by simp only [T.lab]; omega); simp only [T.lab] at this; omega)) hb) (fun j k1 k2 => he.sign (see_app hs rfl) j k1 (by omega)),
        fun _ _ h9 => by simp only [T.lab] at h9; omega, fun _ _ n h3 _ _ hl => by simp only [T.lab] at hl; omega, fun h => by simp only [T.lab] at h; omega, hhead⟩
    · by_cases hL6 : L = 6
      · subst hL6
        have hlev : ∀ r rest, see r = toks (.l2 x p q) ++ rest → Ends 7 rest → r.begun + 2 * (T.l2 x p q).depth ≤ 200 → Gets (.lev 6) r (ptOf (.l2 x p q)) (fwd r (toks (.l2 x p q)).length) := fun r rest hs he hb => by
          rw [hdep] at hb
          rw [ht, List.append_assoc] at hs
          have g1 := part_lev Hp okp h28.1 (n := 7) (by omega) (by omega) hs (hends _) (by omega)
          have c1 := see_app hs rfl
          obtain ⟨_, _, _, c2⟩ := see_cons (b := partT (rightOf ((6 : Nat) : Int)) q ++ rest) c1
          have g2 := part_lev Hq okq h28.2 (n := 7) (by omega) (by omega) c2 he (by show r.begun + _ + 1 ≤ 200; omega)
          have := gets_ll (n := 6) (by omega) (by omega) g1 (gets_ll_six (s := (x.op, false)) (by rw [sign_see]; exact (congrArg (signL 6) c1).trans (b4 _)) g2)
          rw [hjoin] at this
          rw [htl _ rfl, ← hlen]; exact this
        exact ⟨fun _ n h1 h9 _ hl r rest hs he hb => by
            have hn6 : n ≤ 6 := by have := hl (by simp only [T.lab]; omega); simp only [T.lab] at this; omega
            exact gets_to hn6 (by omega) (hlev r rest hs (he.up (by omega)) hb) (fun j k1 k2 => he.sign (see_app hs rfl) j k1 (by omega)),
          fun _ _ h9 => by simp only [T.lab] at h9; omega,
          fun _ _ n h3 h8 h6 hl r rest hs he hb x' r' k => by
            have hn6 : n ≤ 6 := by simp only [T.lab] at hl; omega
            exact gets_ll h3 h8 (gets_to (m := 6) (by omega) (by omega) (hlev r rest hs (he.up (by omega)) hb) (fun j k1 k2 => he.sign (see_app hs rfl) j k1 (by omega))) k,
          fun h => by simp only [T.lab] at h; omega, hhead⟩
      · -- from the left
        have e1 : leftOf (L : Int) = (L : Int) := by unfold leftOf; rw [if_neg (by omega), if_neg (by omega)]
        have e2 : rightOf (L : Int) = ((L + 1 : Nat) : Int) := by unfold rightOf; rw [if_neg (by omega)]; simp
        have hll : ∀ r rest, see r = toks (.l2 x p q) ++ rest → Ends (L + 1) rest → r.begun + 2 * (T.l2 x p q).depth ≤ 200 → ∀ x' r', Gets (.ll L (ptOf (.l2 x p q))) (fwd r (toks (.l2 x p q)).length) x' r' → Gets (.lev L) r x' r' := fun r rest hs he hb x' r' k => by
          rw [hdep] at hb
          rw [htl _ rfl, ← hlen] at k
          rw [ht, List.append_assoc] at hs
          have c1 := see_app hs rfl
          obtain ⟨_, _, _, c2⟩ := see_cons (b := partT (rightOf (L : Int)) q ++ rest) c1
          rw [e2] at c2 k
          have g2 := part_lev Hq okq h28.2 (n := L + 1) (by omega) (by omega) c2 he (by show r.begun + _ + 1 ≤ 200; omega)
          have g3 := gets_ll_step (s := (x.op, false)) (p := ptOf p) (by rw [sign_see]; exact (congrArg (signL L) c1).trans (b4 _)) g2 hL6 (by rw [hjoin]; exact k)
          by_cases hlp : levM p.lab.op < (L : Int)
          · have e3 : partT (leftOf (L : Int)) p = partT ((L + 1 : Nat) : Int) p := by
              unfold partT; rw [e1, decide_eq_true hlp, decide_eq_true (by omega)]
            rw [e3] at hs g3
            exact gets_ll (by omega) b2 (part_lev Hp okp h28.1 (n := L + 1) (by omega) (by omega) hs (hends _) (by omega)) g3
          · have e3 : partT (leftOf (L : Int)) p = toks p := by
              unfold partT sur; rw [e1, if_neg (by simpa using hlp)]
            rw [e3] at hs g3
            exact Hp.ll h28.1 (no26 (n := (L : Int)) (by omega) (by omega)) L (by omega) b2 hL6 (by omega) r _ hs (hends _) (by omega) _ _ g3
        have hlev : ∀ r rest, see r = toks (.l2 x p q) ++ rest → Ends L rest → r.begun + 2 * (T.l2 x p q).depth ≤ 200 → Gets (.lev L) r (ptOf (.l2 x p q)) (fwd r (toks (.l2 x p q)).length) := fun r rest hs he hb =>
          hll r rest hs (he.up (by omega)) hb _ _ (gets_ll_end (he.sign (see_app hs rfl) L (Nat.le_refl _) b2))
        have hlow : ∀ n, 1 ≤ n → n ≤ L → ∀ r rest, see r = toks (.l2 x p q) ++ rest → Ends n rest → r.begun + 2 * (T.l2 x p q).depth ≤ 200 → Gets (.lev n) r (ptOf (.l2 x p q)) (fwd r (toks (.l2 x p q)).length) := fun n h1 hn r rest hs he hb =>
          gets_to hn (by omega) (hlev r rest hs (he.up hn) hb) (fun j k1 k2 => he.sign (see_app hs rfl) j k1 (by omega))
        exact ⟨fun _ n h1 h9 _ hl r rest hs he hb => hlow n h1 (by have := hl (by simp only [T.lab]; omega); simp only [T.lab] at this; omega) r rest hs he hb,
          fun _ _ h9 => by simp only [T.lab] at h9; omega,
          fun _ _ n h3 h8 h6 hl r rest hs he hb x' r' k => by
            have hnL : n ≤ L := by simp only [T.lab] at hl; omega
            rcases Nat.lt_or_ge n L with hlt | hge
            · exact gets_ll h3 h8 (hlow (n + 1) (by omega) hlt r rest hs he hb) k
            · obtain rfl : n = L := by omega
              exact hll r rest hs he hb x' r' k,
          fun h => by simp only [T.lab] at h; omega, hhead⟩
  · have h28 : p.lab.op = 28 ∧ q.lab.op ≠ 28 := by simp [argsT, argsL, ho] at ha; exact ha
    have ht : toks (.l2 x p q) = toks p ++ tCo :: toks q := by simp only [toks]; rw [if_pos ho]
    refine ⟨fun h => absurd ho h, fun h => absurd ho h, fun h => absurd ho h, fun _ s r rest hs he hb x' r' k => ?_, fun rest => by rw [ht, List.append_assoc]; exact Hp.head _⟩
    rw [hdep] at hb
    rw [ht, List.append_assoc] at hs
    have c1 := see_app hs rfl
    obtain ⟨_, _, _, c2⟩ := see_cons (b := toks q ++ rest) c1
    have g := Hq.lev h28.2 1 (by omega) (by omega) (fun _ => rfl) (fun h26 => lev_pos okq h26 h28.2) _ rest c2 he (by show r.begun + _ ≤ 200; omega)
    have e : fwd (fwd r (toks p).length).adv (toks q).length = fwd r (toks (.l2 x p q)).length := by rw [ht]; simp [fwd, Rd.adv]; omega
    rw [e] at g
    refine Hp.args h28.1 s r _ hs (ends_co _) (by omega) x' r' (gets_more s (by rw [isB_see]; exact (congrArg (isBL [44]) c1).trans rfl) g ?_)
    have : (opsOf (.l2 x p q)).map ptOf = (opsOf p).map ptOf ++ [ptOf q] := by simp [opsOf]
    rw [this] at k
    exact k
theorem reads_all : ∀ t : T, t.okB = true → namedT t = true → Reads t := by
  intro t
  induction t with
  | l0 x => intro h hn; exact reads_leaf x h hn
  | l1 x p ih =>
    intro h hn
    have h' := h
    simp only [T.okB, namedT, Bool.and_eq_true] at h' hn
    exact reads_one x p (ih h'.2 hn.2) h
  | l2 x p q ih1 ih2 =>
    intro h hn
    have h' := h
    simp only [T.okB, namedT, Bool.and_eq_true] at h' hn
    exact reads_two x p q (ih1 h'.1.2 hn.1.2) (ih2 h'.2 hn.2) h
  | l3 x p q r ih1 ih2 ih3 =>
    intro h hn
    have h' := h
    simp only [T.okB, namedT, Bool.and_eq_true] at h' hn
    exact reads_if x p q r (ih1 h'.1.1.2 hn.1.1.2) (ih2 h'.1.2 hn.1.2) (ih3 h'.2 hn.2) h
end Go.Proofs.YtgohhnbdicdenaaGreatDoor.Sh

/- What is written of an expression, as a text, and read again: it is the expression, in order. Conditions: none. -/
namespace Go.Proofs.YtgohhnbdicdenaaGreatDoor.Sh
open Go.Proofs.YtgohhnbdicdenaaGreatDoor.Tr Go.Proofs.YtgohhnbdicdenaaGreatDoor.Ex
set_option linter.unusedVariables false
set_option linter.unusedSimpArgs false

def goodB (K : Int) (T : Bytes) : Bool := (T.all Lx.digitB && (T != []) && (Lx.digM T == (K, 0))) || (T.all Lx.ofNameB && (T != []) && !Lx.digitB (T.headD 0) && (Lx.letM T == (K, 0))) || (Lx.signTexts.contains T && (K == 4))
theorem good_of {K : Int} {T : Bytes} (h : goodB K T = true) : Lx.Good K T := by
  simp only [goodB, Bool.or_eq_true, Bool.and_eq_true, bne_iff_ne, ne_eq, beq_iff_eq, Bool.not_eq_true', List.contains_iff_mem] at h
  rcases h with (⟨⟨h1, h2⟩, h3⟩ | ⟨⟨⟨h1, h2⟩, h3⟩, h4⟩) | ⟨h1, h2⟩
  · exact .inl ⟨h1, h2, h3⟩
  · exact .inr (.inl ⟨h1, h2, h3, h4⟩)
  · exact .inr (.inr ⟨h1, h2⟩)
/-- Tokens that lex tells. -/
def GoodK (l : List KT) : Prop := ∀ x ∈ l, Lx.Good x.1 x.2
theorem GoodK.app {a b : List KT} (ha : GoodK a) (hb : GoodK b) : GoodK (a ++ b) := fun x hx => (List.mem_append.1 hx).elim (ha x) (hb x)
theorem GoodK.cons {x : KT} {b : List KT} (ha : Lx.Good x.1 x.2) (hb : GoodK b) : GoodK (x :: b) := fun y hy => by
  rcases List.mem_cons.1 hy with rfl | hy
  · exact ha
  · exact hb y hy
theorem GoodK.nil : GoodK [] := fun x hx => by simp at hx
theorem GoodK.sur {b : Bool} {l : List KT} (h : GoodK l) : GoodK (sur b l) := by
  unfold Sh.sur; split
  · exact GoodK.cons (good_of (by decide)) (h.app (GoodK.cons (good_of (by decide)) GoodK.nil))
  · exact h
theorem name_good {s : Bytes} (h : Lx.nameB s = true) : Lx.Good 1 s := by
  have hw := Lx.name_no_word s h
  have h' := h
  simp only [Lx.nameB, Bool.and_eq_true, Bool.not_eq_true'] at h'
  refine .inr (.inl ⟨h'.2, ?_, h'.1.1.2, ?_⟩)
  · rintro rfl; simp at h'
  · unfold Lx.letM; rw [hw, h]; rfl
theorem digs_head (n : Nat) : 1 ≤ n → (digs n).headD 0 ≠ 48 := by
  induction n using Nat.strongRecOn with
  | _ n ih =>
    intro h1
    by_cases h : n < 10
    · rw [digs_lt h]
      have hall : ∀ k : Fin 10, 1 ≤ k.val → (48 + k.val).toUInt8 ≠ 48 := by decide
      exact hall ⟨n, h⟩ h1
    · rw [digs_ge h]
      have := ih (n / 10) (by omega) (by omega)
      have hne := (digs_val (n / 10)).2.2
      cases hd : digs (n / 10) with
      | nil => exact absurd hd hne
      | cons c r => rw [hd] at this; exact this
theorem digs_good {n : Nat} (h : n ≤ 2147483647) : Lx.Good 2 (digs n) := by
  obtain ⟨h1, h2, h3⟩ := digs_val n
  refine .inl ⟨h2, h3, ?_⟩
  rw [Lx.digM_val _ h2 h3, if_neg]
  rw [h1]
  rintro (⟨k1, k2⟩ | k)
  · by_cases h10 : n < 10
    · rw [digs_lt h10] at k1; simp at k1
    · exact digs_head n (by omega) k2
  · omega
theorem op_good {o : Int} (h : 4 ≤ o ∧ o ≤ 25) : Lx.Good (kd (opText o)).1 (kd (opText o)).2 := by
  have hall : ∀ k : Fin 22, goodB (kd (opText ((k.val : Int) + 4))).1 (kd (opText ((k.val : Int) + 4))).2 = true := by decide +kernel
  have := hall ⟨(o - 4).toNat, by omega⟩
  rw [show (((⟨(o - 4).toNat, by omega⟩ : Fin 22).val : Int) + 4) = o by simp; omega] at this
  exact good_of this
/-- How long a text is, with a blank behind each token. -/
def cost (l : List KT) : Nat := (l.map fun x => x.2.length + 1).sum
theorem cost_app (a b : List KT) : cost (a ++ b) = cost a + cost b := by simp [cost]
theorem cost_cons (x : KT) (b : List KT) : cost (x :: b) = x.2.length + 1 + cost b := by simp [cost]
theorem cost_nil : cost [] = 0 := rfl
theorem cost_sur (b : Bool) (l : List KT) : cost (sur b l) ≤ cost l + 4 := by
  unfold sur; split
  · rw [cost_cons, cost_app, cost_cons, cost_nil]; simp [tLp, tRp]; omega
  · omega
theorem digs_len (n : Nat) (h : n ≤ 2147483647) : (digs n).length ≤ 10 := by
  obtain ⟨h1, h2, h3⟩ := digs_val n
  have hg := digs_good h
  apply Classical.byContradiction
  intro hl
  cases hd : digs n with
  | nil => exact h3 hd
  | cons c r =>
    by_cases h0 : n = 0
    · subst h0; rw [digs_lt (by omega)] at hl; simp at hl
    · have hh := digs_head n (by omega)
      rw [hd] at hh h1 h2 hl
      simp only [List.all_cons, Bool.and_eq_true] at h2
      have := Lx.val_ge c r h2.1 hh
      rw [h1] at this
      have h10 : (10 : Nat) ^ 10 ≤ 10 ^ r.length := Nat.pow_le_pow_right (by omega) (by simp at hl; omega)
      have e10 : (10 : Nat) ^ 10 = 10000000000 := by decide
      omega
theorem op_len (o : Int) : (opText o).length ≤ 6 := by
  unfold opText
  split
  · simp
  · have hall : ∀ x ∈ opTexts, x.length ≤ 6 := by decide
    cases h : opTexts[o.toNat]? with
    | none => simp
    | some x => exact hall x (List.mem_of_getElem? h)
/-- The tokens of a tree are lex's; they are not too long. -/
theorem toks_good : ∀ t : T, t.okB = true → namedT t = true → GoodK (toks t) ∧ cost (toks t) ≤ 50 * t.size := by
  have hnm : ∀ x : Lab, plainB x = true → ((x.name == []) || Lx.nameB x.name) = true → x.op = 3 ∨ x.op = 27 → Lx.nameB x.name = true := fun x hp hn ho => by
    simp only [Bool.or_eq_true, beq_iff_eq] at hn
    exact hn.resolve_left (name_some hp ho)
  intro t
  induction t with
  | l0 x =>
    intro h hn
    have hp := ok_plain h
    simp only [T.lab] at hp
    have hp' := hp
    simp only [plainB, Bool.and_eq_true, decide_eq_true_eq] at hp'
    simp only [T.okB, Bool.and_eq_true] at h
    simp only [namedT] at hn
    simp only [toks, T.size]
    split
    · rename_i ho
      have h0 := hp'.1.2; have h1 := hp'.2
      rw [if_pos ho] at h1
      have := digs_len x.n.toNat (by omega)
      exact ⟨GoodK.cons (digs_good (by omega)) GoodK.nil, by rw [cost_cons, cost_nil]; simp only [numT]; omega⟩
    · split
      · split
        · exact ⟨GoodK.cons (good_of (by decide)) GoodK.nil, by decide⟩
        · exact ⟨GoodK.cons (good_of (by decide)) GoodK.nil, by decide⟩
      · split
        · rename_i ho
          have := hnm x hp hn (.inr ho)
          have hl := Lx.name_len _ this
          exact ⟨GoodK.cons (name_good this) (GoodK.cons (good_of (by decide)) (GoodK.cons (good_of (by decide)) GoodK.nil)), by rw [cost_cons, cost_cons, cost_cons, cost_nil]; simp only [nameT, tLp, tRp, List.length_cons, List.length_nil]; omega⟩
        · rename_i h1 h2 h27
          have ho : x.op = 3 := by
            have hf := h.2
            have h1' := hp'.1.1.1.1; have h2' := hp'.1.1.1.2
            unfold fitsB at hf
            by_cases hu : unaryB x.op = true
            · rw [if_pos hu] at hf; cases hf
            · rw [if_neg hu] at hf
              by_cases h26 : x.op = 26
              · rw [if_pos h26] at hf; cases hf
              · rw [if_neg h26, if_neg h27] at hf
                by_cases h28 : x.op = 28
                · rw [if_pos h28] at hf; cases hf
                · rw [if_neg h28] at hf
                  by_cases hb : binaryB x.op = true
                  · rw [if_pos hb] at hf; cases hf
                  · simp [unaryB] at hu; simp [binaryB] at hb; omega
          have := hnm x hp hn (.inl ho)
          have hl := Lx.name_len _ this
          exact ⟨GoodK.cons (name_good this) GoodK.nil, by rw [cost_cons, cost_nil]; simp only [nameT]; omega⟩
  | l1 x p ih =>
    intro h hn
    have hp := ok_plain h
    simp only [T.lab] at hp
    have hp' := hp
    simp only [plainB, Bool.and_eq_true, decide_eq_true_eq] at hp'
    simp only [T.okB, Bool.and_eq_true] at h
    simp only [namedT, Bool.and_eq_true] at hn
    obtain ⟨g, c⟩ := ih h.2 hn.2
    simp only [toks, T.size]
    split
    · rename_i ho
      have := hnm x hp hn.1 (.inr ho)
      have hl := Lx.name_len _ this
      refine ⟨GoodK.cons (name_good this) (GoodK.cons (good_of (by decide)) (g.app (GoodK.cons (good_of (by decide)) GoodK.nil))), ?_⟩
      rw [cost_cons, cost_cons, cost_app, cost_cons, cost_nil]; simp only [nameT, tLp, tRp, List.length_cons, List.length_nil]; omega
    · split
      · exact ⟨g, by omega⟩
      · rename_i h27 h28
        have hu : unaryB x.op = true := by
          have hf := h.1.1.2
          unfold fitsB at hf
          by_cases hu : unaryB x.op = true
          · exact hu
          · rw [if_neg hu] at hf
            by_cases h26 : x.op = 26
            · rw [if_pos h26] at hf; cases hf
            · rw [if_neg h26, if_neg h27, if_neg h28] at hf
              split at hf <;> cases hf
        simp [unaryB] at hu
        have hc := cost_sur (decide (levM p.lab.op < 9)) (toks p)
        have hl := op_len x.op
        refine ⟨GoodK.cons (op_good (by omega)) (GoodK.app ?_ g.sur), ?_⟩
        · split
          · rename_i h25
            have h0 := hp'.1.2; have h1 := hp'.2
            rw [if_neg (by omega), if_neg (by omega), if_pos h25] at h1
            exact GoodK.cons (digs_good (by omega)) GoodK.nil
          · exact GoodK.nil
        · rw [cost_cons, cost_app]
          have e : (kd (opText x.op)).2.length ≤ 6 := hl
          split
          · rename_i h25
            have h0 := hp'.1.2; have h1 := hp'.2
            rw [if_neg (by omega), if_neg (by omega), if_pos h25] at h1
            have := digs_len x.n.toNat (by omega)
            rw [cost_cons, cost_nil]; simp only [numT]; omega
          · rw [cost_nil]; omega
  | l2 x p q ih1 ih2 =>
    intro h hn
    have hp := ok_plain h
    simp only [T.lab] at hp
    simp only [T.okB, Bool.and_eq_true] at h
    simp only [namedT, Bool.and_eq_true] at hn
    obtain ⟨g1, c1⟩ := ih1 h.1.2 hn.1.2
    obtain ⟨g2, c2⟩ := ih2 h.2 hn.2
    simp only [toks, T.size]
    split
    · refine ⟨g1.app (GoodK.cons (good_of (by decide)) g2), ?_⟩
      rw [cost_app, cost_cons]; simp only [tCo, List.length_cons, List.length_nil]; omega
    · rename_i h28
      have hb : binaryB x.op = true := by
        have hf := h.1.1.1.2
        unfold fitsB at hf
        by_cases hu : unaryB x.op = true
        · rw [if_pos hu] at hf; cases hf
        · rw [if_neg hu] at hf
          by_cases h26 : x.op = 26
          · rw [if_pos h26] at hf; cases hf
          · rw [if_neg h26] at hf
            by_cases h27 : x.op = 27
            · rw [if_pos h27] at hf; cases hf
            · rw [if_neg h27, if_neg h28] at hf
              by_cases hb : binaryB x.op = true
              · exact hb
              · rw [if_neg hb] at hf; cases hf
      simp [binaryB] at hb
      have e : (kd (opText x.op)).2.length ≤ 6 := op_len x.op
      have d1 := cost_sur (decide (levM p.lab.op < leftOf (levM x.op))) (toks p)
      have d2 := cost_sur (decide (levM q.lab.op < rightOf (levM x.op))) (toks q)
      refine ⟨g1.sur.app (GoodK.cons (op_good (by omega)) g2.sur), ?_⟩
      rw [cost_app, cost_cons]; omega
  | l3 x a b c ih1 ih2 ih3 =>
    intro h hn
    simp only [T.okB, Bool.and_eq_true] at h
    simp only [namedT, Bool.and_eq_true] at hn
    obtain ⟨g1, c1⟩ := ih1 h.1.1.2 hn.1.1.2
    obtain ⟨g2, c2⟩ := ih2 h.1.2 hn.1.2
    obtain ⟨g3, c3⟩ := ih3 h.2 hn.2
    simp only [toks, T.size]
    refine ⟨GoodK.cons (good_of (by decide)) (g1.app (GoodK.cons (good_of (by decide)) (g2.app (GoodK.cons (good_of (by decide)) g3)))), ?_⟩
    rw [cost_cons, cost_app, cost_cons, cost_app, cost_cons]; simp only [tIf, tThen, tElse, List.length_cons, List.length_nil]; omega

/-- Tokens as a text. -/
def tokOf (x : KT) : Tok := ⟨x.1, x.2, 0⟩
def textT (t : T) : Bytes := Lx.joinM ((toks t).map tokOf)
theorem join_cost : ∀ l : List KT, (Lx.joinM (l.map tokOf)).length ≤ cost l
  | [] => by simp [Lx.joinM_nil]
  | [x] => by rw [List.map_cons, List.map_nil, Lx.joinM_one, cost_cons, cost_nil]; simp [tokOf]
  | x :: y :: r => by
    have := join_cost (y :: r)
    rw [List.map_cons] at this
    rw [List.map_cons, List.map_cons, Lx.joinM_more, List.length_append, List.length_cons, cost_cons]
    simp only [tokOf] at this ⊢
    omega
theorem alike_see {L M : List Tok} (h : Lx.Alike L M) : M.map kt = L.map kt := by
  apply List.ext_getElem?
  intro i
  rw [List.getElem?_map, List.getElem?_map]
  by_cases hi : i < L.length
  · have hi2 : i < M.length := by rw [← h.1]; exact hi
    rw [List.getElem?_eq_getElem hi, List.getElem?_eq_getElem hi2]
    have := h.2 i _ _ (List.getElem?_eq_getElem hi) (List.getElem?_eq_getElem hi2)
    simp [kt, this.1, this.2]
  · have hm := h.1
    rw [List.getElem?_eq_none (by omega), List.getElem?_eq_none (by omega)]
theorem tok_kt (l : List KT) : (l.map tokOf).map kt = l := by
  rw [List.map_map]; conv => rhs; rw [← List.map_id l]
  rfl
/-- What is written of a tree is read as it. -/
theorem text_read {t : T} (hok : okT t) (hn : namedT t = true) (hs : t.size ≤ 2000) (hd : t.depth ≤ 40) : readM (textT t) = (t.flat 0, 0, 0) := by
  obtain ⟨g, c⟩ := toks_good t hok.1 hn
  have hlen : (textT t).length ≤ 100000 := Nat.le_trans (join_cost _) (by omega)
  have hg : ∀ x ∈ (toks t).map tokOf, Lx.Good x.kind x.text := fun x hx => by
    obtain ⟨y, hy, rfl⟩ := List.mem_map.1 hx
    exact g y hy
  obtain ⟨M, hM, hA⟩ := Lx.join_back _ 0 hg
  have hL : Lx.lexM (textT t) = .ok M := by
    rw [Lx.lexM_eq _ (by omega)]
    unfold textT
    rw [Lx.join_skip _ hg, List.drop_zero]; exact hM
  have hsee : see (rd0 M) = toks t ++ [] := by
    unfold see rd0
    rw [List.drop_zero, alike_see hA, tok_kt, List.append_nil]
  have hml : M.length = (toks t).length := by rw [← hA.1, List.length_map]
  obtain ⟨p, r, e⟩ := rd_total M
  have hG := (reads_all t hok.1 hn).lev hok.2 1 (by omega) (by omega) (fun _ => rfl) (fun h26 => lev_pos hok.1 h26 hok.2) (rd0 M) [] hsee ends_nil (by show 0 + _ ≤ 200; omega)
  obtain ⟨rfl, rfl⟩ := hG.det e
  have hP : Parsed M (ptOf t) (fwd (rd0 M) (toks t).length) := ⟨e, rfl, by show t.size ≤ 5000; omega, hd⟩
  have hv := hP.val
  have hnx : (fwd (rd0 M) (toks t).length).next = M.length := by show 0 + _ = _; omega
  unfold readM
  rw [hL]
  simp only
  rw [hv, if_neg (by simp only; omega)]
  simp only [ptOf]
  rw [if_pos ⟨by omega, hd⟩]
end Go.Proofs.YtgohhnbdicdenaaGreatDoor.Sh

/- Trees counted on, put together and with trees in the places of leaves; the names in a tree. Conditions: none. -/
namespace Go.Proofs.YtgohhnbdicdenaaGreatDoor.Tr
open Go.RowKit
set_option linter.unusedVariables false
set_option linter.unusedSimpArgs false

theorem onM_none (f : Int) : onM f (-1) = -1 := by unfold onM; rw [if_neg (by omega)]
theorem onM_nat (f k : Nat) (h : k + f ≤ 1000000000) : onM (f : Int) (k : Int) = ((k + f : Nat) : Int) := by
  unfold onM
  rw [if_pos (by omega)]
  unfold wrap64
  omega
theorem onNd_mk (f : Int) (x : Lab) (l : List Int) : onNd f (mkL x l) = mkL x (l.map (onM f)) := by
  match l with
  | [] => simp [onNd, mkL, onM_none]
  | [_] => simp [onNd, mkL, onM_none]
  | [_, _] => by_cases h : x.op = 28 <;> simp [onNd, mkL, onM_none, h]
  | _ :: _ :: _ :: _ => simp [onNd, mkL]
theorem flat_shift (t : T) : ∀ b f : Nat, b + f + t.size ≤ 1000000000 → (t.flat b).map (onNd (f : Int)) = t.flat (b + f) := by
  induction t with
  | l0 x => intro b f _; simp [T.flat, onNd_mk]
  | l1 x p ih =>
    intro b f h
    have hp := p.size_pos
    simp only [T.size] at h
    simp only [T.flat, List.map_append, List.map_cons, List.map_nil, onNd_mk]
    rw [ih b f (by omega), onM_nat _ _ (by omega), show b + p.size - 1 + f = b + f + p.size - 1 by omega]
  | l2 x p q ih1 ih2 =>
    intro b f h
    have hp := p.size_pos
    have hq := q.size_pos
    simp only [T.size] at h
    simp only [T.flat, List.map_append, List.map_cons, List.map_nil, onNd_mk]
    rw [ih1 b f (by omega), ih2 _ f (by omega), onM_nat _ _ (by omega), onM_nat _ _ (by omega), show b + p.size - 1 + f = b + f + p.size - 1 by omega, show b + p.size + q.size - 1 + f = b + f + p.size + q.size - 1 by omega, show b + p.size + f = b + f + p.size by omega]
  | l3 x p q r ih1 ih2 ih3 =>
    intro b f h
    have hp := p.size_pos
    have hq := q.size_pos
    have hr := r.size_pos
    simp only [T.size] at h
    simp only [T.flat, List.map_append, List.map_cons, List.map_nil, onNd_mk]
    rw [ih1 b f (by omega), ih2 _ f (by omega), ih3 _ f (by omega), onM_nat _ _ (by omega), onM_nat _ _ (by omega), onM_nat _ _ (by omega), show b + p.size - 1 + f = b + f + p.size - 1 by omega, show b + p.size + q.size - 1 + f = b + f + p.size + q.size - 1 by omega, show b + p.size + q.size + r.size - 1 + f = b + f + p.size + q.size + r.size - 1 by omega, show b + p.size + f = b + f + p.size by omega, show b + p.size + q.size + f = b + f + p.size + q.size by omega]
theorem behind_flat (a : List Nd) (t : T) (h : a.length + t.size ≤ 1000000000) : behindM a (t.flat 0) = a ++ t.flat a.length := by
  unfold behindM; rw [flat_shift t 0 a.length (by omega), Nat.zero_add]

/-- A tree with trees in the places of leaves. -/
def T.put (f : Lab → Option T) : T → T
  | .l0 x => (f x).getD (.l0 x)
  | .l1 x p => .l1 x (p.put f)
  | .l2 x p q => .l2 x (p.put f) (q.put f)
  | .l3 x p q r => .l3 x (p.put f) (q.put f) (r.put f)
/-- One node more of what is put: the nodes, and where each node's last one stands. -/
def fillStep (P : Nd → List Nd) (s : List Nd × List Int) (x : Nd) : List Nd × List Int :=
  let out := if P x = [] then s.1 ++ [mkL x.lab ((kidsM x).map fun k => s.2.getD k.toNat 0)] else behindM s.1 (P x)
  (out, s.2 ++ [(out.length : Int) - 1])
def fillF (P : Nd → List Nd) (e : List Nd) : List Nd × List Int := e.foldl (fillStep P) ([], [])
theorem fillF_next (P : Nd → List Nd) (e : List Nd) (k : Nat) (x : Nd) (h : e[k]? = some x) : fillF P (e.take (k + 1)) = fillStep P (fillF P (e.take k)) x := by
  unfold fillF; rw [List.take_add_one, h, show (some x).toList = [x] from rfl, List.foldl_append]; rfl
theorem fillF_at (P : Nd → List Nd) (e : List Nd) : (fillF P e).2.length = e.length := by
  have key : ∀ (e : List Nd) (s : List Nd × List Int), (e.foldl (fillStep P) s).2.length = s.2.length + e.length := by
    intro e
    induction e with
    | nil => intro s; rfl
    | cons a r ih => intro s; rw [List.foldl_cons, ih]; simp [fillStep]; omega
  unfold fillF; rw [key]; simp
/-- What the fold adds to the nodes. -/
def roomOf (P : Nd → List Nd) (e : List Nd) : Nat := (e.map fun x => if P x = [] then 1 else (P x).length).sum
theorem fillF_len (P : Nd → List Nd) (e : List Nd) : (fillF P e).1.length = roomOf P e := by
  have key : ∀ (e : List Nd) (s : List Nd × List Int), (e.foldl (fillStep P) s).1.length = s.1.length + roomOf P e := by
    intro e
    induction e with
    | nil => intro s; simp [roomOf]
    | cons a r ih =>
      intro s
      rw [List.foldl_cons, ih]
      have : (fillStep P s a).1.length = s.1.length + if P a = [] then 1 else (P a).length := by
        unfold fillStep
        by_cases h : P a = []
        · simp [h]
        · simp [h, behind_len]
      rw [this]
      unfold roomOf
      rw [List.map_cons, List.sum_cons]; omega
  unfold fillF; rw [key]; simp
theorem room_take (P : Nd → List Nd) (e : List Nd) (k : Nat) : roomOf P (e.take k) ≤ roomOf P e := by
  conv => rhs; rw [← List.take_append_drop k e]
  unfold roomOf; rw [List.map_append, List.sum_append]; omega
theorem room_le (P : Nd → List Nd) (e : List Nd) (m : Nat) (h : ∀ x ∈ e, (P x).length ≤ m) : roomOf P e ≤ e.length * (m + 1) := by
  induction e with
  | nil => simp [roomOf]
  | cons a r ih =>
    have h1 := ih (fun x hx => h x (by simp [hx]))
    have h2 := h a (by simp)
    unfold roomOf at *
    rw [List.map_cons, List.sum_cons, List.length_cons, Nat.add_mul, Nat.one_mul]
    split <;> omega

theorem getD_snoc (l A : List Int) (k : Nat) (v : Int) (h : A[k]? = some v) : (l ++ A).getD (l.length + k) 0 = v := by
  rw [List.getD, List.getElem?_append_right (by omega), Nat.add_sub_cancel_left, h]; rfl
/-- What the fold makes of a tree's nodes. -/
theorem fill_flat (P : Nd → List Nd) (f : Lab → Option T) (hP : ∀ x : Nd, P x = match f x.lab with | some u => u.flat 0 | none => []) (hf : ∀ x u, f x = some u → x.op = 3) (t : T) :
    ∀ (b : Nat) (s : List Nd × List Int), t.okB = true → s.2.length = b → s.1.length + (t.put f).size ≤ 1000000000 →
      ∃ A : List Int, A.length = t.size ∧ A[t.size - 1]? = some ((s.1.length + (t.put f).size - 1 : Nat) : Int) ∧ (t.flat b).foldl (fillStep P) s = (s.1 ++ (t.put f).flat s.1.length, s.2 ++ A) := by
  have noP : ∀ (x : Lab) (l : List Int), x.op ≠ 3 → P (mkL x l) = [] := fun x l h => by
    rw [hP, mkL_lab]
    cases hfx : f x with
    | none => rfl
    | some u => exact absurd (hf x u hfx) h
  have step : ∀ (s : List Nd × List Int) (x : Lab) (l : List Int), x.op ≠ 3 → fitsB x.op l.length = true → (∀ k ∈ l, k ≠ -1) → fillStep P s (mkL x l) = (s.1 ++ [mkL x (l.map fun k => s.2.getD k.toNat 0)], s.2 ++ [((s.1.length + 1 - 1 : Nat) : Int)]) := fun s x l h3 hfit hl => by
    unfold fillStep
    rw [noP x l h3, mkL_lab, kids_mkL x l hfit hl]
    simp
  induction t with
  | l0 x =>
    intro b s ho hb hsz
    have hfit : fitsB x.op 0 = true := okB_fits _ ho
    show ∃ A : List Int, A.length = 1 ∧ _ ∧ (fillStep P s (mkL x [])) = _
    simp only [T.put] at hsz ⊢
    unfold fillStep
    rw [hP, mkL_lab]
    cases hfx : f x with
    | none =>
      refine ⟨[(s.1.length : Int)], rfl, by simp [T.size], ?_⟩
      rw [kids_mkL x [] hfit (by simp)]
      simp [T.flat]
    | some u =>
      rw [hfx] at hsz
      simp only [Option.getD_some] at hsz ⊢
      have hu := u.size_pos
      have hne : u.flat 0 ≠ [] := by intro h; have := u.flat_len 0; rw [h] at this; simp at this; omega
      refine ⟨[((s.1.length + u.size - 1 : Nat) : Int)], rfl, by simp [T.size], ?_⟩
      simp only [hne, if_false]
      rw [behind_flat _ _ hsz, List.length_append, T.flat_len]
      congr 3; omega
  | l1 x p ih =>
    intro b s ho hb hsz
    have hfit : fitsB x.op 1 = true := okB_fits _ ho
    have h3 : x.op ≠ 3 := by intro h; rw [h] at hfit; simp [fitsB, unaryB, binaryB] at hfit
    simp only [T.okB, Bool.and_eq_true] at ho
    have hp := p.size_pos
    have hpp := (p.put f).size_pos
    simp only [T.put, T.size] at hsz ⊢
    obtain ⟨A, hA1, hA2, hA3⟩ := ih b s ho.2 hb (by omega)
    simp only [T.flat]
    rw [List.foldl_append, hA3, List.foldl_cons, List.foldl_nil, step _ x [_] h3 hfit (by intro k hk; simp at hk; omega)]
    refine ⟨A ++ [((s.1.length + ((p.put f).size + 1) - 1 : Nat) : Int)], by simp [hA1], ?_, ?_⟩
    · rw [List.getElem?_append_right (by omega), hA1]; simp
    · simp only [List.map_cons, List.map_nil, Int.toNat_natCast, List.append_assoc, List.length_append, T.flat_len]
      rw [show b + p.size - 1 = s.2.length + (p.size - 1) by omega, getD_snoc _ _ _ _ hA2]
      simp [Nat.add_assoc]
  | l2 x p q ih1 ih2 =>
    intro b s ho hb hsz
    have hfit : fitsB x.op 2 = true := okB_fits _ ho
    have h3 : x.op ≠ 3 := by intro h; rw [h] at hfit; simp [fitsB, unaryB, binaryB] at hfit
    simp only [T.okB, Bool.and_eq_true] at ho
    have hp := p.size_pos
    have hpp := (p.put f).size_pos
    have hq := q.size_pos
    have hqp := (q.put f).size_pos
    simp only [T.put, T.size] at hsz ⊢
    obtain ⟨A, hA1, hA2, hA3⟩ := ih1 b s ho.1.2 hb (by omega)
    obtain ⟨B, hB1, hB2, hB3⟩ := ih2 (b + p.size) (s.1 ++ (p.put f).flat s.1.length, s.2 ++ A) ho.2 (by simp [hA1, hb]) (by simp [T.flat_len]; omega)
    simp only [List.length_append, T.flat_len] at hB2 hB3
    simp only [T.flat]
    rw [List.foldl_append, List.foldl_append, hA3, hB3, List.foldl_cons, List.foldl_nil, step _ x [_, _] h3 hfit (by intro k hk; simp at hk; omega)]
    refine ⟨A ++ B ++ [((s.1.length + ((p.put f).size + (q.put f).size + 1) - 1 : Nat) : Int)], by simp [hA1, hB1]; omega, ?_, ?_⟩
    · rw [List.getElem?_append_right (by simp; omega)]; simp [hA1, hB1]
    · simp only [List.map_cons, List.map_nil, Int.toNat_natCast]
      have g1 : (s.2 ++ A ++ B).getD (b + p.size - 1) 0 = ((s.1.length + (p.put f).size - 1 : Nat) : Int) := by
        rw [List.append_assoc, show b + p.size - 1 = s.2.length + (p.size - 1) by omega]
        exact getD_snoc _ _ _ _ (by rw [List.getElem?_append_left (by omega)]; exact hA2)
      have g2 : (s.2 ++ A ++ B).getD (b + p.size + q.size - 1) 0 = ((s.1.length + (p.put f).size + (q.put f).size - 1 : Nat) : Int) := by
        rw [show b + p.size + q.size - 1 = (s.2 ++ A).length + (q.size - 1) by simp [hA1]; omega]
        exact getD_snoc _ _ _ _ hB2
      rw [g1, g2]
      simp [Nat.add_assoc, T.flat_len]
  | l3 x p q r ih1 ih2 ih3 =>
    intro b s ho hb hsz
    have hfit : fitsB x.op 3 = true := okB_fits _ ho
    have h3 : x.op ≠ 3 := by intro h; rw [h] at hfit; simp [fitsB, unaryB, binaryB] at hfit
    simp only [T.okB, Bool.and_eq_true] at ho
    have hp := p.size_pos
    have hpp := (p.put f).size_pos
    have hq := q.size_pos
    have hqp := (q.put f).size_pos
    have hr := r.size_pos
    have hrp := (r.put f).size_pos
    simp only [T.put, T.size] at hsz ⊢
    obtain ⟨A, hA1, hA2, hA3⟩ := ih1 b s ho.1.1.2 hb (by omega)
    obtain ⟨B, hB1, hB2, hB3⟩ := ih2 (b + p.size) (s.1 ++ (p.put f).flat s.1.length, s.2 ++ A) ho.1.2 (by simp [hA1, hb]) (by simp [T.flat_len]; omega)
    simp only [List.length_append, T.flat_len] at hB2 hB3
    obtain ⟨C, hC1, hC2, hC3⟩ := ih3 (b + p.size + q.size) (s.1 ++ (p.put f).flat s.1.length ++ (q.put f).flat (s.1.length + (p.put f).size), s.2 ++ A ++ B) ho.2 (by simp [hA1, hB1, hb]; omega) (by simp [T.flat_len]; omega)
    simp only [List.length_append, T.flat_len] at hC2 hC3
    simp only [T.flat]
    rw [List.foldl_append, List.foldl_append, List.foldl_append, hA3, hB3, hC3, List.foldl_cons, List.foldl_nil, step _ x [_, _, _] h3 hfit (by intro k hk; simp at hk; omega)]
    refine ⟨A ++ B ++ C ++ [((s.1.length + ((p.put f).size + (q.put f).size + (r.put f).size + 1) - 1 : Nat) : Int)], by simp [hA1, hB1, hC1]; omega, ?_, ?_⟩
    · rw [List.getElem?_append_right (by simp; omega), show p.size + q.size + r.size + 1 - 1 - (A ++ B ++ C).length = 0 by simp [hA1, hB1, hC1]; omega]; rfl
    · simp only [List.map_cons, List.map_nil, Int.toNat_natCast]
      have g1 : (s.2 ++ A ++ B ++ C).getD (b + p.size - 1) 0 = ((s.1.length + (p.put f).size - 1 : Nat) : Int) := by
        rw [List.append_assoc, List.append_assoc, show b + p.size - 1 = s.2.length + (p.size - 1) by omega]
        exact getD_snoc _ _ _ _ (by rw [List.getElem?_append_left (by omega)]; exact hA2)
      have g2 : (s.2 ++ A ++ B ++ C).getD (b + p.size + q.size - 1) 0 = ((s.1.length + (p.put f).size + (q.put f).size - 1 : Nat) : Int) := by
        rw [List.append_assoc (s.2 ++ A), show b + p.size + q.size - 1 = (s.2 ++ A).length + (q.size - 1) by simp [hA1]; omega]
        exact getD_snoc _ _ _ _ (by rw [List.getElem?_append_left (by omega)]; exact hB2)
      have g3 : (s.2 ++ A ++ B ++ C).getD (b + p.size + q.size + r.size - 1) 0 = ((s.1.length + (p.put f).size + (q.put f).size + (r.put f).size - 1 : Nat) : Int) := by
        rw [show b + p.size + q.size + r.size - 1 = (s.2 ++ A ++ B).length + (r.size - 1) by simp [hA1, hB1]; omega]
        exact getD_snoc _ _ _ _ hC2
      rw [g1, g2, g3]
      simp [Nat.add_assoc, T.flat_len]
end Go.Proofs.YtgohhnbdicdenaaGreatDoor.Tr

/- The names in an expression; what is put and what is joined, of expressions that may be. Conditions: none. -/
namespace Go.Proofs.YtgohhnbdicdenaaGreatDoor.Tr
open Go.RowKit
set_option linter.unusedVariables false
set_option linter.unusedSimpArgs false

/-- The labels of a tree's nodes, in order. -/
def T.labs : T → List Lab
  | .l0 x => [x] | .l1 x p => p.labs ++ [x] | .l2 x p q => p.labs ++ q.labs ++ [x] | .l3 x p q r => p.labs ++ q.labs ++ r.labs ++ [x]
theorem flat_labs (t : T) : ∀ b, (t.flat b).map Nd.lab = t.labs := by
  induction t with
  | l0 x => intro b; simp [T.flat, T.labs, mkL_lab]
  | l1 x p ih => intro b; simp [T.flat, T.labs, mkL_lab, ih]
  | l2 x p q ih1 ih2 => intro b; simp [T.flat, T.labs, mkL_lab, ih1, ih2]
  | l3 x p q r ih1 ih2 ih3 => intro b; simp [T.flat, T.labs, mkL_lab, ih1, ih2, ih3]
theorem mkT_labs (x : Lab) (l : List T) (h : l.length ≤ 3) : (mkT x l).labs = l.flatMap T.labs ++ [x] := by
  match l, h with
  | [], _ => rfl
  | [p], _ => simp [mkT, T.labs]
  | [p, q], _ => simp [mkT, T.labs]
  | [p, q, r], _ => simp [mkT, T.labs]
theorem tree_labs {e : List Nd} (h : Ahead e) : ∀ i, i < e.length → (tree e i).labs = (desc e i).map fun j => (e.getD j default).lab := by
  intro i
  induction i using Nat.strongRecOn with
  | ind i ih =>
    intro hi
    have hn := of_getD hi
    rw [tree_eq h hn, desc_eq h hn, mkT_labs _ _ (by rw [List.length_map]; exact kids_small _), List.map_append, List.map_flatMap, List.flatMap_map]
    congr 1
    rw [List.flatMap_def, List.flatMap_def]
    congr 1
    apply List.map_congr_left
    intro k hk
    have := h i _ hn k hk
    exact ih k.toNat (by omega) (by omega)
theorem May.lab_mem {e : List Nd} (h : May e) {i : Nat} {x : Nd} (hx : e[i]? = some x) : x.lab ∈ (root e).labs := by
  have hi := (List.getElem?_eq_some_iff.1 hx).1
  unfold root
  rw [tree_labs h.ahead _ (by omega), List.mem_map]
  exact ⟨i, h.all _ i (Nat.le_refl _) hi, by rw [getD_of hx]⟩
theorem ok_labs (t : T) : t.okB = true → ∀ x ∈ t.labs, plainB x = true := by
  induction t with
  | l0 x => intro h y hy; simp only [T.okB, Bool.and_eq_true] at h; simp [T.labs] at hy; subst hy; exact h.1
  | l1 x p ih =>
    intro h y hy; simp only [T.okB, Bool.and_eq_true] at h; simp [T.labs] at hy
    rcases hy with hy | rfl
    · exact ih h.2 y hy
    · exact h.1.1.1
  | l2 x p q ih1 ih2 =>
    intro h y hy; simp only [T.okB, Bool.and_eq_true] at h; simp [T.labs] at hy
    rcases hy with hy | hy | rfl
    · exact ih1 h.1.2 y hy
    · exact ih2 h.2 y hy
    · exact h.1.1.1.1
  | l3 x p q r ih1 ih2 ih3 =>
    intro h y hy; simp only [T.okB, Bool.and_eq_true] at h; simp [T.labs] at hy
    rcases hy with hy | hy | hy | rfl
    · exact ih1 h.1.1.2 y hy
    · exact ih2 h.1.2 y hy
    · exact ih3 h.2 y hy
    · exact h.1.1.1.1.1

/-- The names of Vars, each once. -/
def addName (acc : List Bytes) (x : Nd) : List Bytes := if x.op = 3 then (if acc.contains x.name then acc else acc ++ [x.name]) else acc
def varsOf (e : List Nd) : List Bytes := e.foldl addName []
theorem varsOf_next (e : List Nd) (k : Nat) (x : Nd) (h : e[k]? = some x) : varsOf (e.take (k + 1)) = addName (varsOf (e.take k)) x := by
  unfold varsOf; rw [List.take_add_one, h, show (some x).toList = [x] from rfl, List.foldl_append]; rfl
theorem addName_lab (acc : List Bytes) (x y : Nd) (h : x.lab = y.lab) : addName acc x = addName acc y := by
  have h1 : x.op = y.op := congrArg Lab.op h
  have h2 : x.name = y.name := congrArg Lab.name h
  unfold addName; rw [h1, h2]
theorem vars_lab (e m : List Nd) : e.map Nd.lab = m.map Nd.lab → ∀ acc, e.foldl addName acc = m.foldl addName acc := by
  intro h
  induction e generalizing m with
  | nil => cases m with
    | nil => intro _; rfl
    | cons b s => simp at h
  | cons a r ih =>
    cases m with
    | nil => simp at h
    | cons b s =>
      simp only [List.map_cons, List.cons.injEq] at h
      intro acc
      rw [List.foldl_cons, List.foldl_cons, addName_lab acc a b h.1, ih s h.2]
/-- What more nodes add: names that stand in them, none that was there, each once. -/
theorem vars_ext (e : List Nd) : ∀ acc : List Bytes, ∃ R, e.foldl addName acc = acc ++ R ∧ R.Nodup ∧ (∀ s ∈ R, s ∉ acc ∧ ∃ x ∈ e, x.op = 3 ∧ x.name = s) ∧ ∀ x ∈ e, x.op = 3 → x.name ∈ acc ++ R := by
  induction e with
  | nil => intro acc; exact ⟨[], by simp, by simp, by simp, by simp⟩
  | cons a r ih =>
    intro acc
    rw [List.foldl_cons]
    by_cases ho : a.op = 3
    · by_cases hc : acc.contains a.name = true
      · have ha : addName acc a = acc := by unfold addName; rw [if_pos ho, if_pos hc]
        rw [ha]
        obtain ⟨R, h1, h2, h3, h4⟩ := ih acc
        refine ⟨R, h1, h2, fun s hs => ⟨(h3 s hs).1, ?_⟩, fun x hx hxo => ?_⟩
        · obtain ⟨x, hx, h5⟩ := (h3 s hs).2; exact ⟨x, by simp [hx], h5⟩
        · rw [List.mem_cons] at hx
          rcases hx with rfl | hx
          · rw [List.contains_iff_mem] at hc; simp [hc]
          · exact h4 x hx hxo
      · have ha : addName acc a = acc ++ [a.name] := by unfold addName; rw [if_pos ho, if_neg hc]
        rw [ha]
        obtain ⟨R, h1, h2, h3, h4⟩ := ih (acc ++ [a.name])
        have hc' : a.name ∉ acc := fun h => hc (List.contains_iff_mem.2 h)
        refine ⟨a.name :: R, by rw [h1]; simp, ?_, fun s hs => ?_, fun x hx hxo => ?_⟩
        · rw [List.nodup_cons]; exact ⟨fun h => (h3 _ h).1 (by simp), h2⟩
        · rw [List.mem_cons] at hs
          rcases hs with rfl | hs
          · exact ⟨hc', a, by simp, ho, rfl⟩
          · have h5 := h3 s hs
            refine ⟨fun h => h5.1 (by simp [h]), ?_⟩
            obtain ⟨x, hx, h6⟩ := h5.2; exact ⟨x, by simp [hx], h6⟩
        · rw [List.mem_cons] at hx
          rcases hx with rfl | hx
          · simp
          · have := h4 x hx hxo; simpa using this
    · have ha : addName acc a = acc := by unfold addName; rw [if_neg ho]
      rw [ha]
      obtain ⟨R, h1, h2, h3, h4⟩ := ih acc
      refine ⟨R, h1, h2, fun s hs => ⟨(h3 s hs).1, ?_⟩, fun x hx hxo => ?_⟩
      · obtain ⟨x, hx, h5⟩ := (h3 s hs).2; exact ⟨x, by simp [hx], h5⟩
      · rw [List.mem_cons] at hx
        rcases hx with rfl | hx
        · exact absurd hxo ho
        · exact h4 x hx hxo
theorem vars_nodup (e : List Nd) : (varsOf e).Nodup := by
  obtain ⟨R, h1, h2, _⟩ := vars_ext e []
  unfold varsOf; rw [h1]; simpa using h2
theorem vars_mem (e : List Nd) (s : Bytes) : s ∈ varsOf e ↔ ∃ x ∈ e, x.op = 3 ∧ x.name = s := by
  obtain ⟨R, h1, _, h3, h4⟩ := vars_ext e []
  unfold varsOf; rw [h1]
  constructor
  · intro h; exact (h3 s (by simpa using h)).2
  · rintro ⟨x, hx, ho, rfl⟩; exact h4 x hx ho
theorem vars_count (e : List Nd) (s : Bytes) : (varsOf e).count s = if s ∈ varsOf e then 1 else 0 := by
  have := List.nodup_iff_count.1 (vars_nodup e) s
  split
  · rename_i h; have := List.one_le_count_iff.2 h; omega
  · rename_i h; exact List.count_eq_zero_of_not_mem h
theorem vars_flat (t : T) (s : Bytes) (b : Nat) : s ∈ varsOf (t.flat b) ↔ ∃ x ∈ t.labs, x.op = 3 ∧ x.name = s := by
  rw [vars_mem, ← flat_labs t b]
  constructor
  · rintro ⟨x, hx, h1, h2⟩; exact ⟨x.lab, List.mem_map_of_mem hx, h1, h2⟩
  · rintro ⟨y, hy, h1, h2⟩
    rw [List.mem_map] at hy
    obtain ⟨x, hx, rfl⟩ := hy
    exact ⟨x, hx, h1, h2⟩

/-- Trees that are put in their own places change nothing. -/
theorem put_same (f : Lab → Option T) (t : T) : (∀ x ∈ t.labs, f x = none ∨ f x = some (.l0 x)) → t.put f = t := by
  induction t with
  | l0 x => intro h; rcases h x (by simp [T.labs]) with h1 | h1 <;> simp [T.put, h1]
  | l1 x p ih => intro h; simp only [T.put]; rw [ih (fun y hy => h y (by simp [T.labs, hy]))]
  | l2 x p q ih1 ih2 => intro h; simp only [T.put]; rw [ih1 (fun y hy => h y (by simp [T.labs, hy])), ih2 (fun y hy => h y (by simp [T.labs, hy]))]
  | l3 x p q r ih1 ih2 ih3 => intro h; simp only [T.put]; rw [ih1 (fun y hy => h y (by simp [T.labs, hy])), ih2 (fun y hy => h y (by simp [T.labs, hy])), ih3 (fun y hy => h y (by simp [T.labs, hy]))]
theorem fits_not3 {x : Lab} {m : Nat} (h : fitsB x.op m = true) (hm : 0 < m) : x.op ≠ 3 := by
  intro h3; rw [h3] at h; simp [fitsB, unaryB, binaryB] at h; omega
/-- What stands in a tree that was put together. -/
theorem labs_put (f : Lab → Option T) (hf : ∀ x u, f x = some u → x.op = 3) (t : T) : t.okB = true → ∀ y ∈ (t.put f).labs, (y ∈ t.labs ∧ f y = none) ∨ ∃ x u, x ∈ t.labs ∧ f x = some u ∧ y ∈ u.labs := by
  have none_of : ∀ x : Lab, x.op ≠ 3 → f x = none := fun x h => by
    cases hfx : f x with
    | none => rfl
    | some u => exact absurd (hf x u hfx) h
  induction t with
  | l0 x =>
    intro _ y hy
    simp only [T.put] at hy
    cases hfx : f x with
    | none => rw [hfx] at hy; simp [T.labs] at hy; subst hy; exact .inl ⟨by simp [T.labs], hfx⟩
    | some u => rw [hfx] at hy; exact .inr ⟨x, u, by simp [T.labs], hfx, hy⟩
  | l1 x p ih =>
    intro ho y hy
    have h3 := fits_not3 (okB_fits _ ho) (by simp [T.kids])
    simp only [T.okB, Bool.and_eq_true] at ho
    simp only [T.put, T.labs, List.mem_append, List.mem_singleton] at hy
    rcases hy with hy | rfl
    · rcases ih ho.2 y hy with h | ⟨x', u, h1, h2⟩
      · exact .inl ⟨by simp [T.labs, h.1], h.2⟩
      · exact .inr ⟨x', u, by simp [T.labs, h1], h2⟩
    · exact .inl ⟨by simp [T.labs], none_of _ h3⟩
  | l2 x p q ih1 ih2 =>
    intro ho y hy
    have h3 := fits_not3 (okB_fits _ ho) (by simp [T.kids])
    simp only [T.okB, Bool.and_eq_true] at ho
    simp only [T.put, T.labs, List.mem_append, List.mem_singleton] at hy
    rcases hy with (hy | hy) | rfl
    · rcases ih1 ho.1.2 y hy with h | ⟨x', u, h1, h2⟩
      · exact .inl ⟨by simp [T.labs, h.1], h.2⟩
      · exact .inr ⟨x', u, by simp [T.labs, h1], h2⟩
    · rcases ih2 ho.2 y hy with h | ⟨x', u, h1, h2⟩
      · exact .inl ⟨by simp [T.labs, h.1], h.2⟩
      · exact .inr ⟨x', u, by simp [T.labs, h1], h2⟩
    · exact .inl ⟨by simp [T.labs], none_of _ h3⟩
  | l3 x p q r ih1 ih2 ih3 =>
    intro ho y hy
    have h3 := fits_not3 (okB_fits _ ho) (by simp [T.kids])
    simp only [T.okB, Bool.and_eq_true] at ho
    simp only [T.put, T.labs, List.mem_append, List.mem_singleton] at hy
    rcases hy with ((hy | hy) | hy) | rfl
    · rcases ih1 ho.1.1.2 y hy with h | ⟨x', u, h1, h2⟩
      · exact .inl ⟨by simp [T.labs, h.1], h.2⟩
      · exact .inr ⟨x', u, by simp [T.labs, h1], h2⟩
    · rcases ih2 ho.1.2 y hy with h | ⟨x', u, h1, h2⟩
      · exact .inl ⟨by simp [T.labs, h.1], h.2⟩
      · exact .inr ⟨x', u, by simp [T.labs, h1], h2⟩
    · rcases ih3 ho.2 y hy with h | ⟨x', u, h1, h2⟩
      · exact .inl ⟨by simp [T.labs, h.1], h.2⟩
      · exact .inr ⟨x', u, by simp [T.labs, h1], h2⟩
    · exact .inl ⟨by simp [T.labs], none_of _ h3⟩
theorem put_lab (f : Lab → Option T) (hf : ∀ x u, f x = some u → x.op = 3 ∧ u.okB = true ∧ u.lab.op ≠ 28) (t : T) : ((t.put f).lab.op == 28) = (t.lab.op == 28) := by
  cases t with
  | l0 x =>
    simp only [T.put]
    cases hfx : f x with
    | none => rfl
    | some u =>
      obtain ⟨h1, _, h3⟩ := hf x u hfx
      show (u.lab.op == 28) = (x.op == 28)
      rw [h1, show (u.lab.op == 28) = false by rw [beq_eq_false_iff_ne]; exact h3]; rfl
  | l1 x p => rfl
  | l2 x p q => rfl
  | l3 x p q r => rfl
theorem put_ok (f : Lab → Option T) (hf : ∀ x u, f x = some u → x.op = 3 ∧ u.okB = true ∧ u.lab.op ≠ 28) (t : T) : t.okB = true → (t.put f).okB = true := by
  induction t with
  | l0 x =>
    intro h
    simp only [T.put]
    cases hfx : f x with
    | none => exact h
    | some u => exact (hf x u hfx).2.1
  | l1 x p ih =>
    intro h
    simp only [T.put, T.okB, Bool.and_eq_true] at h ⊢
    refine ⟨⟨h.1.1, ?_⟩, ih h.2⟩
    have := h.1.2
    simp only [argsT, List.map_cons, List.map_nil, argsL, put_lab f hf] at this ⊢; exact this
  | l2 x p q ih1 ih2 =>
    intro h
    simp only [T.put, T.okB, Bool.and_eq_true] at h ⊢
    refine ⟨⟨⟨h.1.1.1, ?_⟩, ih1 h.1.2⟩, ih2 h.2⟩
    have := h.1.1.2
    simp only [argsT, List.map_cons, List.map_nil, argsL, put_lab f hf] at this ⊢; exact this
  | l3 x p q r ih1 ih2 ih3 =>
    intro h
    simp only [T.put, T.okB, Bool.and_eq_true] at h ⊢
    refine ⟨⟨⟨⟨h.1.1.1.1, ?_⟩, ih1 h.1.1.2⟩, ih2 h.1.2⟩, ih3 h.2⟩
    have := h.1.1.1.2
    simp only [argsT, List.map_cons, List.map_nil, argsL, put_lab f hf] at this ⊢; exact this
end Go.Proofs.YtgohhnbdicdenaaGreatDoor.Tr

/- What layer show writes of an expression, as a plain function; what is told back of it. Conditions: none. -/
namespace Go.Proofs.YtgohhnbdicdenaaGreatDoor.Sh
open Go.Proofs.YtgohhnbdicdenaaGreatDoor.Tr Go.Proofs.YtgohhnbdicdenaaGreatDoor.Ex
set_option linter.unusedVariables false
set_option linter.unusedSimpArgs false

def nmB (s : Bytes) : Bool := (s == []) || Lx.nameB s
theorem namedT_labs (t : T) : namedT t = t.labs.all (fun x => nmB x.name) := by
  induction t with
  | l0 x => simp [namedT, T.labs, nmB]
  | l1 x p ih => simp only [namedT, T.labs, List.all_append, List.all_cons, List.all_nil, ih, nmB, Bool.and_true]; exact Bool.and_comm _ _
  | l2 x p q ih1 ih2 => simp only [namedT, T.labs, List.all_append, List.all_cons, List.all_nil, ih1, ih2, nmB, Bool.and_true]; rw [Bool.and_comm, Bool.and_comm (_ || _), ← Bool.and_assoc, Bool.and_comm (List.all q.labs _)]
  | l3 x p q r ih1 ih2 ih3 =>
    simp only [namedT, T.labs, List.all_append, List.all_cons, List.all_nil, ih1, ih2, ih3, nmB, Bool.and_true]
    generalize (x.name == [] || Lx.nameB x.name) = a
    generalize p.labs.all _ = b
    generalize q.labs.all _ = c
    generalize r.labs.all _ = d
    cases a <;> cases b <;> cases c <;> cases d <;> rfl
/-- A node that is named by a name. -/
def showB (x : Nd) : Bool := !(x.op == 3 || x.op == 27) || Lx.nameB x.name
noncomputable def smayB (e : List Nd) : Bool := e.all showB && mayB e
noncomputable def showM (e : List Nd) : Bytes := if smayB e then textT (root e) else []
theorem nameB_nil : Lx.nameB [] = false := rfl
theorem showB_eq {x : Nd} (h : plainB x.lab = true) : showB x = nmB x.name := by
  unfold showB nmB
  by_cases h3 : x.op = 3 ∨ x.op = 27
  · have h1 : x.name ≠ [] := name_some h h3
    have h2 : (x.name == []) = false := by simpa using h1
    have h4 : (x.op == 3 || x.op == 27) = true := by simpa using h3
    rw [h2, h4]; rfl
  · have h1 : x.name = [] := name_nil h (fun e => h3 (.inl e)) (fun e => h3 (.inr e))
    have h4 : (x.op == 3 || x.op == 27) = false := by
      rw [Bool.or_eq_false_iff]; exact ⟨by simpa using fun e => h3 (.inl e), by simpa using fun e => h3 (.inr e)⟩
    rw [h1, h4]; rfl
theorem smay_of {e : List Nd} (h : May e) : smayB e = namedT (root e) := by
  unfold smayB
  rw [may_yes h, Bool.and_true, namedT_labs]
  have pl : ∀ (i : Nat) (x : Nd), e[i]? = some x → plainB x.lab = true := fun i x hx => (h.node i x hx).plain
  rw [Bool.eq_iff_iff, List.all_eq_true, List.all_eq_true]
  constructor
  · intro H y hy
    unfold root at hy
    have hp := h.pos
    rw [tree_labs h.ahead _ (by omega), List.mem_map] at hy
    obtain ⟨j, hj, rfl⟩ := hy
    have hl := desc_le h.ahead _ (by omega) j hj
    have hg := of_getD (e := e) (i := j) (by omega)
    have := H _ (List.mem_of_getElem? hg)
    rw [showB_eq (pl j _ hg)] at this
    exact this
  · intro H x hx
    obtain ⟨i, hi⟩ := List.mem_iff_getElem?.1 hx
    have := H _ (h.lab_mem hi)
    rw [showB_eq (pl i x hi)]
    exact this
theorem smay_may {e : List Nd} (h : smayB e = true) : May e ∧ namedT (root e) = true := by
  have h2 := h
  unfold smayB at h2
  rw [Bool.and_eq_true] at h2
  have hm := may_of h2.2
  exact ⟨hm, by rw [← smay_of hm]; exact h⟩
theorem okT_root {e : List Nd} (h : May e) : okT (root e) := ⟨h.root_ok, h.root_lab⟩
/-- What is written of an expression is read as it, in order. -/
theorem show_read {e : List Nd} (h : smayB e = true) (hl : e.length ≤ 2000) : readM (showM e) = (normM e, 0, 0) := by
  obtain ⟨hm, hn⟩ := smay_may h
  unfold showM
  rw [if_pos h]
  exact text_read (okT_root hm) hn (by unfold root; rw [hm.size]; exact hl) (by rw [hm.root_depth]; exact hm.deep)
theorem show_no {e : List Nd} (h : smayB e = false) : showM e = [] := by unfold showM; rw [h]; rfl
theorem smay_norm {e : List Nd} (h : May e) : smayB (normM e) = smayB e := by
  rw [smay_of h, smay_of h.norm, h.root_norm]
theorem show_norm {e : List Nd} (h : May e) : showM (normM e) = showM e := by
  unfold showM; rw [smay_norm h, h.root_norm]
theorem show_len {e : List Nd} (hl : e.length ≤ 2000) : (showM e).length ≤ 100000 := by
  cases h : smayB e with
  | false => rw [show_no h]; simp
  | true =>
    obtain ⟨hm, hn⟩ := smay_may h
    unfold showM
    rw [if_pos h]
    have := (toks_good _ (okT_root hm).1 hn).2
    have hs : (root e).size = e.length := hm.size
    have := join_cost (toks (root e))
    unfold textT; omega
theorem show_apart {a b : List Nd} (ha : smayB a = true) (hb : smayB b = true) (la : a.length ≤ 2000) (lb : b.length ≤ 2000) : showM a = showM b ↔ normM a = normM b := by
  constructor
  · intro h
    have h1 := show_read ha la
    rw [h, show_read hb lb] at h1
    exact (Prod.mk.inj h1).1.symm
  · intro h
    have ma := (smay_may ha).1
    have mb := (smay_may hb).1
    rw [← show_norm ma, ← show_norm mb, h]

/- Names that are read are names. -/
def nmP (p : Pt) : Prop := ∀ x ∈ p.e, nmB x.name = true
def nmR (r : Rd) : Prop := ∀ t ∈ r.l, t.kind = 1 → nmB t.text = true
theorem nm_behind {a p : List Nd} (ha : ∀ x ∈ a, nmB x.name = true) (hp : ∀ x ∈ p, nmB x.name = true) : ∀ x ∈ behindM a p, nmB x.name = true := fun x hx => by
  unfold behindM at hx
  rcases List.mem_append.1 hx with h | h
  · exact ha x h
  · obtain ⟨y, hy, rfl⟩ := List.mem_map.1 h
    exact hp y hy
theorem nm_over (o n : Int) {s : Bytes} (l : List Int) (hs : nmB s = true) : nmB (overM o n s l).name = true := hs
theorem nm_callF : ∀ (ls : List (List Nd)) (s : List Nd × Int), (∀ x ∈ s.1, nmB x.name = true) → (∀ l ∈ ls, ∀ x ∈ l, nmB x.name = true) → ∀ x ∈ (ls.foldl callStep s).1, nmB x.name = true
  | [], s, h, _ => h
  | p :: r, s, h, hl => nm_callF r _ (fun x hx => by
      unfold callStep at hx
      simp only at hx
      rcases List.mem_append.1 hx with h1 | h1
      · exact nm_behind h (hl p (by simp)) x h1
      · rw [List.mem_singleton.1 h1]; exact nm_over _ _ _ rfl) (fun l hl2 => hl l (by simp [hl2]))
theorem nm_layF : ∀ (ls : List (List Nd)) (s : List Nd × List Int), (∀ x ∈ s.1, nmB x.name = true) → (∀ l ∈ ls, ∀ x ∈ l, nmB x.name = true) → ∀ x ∈ (ls.foldl layStep s).1, nmB x.name = true
  | [], s, h, _ => h
  | p :: r, s, h, hl => nm_layF r _ (nm_behind h (hl p (by simp))) (fun l hl2 => hl l (by simp [hl2]))
theorem nm_join {o n : Int} {s : Bytes} {ls : List (List Nd)} (hs : nmB s = true) (h : ∀ l ∈ ls, ∀ x ∈ l, nmB x.name = true) : ∀ x ∈ joinM o n s ls, nmB x.name = true := by
  intro x hx
  unfold joinM at hx
  split at hx
  · simp at hx
  · split at hx
    · simp at hx
    · split at hx
      · unfold callM callF at hx
        rcases List.mem_append.1 hx with h1 | h1
        · exact nm_callF ls _ (by simp) h x h1
        · rw [List.mem_singleton.1 h1]; exact nm_over _ _ _ hs
      · split at hx
        · unfold layF at hx
          rcases List.mem_append.1 hx with h1 | h1
          · exact nm_layF ls _ (by simp) h x h1
          · rw [List.mem_singleton.1 h1]; exact nm_over _ _ _ hs
        · simp at hx
theorem nm_joined {o n : Int} {s : Bytes} {ps : List Pt} (hs : nmB s = true) (h : ∀ p ∈ ps, nmP p) : nmP (joined o n s ps) := by
  unfold joined nmP
  simp only
  split
  · exact nm_join hs (fun l hl => by
      obtain ⟨p, hp, rfl⟩ := List.mem_map.1 hl
      exact h p hp)
  · intro x hx; simp at hx
theorem nm_sjoin (s : Int × Bool) {p q : Pt} (hp : nmP p) (hq : nmP q) : nmP (sjoin s p q) := by
  unfold sjoin
  split <;> exact nm_joined rfl (by intro x hx; simp at hx; rcases hx with rfl | rfl <;> assumption)
theorem nm_zero : nmP Pt.zero := fun x hx => by simp [Pt.zero] at hx
theorem nm_foldR : ∀ (ps : List Pt) (ops : List (Int × Bool)), (∀ p ∈ ps, nmP p) → nmP (foldR ps ops)
  | p :: ps, o :: os, h => nm_sjoin o (h p (by simp)) (nm_foldR ps os (fun q hq => h q (by simp [hq])))
  | p :: _, [], h => h p (by simp)
  | [], _, _ => nm_zero
def taskN : Task → Prop
  | .rl _ ps _ => ∀ p ∈ ps, nmP p
  | .ll _ p => nmP p
  | .named s => nmB s = true
  | .args s ps => nmB s = true ∧ ∀ p ∈ ps, nmP p
  | _ => True
theorem nmR.fail {r : Rd} (e : Int) (h : nmR r) : nmR (r.fail e) := by
  unfold Rd.fail
  split <;> (intro t ht; simp at ht)
theorem nmR.adv {r : Rd} (h : nmR r) : nmR r.adv := h
theorem nmR.open_ {r : Rd} (h : nmR r) : nmR r.open_ := h
theorem nmR.shut {r : Rd} (h : nmR r) : nmR r.shut := h
theorem nmR.need {r : Rd} (s : Bytes) (h : nmR r) : nmR (r.need s) := by
  unfold Rd.need; split
  · exact h.adv
  · exact h.fail 5
theorem nmR.num {r : Rd} (m : Nat) (h : nmR r) : nmR (r.numR m) := by
  unfold Rd.numR; split
  · exact h.adv
  · exact h.fail 5
theorem nmR.cur {r : Rd} (h : nmR r) (hk : r.cur.kind = 1) : nmB r.cur.text = true := by
  have hl := kind_lt (r := r) (by omega)
  have e : r.l[r.next]? = some r.cur := by unfold Rd.cur; rw [List.getElem?_eq_getElem hl]; rfl
  exact h _ (List.mem_of_getElem? e) hk
theorem mem_snoc {ps : List Pt} {q : Pt} (h : ∀ p ∈ ps, nmP p) (hq : nmP q) : ∀ p ∈ ps ++ [q], nmP p := fun p hp => by
  rcases List.mem_append.1 hp with h1 | h1
  · exact h p h1
  · rw [List.mem_singleton.1 h1]; exact hq
theorem run_names : ∀ (f : Nat) (t : Task) (r : Rd) (p : Pt) (r' : Rd), run f t r = some (p, r') → nmR r → taskN t → nmP p ∧ nmR r' := by
  intro f
  induction f with
  | zero => intro t r p r' h; cases h
  | succ f ih =>
    intro t r p r' h hI ht
    cases t with
    | lev n =>
      simp only [run] at h
      split at h
      · exact ih _ _ _ _ h hI trivial
      · obtain ⟨⟨a, r1⟩, h1, h2⟩ := bind_some h
        obtain ⟨k1, k2⟩ := ih _ _ _ _ h1 hI trivial
        simp only at h2
        split at h2
        · exact ih _ _ _ _ h2 k2 (by intro x hx; simp at hx; subst hx; exact k1)
        · exact ih _ _ _ _ h2 k2 k1
    | rl n ps ops =>
      simp only [run] at h
      split at h
      · simp only [Option.some.injEq, Prod.mk.injEq] at h; rw [← h.2, ← h.1]; exact ⟨nm_foldR _ _ ht, hI⟩
      · obtain ⟨⟨a, r1⟩, h1, h2⟩ := bind_some h
        obtain ⟨k1, k2⟩ := ih _ _ _ _ h1 hI.adv trivial
        exact ih _ _ _ _ h2 k2 (mem_snoc ht k1)
    | ll n p0 =>
      simp only [run] at h
      split at h
      · simp only [Option.some.injEq, Prod.mk.injEq] at h; rw [← h.2, ← h.1]; exact ⟨ht, hI⟩
      · obtain ⟨⟨a, r1⟩, h1, h2⟩ := bind_some h
        obtain ⟨k1, k2⟩ := ih _ _ _ _ h1 hI.adv trivial
        simp only at h2
        split at h2
        · simp only [Option.some.injEq, Prod.mk.injEq] at h2; rw [← h2.2, ← h2.1]; exact ⟨nm_sjoin _ ht k1, k2⟩
        · exact ih _ _ _ _ h2 k2 (nm_sjoin _ ht k1)
    | opnd =>
      simp only [run] at h
      split at h
      · simp only [Option.some.injEq, Prod.mk.injEq] at h; rw [← h.2, ← h.1]; exact ⟨nm_zero, hI.fail 6⟩
      · split at h
        · obtain ⟨⟨a, r1⟩, h1, h2⟩ := map_some h
          simp only [Prod.mk.injEq] at h2
          obtain ⟨k1, k2⟩ := ih _ _ _ _ h1 hI.open_ trivial
          rw [← h2.2, ← h2.1]; exact ⟨k1, k2.shut⟩
        · obtain ⟨⟨a, r1⟩, h1, h2⟩ := map_some h
          simp only [Prod.mk.injEq] at h2
          obtain ⟨k1, k2⟩ := ih _ _ _ _ h1 (by
            split
            · exact (hI.open_.adv).num _
            · exact hI.open_.adv) trivial
          rw [← h2.2, ← h2.1]
          exact ⟨nm_joined rfl (by intro x hx; simp at hx; subst hx; exact k1), k2.shut⟩
    | single =>
      simp only [run] at h
      split at h
      · obtain ⟨⟨a, r1⟩, h1, h2⟩ := map_some h
        simp only [Prod.mk.injEq] at h2
        obtain ⟨k1, k2⟩ := ih _ _ _ _ h1 hI.adv trivial
        rw [← h2.2, ← h2.1]; exact ⟨k1, k2.need _⟩
      · split at h
        · obtain ⟨⟨a, r1⟩, h1, h⟩ := bind_some h
          obtain ⟨⟨b, r2⟩, h2, h⟩ := bind_some h
          obtain ⟨⟨c, r3⟩, h3, h⟩ := map_some h
          simp only [Prod.mk.injEq] at h
          obtain ⟨k1, i1⟩ := ih _ _ _ _ h1 hI.adv trivial
          obtain ⟨k2, i2⟩ := ih _ _ _ _ h2 (i1.need _) trivial
          obtain ⟨k3, i3⟩ := ih _ _ _ _ h3 (i2.need _) trivial
          rw [← h.2, ← h.1]
          exact ⟨nm_joined rfl (by intro x hx; simp at hx; rcases hx with rfl | rfl | rfl <;> assumption), i3⟩
        · split at h
          · simp only [Option.some.injEq, Prod.mk.injEq] at h; rw [← h.2, ← h.1]; exact ⟨nm_joined rfl (by simp), hI.adv⟩
          · split at h
            · simp only [Option.some.injEq, Prod.mk.injEq] at h; rw [← h.2, ← h.1]; exact ⟨nm_joined rfl (by simp), hI.adv⟩
            · split at h
              · simp only [Option.some.injEq, Prod.mk.injEq] at h; rw [← h.2, ← h.1]; exact ⟨nm_joined rfl (by simp), hI.num _⟩
              · split at h
                · rename_i hk; exact ih _ _ _ _ h hI (hI.cur hk.1)
                · simp only [Option.some.injEq, Prod.mk.injEq] at h; rw [← h.2, ← h.1]; exact ⟨nm_zero, hI.fail 5⟩
    | named s =>
      simp only [run] at h
      split at h
      · split at h
        · simp only [Option.some.injEq, Prod.mk.injEq] at h; rw [← h.2, ← h.1]; exact ⟨nm_joined ht (by simp), hI.adv.adv.adv⟩
        · obtain ⟨⟨a, r1⟩, h1, h2⟩ := bind_some h
          obtain ⟨k1, k2⟩ := ih _ _ _ _ h1 hI.adv.adv trivial
          exact ih _ _ _ _ h2 k2 ⟨ht, by intro x hx; simp at hx; subst hx; exact k1⟩
      · simp only [Option.some.injEq, Prod.mk.injEq] at h; rw [← h.2, ← h.1]; exact ⟨nm_joined ht (by simp), hI.adv⟩
    | args s ps =>
      simp only [run] at h
      split at h
      · obtain ⟨⟨a, r1⟩, h1, h2⟩ := bind_some h
        obtain ⟨k1, k2⟩ := ih _ _ _ _ h1 hI.adv trivial
        exact ih _ _ _ _ h2 k2 ⟨ht.1, mem_snoc ht.2 k1⟩
      · simp only [Option.some.injEq, Prod.mk.injEq] at h; rw [← h.2, ← h.1]; exact ⟨nm_joined ht.1 ht.2, hI.need _⟩
end Go.Proofs.YtgohhnbdicdenaaGreatDoor.Sh

/- What is read can be written, and is read as the same; how many round signs stand in what is written. Conditions: none. -/
namespace Go.Proofs.YtgohhnbdicdenaaGreatDoor.Sh
open Go.Proofs.YtgohhnbdicdenaaGreatDoor.Tr Go.Proofs.YtgohhnbdicdenaaGreatDoor.Ex
set_option linter.unusedVariables false
set_option linter.unusedSimpArgs false

theorem good_name {T : Bytes} (h : Lx.Good 1 T) : Lx.nameB T = true := by
  rcases h with ⟨_, _, h⟩ | ⟨_, _, _, h⟩ | ⟨_, h⟩
  · exact absurd h (by unfold Lx.digM; split <;> (try split) <;> simp)
  · have := Lx.letM_kind T (by rw [h])
    rw [h] at this
    rcases this with h1 | h1
    · simp at h1
    · exact h1.2.2
  · simp at h
theorem read_show {s : Bytes} (hs : s.length ≤ 1000) (h : (readM s).2.1 = 0) : ∃ t, okT t ∧ namedT t = true ∧ t.size ≤ 1000 ∧ t.depth ≤ 40 ∧ readM s = (t.flat 0, 0, 0) := by
  obtain ⟨l, p, r, hl, hp, hr, he⟩ := read_ok h
  obtain ⟨t, ht, hpt, hpe, h1, h2⟩ := hp.ok
  have hg := Lx.lexM_good s (by omega)
  rw [hl] at hg
  have hc := (Lx.lexM_chain s (by omega)).1
  rw [hl] at hc
  have hlen := Lx.chain_len hc (Nat.zero_le _)
  have hN : nmR (rd0 l) := fun x hx hk => by
    have := hg x hx
    rw [hk] at this
    unfold nmB; rw [good_name this, Bool.or_true]
  have hn := (run_names _ _ _ _ _ hp.eq hN trivial).1
  have hb := (run_step _ _ _ _ _ hp.eq (fun hc => absurd rfl hc) (by simp [Task.pre])).2.2
  have hcode := hp.code
  refine ⟨t, ht, ?_, ?_, h2, by rw [he, hpe]⟩
  · rw [namedT_labs, List.all_eq_true]
    intro x hx
    rw [← flat_labs t 0, ← hpe, List.mem_map] at hx
    obtain ⟨y, hy, rfl⟩ := hx
    exact hn y hy
  · rw [hpt] at hb
    simp only [ptOf, Task.base, Rd.mu, hcode, if_true, rd0] at hb
    have : (Lx.Res.ok l).toks.length = l.length := rfl
    omega
theorem flat_show {t : T} (ht : okT t) (hn : namedT t = true) (h1 : t.size ≤ 5000) (h2 : t.depth ≤ 40) : May (t.flat 0) ∧ smayB (t.flat 0) = true ∧ normM (t.flat 0) = t.flat 0 := by
  have hm := may_flat t ht.1 ht.2 h1 h2
  have hr := root_flat t ht.1
  refine ⟨hm, by rw [smay_of hm, hr]; exact hn, ?_⟩
  unfold normM; rw [hr]

/- Round signs. -/
def bal (l : Bytes) : Int := (l.count 40 : Int) - (l.count 41 : Int)
def Bal (l : Bytes) : Prop := (∀ k, 0 ≤ bal (l.take k)) ∧ bal l = 0
theorem bal_app (a b : Bytes) : bal (a ++ b) = bal a + bal b := by unfold bal; simp [List.count_append]; omega
theorem bal_nil : bal [] = 0 := rfl
theorem Bal.app {a b : Bytes} (ha : Bal a) (hb : Bal b) : Bal (a ++ b) := by
  refine ⟨fun k => ?_, by rw [bal_app, ha.2, hb.2]; rfl⟩
  rw [List.take_append, bal_app]
  have := ha.1 k; have := hb.1 (k - a.length); omega
theorem Bal.sur {a : Bytes} (ha : Bal a) : Bal ([40, 32] ++ a ++ [41, 32]) := by
  have b1 : bal [40, 32] = 1 := rfl
  have b2 : bal [41, 32] = -1 := rfl
  refine ⟨fun k => ?_, by rw [bal_app, bal_app, ha.2, b1, b2]; rfl⟩
  rw [List.take_append, List.take_append, bal_app, bal_app]
  match k with
  | 0 => simp; decide
  | 1 => simp [bal]
  | k + 2 =>
    have e1 : bal (([40, 32] : Bytes).take (k + 2)) = 1 := by simp; rfl
    have e2 := ha.1 (k + 2 - ([40, 32] : Bytes).length)
    rw [e1]
    by_cases hk : k + 2 ≤ ([40, 32] ++ a : Bytes).length
    · rw [Nat.sub_eq_zero_of_le hk]
      have e3 : bal (([41, 32] : Bytes).take 0) = 0 := rfl
      rw [e3]; omega
    · have h3 : a.take (k + 2 - ([40, 32] : Bytes).length) = a := List.take_of_length_le (by simp at hk ⊢; omega)
      rw [h3, ha.2]
      generalize k + 2 - ([40, 32] ++ a : Bytes).length = m
      match m with
      | 0 => simp [bal]
      | 1 => simp [bal]
      | m + 2 => simp [bal]
theorem bal_plain {a : Bytes} (h : ∀ c ∈ a, c ≠ 40 ∧ c ≠ 41) : Bal a := by
  have key : ∀ l : Bytes, (∀ c ∈ l, c ≠ 40 ∧ c ≠ 41) → bal l = 0 := fun l hl => by
    unfold bal
    rw [List.count_eq_zero.2 (fun hm => (hl 40 hm).1 rfl), List.count_eq_zero.2 (fun hm => (hl 41 hm).2 rfl)]; rfl
  exact ⟨fun k => by rw [key _ (fun c hc => h c (List.mem_of_mem_take hc))]; exact Int.le_refl _, key a h⟩
def flatB (l : List KT) : Bytes := l.flatMap (fun x => x.2 ++ [32])
theorem flatB_app (a b : List KT) : flatB (a ++ b) = flatB a ++ flatB b := by simp [flatB]
theorem flatB_cons (x : KT) (b : List KT) : flatB (x :: b) = (x.2 ++ [32]) ++ flatB b := by simp [flatB]
theorem flatB_nil : flatB [] = [] := rfl
theorem flatB_join : ∀ l : List KT, l ≠ [] → Lx.joinM (l.map tokOf) ++ [32] = flatB l
  | [], h => absurd rfl h
  | [x], _ => by rw [List.map_cons, List.map_nil, Lx.joinM_one, flatB_cons, flatB_nil]; simp [tokOf]
  | x :: y :: r, _ => by
    have := flatB_join (y :: r) (by simp)
    rw [List.map_cons] at this
    rw [List.map_cons, List.map_cons, Lx.joinM_more, flatB_cons, ← this]
    simp [tokOf]
def plainK (x : KT) : Bool := x.2.all (fun c => c != 40 && c != 41)
theorem Bal.cons {x : KT} {l : List KT} (hx : plainK x = true) (h : Bal (flatB l)) : Bal (flatB (x :: l)) := by
  rw [flatB_cons]
  refine Bal.app (bal_plain fun c hc => ?_) h
  rcases List.mem_append.1 hc with h1 | h1
  · have := List.all_eq_true.1 hx c h1
    simp at this; exact this
  · simp at h1; subst h1; decide
theorem bal_flat_nil : Bal (flatB []) := ⟨fun k => by simp [flatB, bal], rfl⟩
theorem bal_sur {b : Bool} {l : List KT} (h : Bal (flatB l)) : Bal (flatB (sur b l)) := by
  unfold sur
  split
  · rw [flatB_cons, flatB_app, flatB_cons, flatB_nil, List.append_nil]
    have := h.sur
    simpa [tLp, tRp] using this
  · exact h
theorem name_plain {s : Bytes} (h : nmB s = true) : plainK (nameT s) = true := by
  unfold plainK nameT
  rw [List.all_eq_true]
  intro c hc
  unfold nmB at h
  rw [Bool.or_eq_true] at h
  rcases h with h | h
  · simp at h; subst h; simp at hc
  · simp only [Lx.nameB, Bool.and_eq_true] at h
    have h1 := List.all_eq_true.1 h.2 c hc
    have h2 : c ≠ 40 := by rintro rfl; exact absurd h1 (by decide)
    have h3 : c ≠ 41 := by rintro rfl; exact absurd h1 (by decide)
    simp [h2, h3]
theorem digs_plain (n : Nat) : plainK (2, digs n) = true := by
  unfold plainK
  rw [List.all_eq_true]
  intro c hc
  have h1 := List.all_eq_true.1 (digs_val n).2.1 c hc
  have h2 : c ≠ 40 := by rintro rfl; exact absurd h1 (by decide)
  have h3 : c ≠ 41 := by rintro rfl; exact absurd h1 (by decide)
  simp [h2, h3]
theorem ops_plain : ∀ s ∈ opTexts, s.all (fun c => c != 40 && c != 41) = true := by decide
theorem op_plain (o : Int) : plainK (kd (opText o)) = true := by
  unfold plainK kd opText
  simp only
  split
  · rfl
  · cases h : opTexts[o.toNat]? with
    | none => rfl
    | some s => exact ops_plain s (List.mem_of_getElem? h)
theorem toks_bal (t : T) : namedT t = true → Bal (flatB (toks t)) := by
  induction t with
  | l0 x =>
    intro h
    have hn : nmB x.name = true := h
    simp only [toks]
    split
    · exact Bal.cons (digs_plain _) bal_flat_nil
    · split
      · refine Bal.cons ?_ bal_flat_nil
        split <;> decide
      · split
        · refine Bal.cons (name_plain hn) ?_
          exact bal_sur (b := true) bal_flat_nil
        · exact Bal.cons (name_plain hn) bal_flat_nil
  | l1 x p ih =>
    intro h
    simp only [namedT, Bool.and_eq_true] at h
    have hn : nmB x.name = true := h.1
    have hp := ih h.2
    simp only [toks]
    split
    · exact Bal.cons (name_plain hn) (bal_sur (b := true) hp)
    · split
      · exact hp
      · refine Bal.cons (op_plain _) ?_
        rw [flatB_app]
        refine Bal.app ?_ (bal_sur hp)
        split
        · exact Bal.cons (digs_plain _) bal_flat_nil
        · exact bal_flat_nil
  | l2 x p q ih1 ih2 =>
    intro h
    simp only [namedT, Bool.and_eq_true] at h
    have hp := ih1 h.1.2
    have hq := ih2 h.2
    simp only [toks]
    split
    · rw [flatB_app]; exact Bal.app hp (Bal.cons (by decide) hq)
    · rw [flatB_app]; exact Bal.app (bal_sur hp) (Bal.cons (op_plain _) (bal_sur hq))
  | l3 x a b c ih1 ih2 ih3 =>
    intro h
    simp only [namedT, Bool.and_eq_true] at h
    simp only [toks]
    refine Bal.cons (by decide) ?_
    rw [flatB_app]
    refine Bal.app (ih1 h.1.1.2) (Bal.cons (by decide) ?_)
    rw [flatB_app]
    exact Bal.app (ih2 h.1.2) (Bal.cons (by decide) (ih3 h.2))
theorem toks_ne (t : T) : toks t ≠ [] := by
  induction t with
  | l0 x => simp only [toks]; split <;> (try split) <;> (try split) <;> simp
  | l1 x p ih => simp only [toks]; split <;> (try split) <;> simp [ih]
  | l2 x p q ih1 ih2 => simp only [toks]; split <;> simp
  | l3 x a b c _ _ _ => simp [toks]
theorem Bal.left {a : Bytes} (h : Bal (a ++ [32])) : Bal a := by
  have h2 := h.2
  rw [bal_app] at h2
  have e : bal [32] = 0 := rfl
  refine ⟨fun k => ?_, by omega⟩
  by_cases hk : k ≤ a.length
  · have := h.1 k
    rwa [List.take_append_of_le_length hk] at this
  · rw [List.take_of_length_le (by omega)]; omega
theorem text_bal {t : T} (h : namedT t = true) : Bal (textT t) := by
  have := toks_bal t h
  rw [← flatB_join _ (toks_ne t)] at this
  exact this.left
theorem show_bal (e : List Nd) : Bal (showM e) := by
  unfold showM
  split
  · rename_i h; exact text_bal (smay_may h).2
  · exact ⟨fun k => by simp [bal], rfl⟩

/- A Not ahead of an expression. -/
def notL : Lab := ⟨4, 0, []⟩
def notM (e : List Nd) : List Nd := e ++ [mkL notL [(e.length : Int) - 1]]
theorem not_len (e : List Nd) : (notM e).length = e.length + 1 := by simp [notM]
theorem not_kids (e : List Nd) (h : 0 < e.length) : kidsM (mkL notL [(e.length : Int) - 1]) = [(e.length : Int) - 1] := kids_mkL _ _ (by simp [notL, fitsB, unaryB]) (by intro k hk; simp at hk; omega)
theorem join_not {e : List Nd} (h : 0 < e.length) (h0 : e.map (onNd 0) = e) : joinM 4 0 [] [e] = notM e := by
  have ee : e.isEmpty = false := by cases e with
    | nil => simp at h
    | cons _ _ => rfl
  unfold joinM
  rw [show [e].any List.isEmpty = false by simp [ee], if_neg (by simp), if_neg (by decide), if_neg (by decide), if_pos (by rfl)]
  show (layStep ([], []) e).1 ++ [overM 4 0 [] (layStep ([], []) e).2] = _
  unfold layStep behindM notM
  simp only [List.length_nil, Int.natCast_zero, List.nil_append, h0]
  simp [overM, mkL, notL]
theorem not_get {e : List Nd} {i : Nat} {n : Nd} (h : (notM e)[i]? = some n) : (i < e.length ∧ e[i]? = some n) ∨ (i = e.length ∧ n = mkL notL [(e.length : Int) - 1]) := by
  unfold notM at h
  by_cases hi : i < e.length
  · rw [List.getElem?_append_left hi] at h; exact .inl ⟨hi, h⟩
  · rw [List.getElem?_append_right (by omega)] at h
    have h1 : i - e.length = 0 := by
      have := (List.getElem?_eq_some_iff.1 h).1
      simp at this; omega
    rw [h1] at h
    simp at h
    exact .inr ⟨by omega, h.symm⟩
theorem not_ahead {e : List Nd} (h : Ahead e) (hp : 0 < e.length) : Ahead (notM e) := fun i n hn k hk => by
  rcases not_get hn with ⟨_, h1⟩ | ⟨rfl, rfl⟩
  · exact h i n h1 k hk
  · rw [not_kids e hp] at hk; simp at hk; omega
theorem not_root {e : List Nd} (h : Ahead e) (hp : 0 < e.length) : root (notM e) = .l1 notL (root e) := by
  have hl : (notM e)[e.length]? = some (mkL notL [(e.length : Int) - 1]) := by simp [notM]
  unfold root
  rw [not_len, show e.length + 1 - 1 = e.length by omega, tree_eq (not_ahead h hp) hl, not_kids e hp]
  have e1 : ((e.length : Int) - 1).toNat = e.length - 1 := by omega
  simp only [List.map_cons, List.map_nil, e1, mkL_lab, mkT]
  unfold notM
  rw [tree_append h (by omega)]
theorem not_depth {e : List Nd} (h : Ahead e) (hp : 0 < e.length) : depthM (notM e) = 1 + depthM e := by
  rw [depth_tree (not_ahead h hp) (by rw [not_len]; omega), depth_tree h hp]
  have := not_root h hp
  unfold root at this
  rw [this]; simp [T.depth]; omega
theorem not_may {e : List Nd} (h : May e) (hl : e.length + 1 ≤ 5000) (hd : depthM e + 1 ≤ 40) : May (notM e) := by
  have hp := h.pos
  refine ⟨by rw [not_len]; omega, by rw [not_len]; exact hl, fun i n hn => ?_, fun j hj => ?_, ?_, by rw [not_depth h.ahead hp]; omega⟩
  · rcases not_get hn with ⟨hi, h1⟩ | ⟨rfl, rfl⟩
    · have g := h.node i n h1
      refine ⟨g.plain, g.bare, g.ahead, ?_⟩
      have e1 : (kidsM n).map (Tr.opAt (notM e)) = (kidsM n).map (Tr.opAt e) := by
        apply List.map_congr_left
        intro k hk
        have := g.ahead k hk
        unfold Tr.opAt notM
        simp only [List.getD]
        rw [List.getElem?_append_left (by omega)]
      rw [e1]; exact g.args
    · refine good_mk (by decide) (by simp [notL, fitsB, unaryB]) (by intro k hk; simp at hk; omega) ?_
      have e1 : Tr.opAt (notM e) ((e.length : Int) - 1) = (e.getD (e.length - 1) default).op := by
        unfold Tr.opAt notM
        have e2 : ((e.length : Int) - 1).toNat = e.length - 1 := by omega
        rw [e2]
        simp only [List.getD]
        rw [List.getElem?_append_left (by omega)]
      have := h.last
      simp only [List.map_cons, List.map_nil, e1, argsL, notL]
      simpa using this
  · rw [not_len] at hj
    have hz : usesM (notM e) j = usesM e j + (kidsM (mkL notL [(e.length : Int) - 1])).count (j : Int) := by
      unfold usesM notM
      rw [List.flatMap_append, List.count_append]; simp
    rw [hz, not_kids e hp]
    by_cases hj2 : j + 1 < e.length
    · rw [h.uses j hj2, List.count_cons]
      simp; omega
    · have hu : usesM e j = 0 := by
        unfold usesM
        rw [List.count_eq_zero]
        intro hm
        obtain ⟨x, hx, hk⟩ := List.mem_flatMap.1 hm
        obtain ⟨i, hi⟩ := List.mem_iff_getElem?.1 hx
        have h1 := (h.node i x hi).ahead _ hk
        have := (List.getElem?_eq_some_iff.1 hi).1
        omega
      rw [hu, show (e.length : Int) - 1 = (j : Int) by omega]; simp
  · rw [not_len, show e.length + 1 - 1 = e.length by omega]
    have : (notM e).getD e.length default = mkL notL [(e.length : Int) - 1] := by simp [notM, List.getD]
    rw [this, mkL_op]; simp [notL]
/-- Of a Not twice. -/
theorem not_law {e : List Nd} (h : smayB e = true) (h2 : smayB (notM (notM e)) = true) (h0 : e.length ≤ 200) : smayB (notM e) = true ∧ showM (notM (notM e)) = [110, 111, 116, 32] ++ showM (notM e) := by
  obtain ⟨hm, hn⟩ := smay_may h
  obtain ⟨hm2, hn2⟩ := smay_may h2
  have hp := hm.pos
  have ha1 := not_ahead hm.ahead hp
  have hp1 : 0 < (notM e).length := by rw [not_len]; omega
  have hd2 := hm2.deep
  rw [not_depth ha1 hp1, not_depth hm.ahead hp] at hd2
  have hm1 := not_may hm (by omega) (by omega)
  have r1 := not_root hm.ahead hp
  have r2 := not_root ha1 hp1
  have hs1 : smayB (notM e) = true := by
    rw [smay_of hm1]
    rw [r2] at hn2
    simp only [namedT, Bool.and_eq_true] at hn2
    exact hn2.2
  refine ⟨hs1, ?_⟩
  unfold showM
  rw [if_pos h2, if_pos hs1, r2, r1]
  have e1 : toks (.l1 notL (.l1 notL (root e))) = kd (opText 4) :: toks (.l1 notL (root e)) := by
    conv => lhs; rw [toks]
    rfl
  unfold textT
  rw [e1]
  cases hq : toks (.l1 notL (root e)) with
  | nil => exact absurd hq (toks_ne _)
  | cons y r => rw [List.map_cons, List.map_cons, Lx.joinM_more]; rfl
end Go.Proofs.YtgohhnbdicdenaaGreatDoor.Sh

/- Lists of texts in memory: whether two are the same, whether and where a text stands, how often. Conditions: slices are read as lists. -/
namespace Go.Proofs.YtgohhnbdicdenaaGreatDoor.Tr
open Go.ChangeShapes Go.WideShapes Go.ChangeAt Go.RowKit
set_option linter.unusedVariables false
set_option linter.unusedSimpArgs false

/-- A slice value reads as a list of texts. -/
def Strs (w : World) (v : Value) (l : List Bytes) : Prop :=
  ∃ A c, v = .slice A l.length c ∧ l.length ≤ c ∧ c ≤ maxLen ∧ ∀ i x, l[i]? = some x → ∃ g o, A = some ⟨g, o, none⟩ ∧ g < w.heap.size ∧ w.cell? ⟨g, o + i, none⟩ = some (.string (str x))
def strsOf (l : List Bytes) : List Value := l.map (fun s => .string (str s))
theorem strs_snoc (l : List Bytes) (x : Bytes) : strsOf (l ++ [x]) = strsOf l ++ [.string (str x)] := by simp [strsOf]
theorem Strs.of_own {w : World} {b : Nat} {v : Value} {l : List Bytes} (h : w.ownsRow b 9 1 v l.length (strsOf l)) : Strs w v l := by
  obtain ⟨hl, h0 | ⟨g, cap, cur, rfl, hb, hh, hnc, hcm, hcs, hct⟩⟩ := h
  · obtain ⟨rfl, h0⟩ := h0
    have : l = [] := List.length_eq_zero_iff.1 h0
    subst this
    exact ⟨none, 0, rfl, by simp, by unfold maxLen; omega, fun i t h => by simp at h⟩
  · have h : w.ownsRow b 9 1 (.slice (some ⟨g, 0, none⟩) l.length cap) l.length (strsOf l) := ⟨hl, .inr ⟨g, cap, cur, rfl, hb, hh, hnc, hcm, hcs, hct⟩⟩
    refine ⟨some ⟨g, 0, none⟩, cap, rfl, hnc, hcm, fun i x hi => ⟨g, 0, rfl, lt_of_block hh, ?_⟩⟩
    have hil : i < l.length := (List.getElem?_eq_some_iff.1 hi).1
    rw [Nat.zero_add, h.cellAt _ (by omega)]
    unfold strsOf
    rw [List.getElem?_map, hi]; rfl
theorem Strs.keep {w w' : World} {v : Value} {l : List Bytes} (h : Strs w v l) (hs : w.heap.size ≤ w'.heap.size) (hk : ∀ p : Addr, p.block < w.heap.size → w'.cell? p = w.cell? p) : Strs w' v l := by
  obtain ⟨A, c, rfl, h1, h2, h3⟩ := h
  refine ⟨A, c, rfl, h1, h2, fun i t hi => ?_⟩
  obtain ⟨g, o, hg, hlt, c0⟩ := h3 i t hi
  exact ⟨g, o, hg, by omega, (hk _ hlt).trans c0⟩
theorem Strs.below {w w' : World} {B : Nat} {v : Value} {l : List Bytes} (h : Strs w v l) (hb : Below B w w') (hB : w.heap.size ≤ B) : Strs w' v l :=
  h.keep hb.size fun p hp => hb.cell (by omega)
theorem Strs.drewN {w : World} {v : Value} {l : List Bytes} (h : Strs w v l) (n : Nat) : Strs (w.drewN n) v l := h
theorem Strs.take {w : World} {A : Option Addr} {k n c : Nat} {l : List Bytes} (h : Strs w (.slice A n c) l) (hk : k ≤ n) : Strs w (.slice A k c) (l.take k) := by
  obtain ⟨A', c', e, h1, h2, h3⟩ := h
  simp only [Value.slice.injEq] at e
  obtain ⟨rfl, rfl, rfl⟩ := e
  refine ⟨A, c, by rw [List.length_take, Nat.min_eq_left hk], by rw [List.length_take]; omega, h2, fun i x hi => ?_⟩
  rw [List.getElem?_take] at hi
  split at hi
  · exact h3 i x hi
  · simp at hi
theorem str_beq (a b : Bytes) : ((str a).toList == (str b).toList) = (a == b) := by rw [str_toList, str_toList]

theorem contains_next (l : List Bytes) (k : Nat) (x s : Bytes) (h : l[k]? = some x) (hn : (l.take k).contains s = false) (hx : (x == s) = false) : (l.take (k + 1)).contains s = false := by
  rw [List.take_add_one, h]
  simp only [Option.toList, List.contains_eq_any_beq, List.any_append, List.any_cons, List.any_nil, Bool.or_false] at hn ⊢
  rw [hn, Bool.false_or]
  rw [Bool.eq_false_iff] at hx ⊢
  intro he; apply hx; simp at he ⊢; exact he.symm
theorem contains_here (l : List Bytes) (k : Nat) (x s : Bytes) (h : l[k]? = some x) (hx : (x == s) = true) : l.contains s = true := by
  have hm := List.mem_of_getElem? h
  simp at hx ⊢
  rw [← hx]; exact hm

/-- Whether a text is one of some. -/
def hasB (l : List Bytes) (s : Bytes) : Bool := l.contains s
end Go.Proofs.YtgohhnbdicdenaaGreatDoor.Tr

/- An argument that is a list of nodes: what it reads as. Conditions: none. -/
namespace Go.Proofs.YtgohhnbdicdenaaGreatDoor.Tr
open Go.ChangeShapes Go.WideShapes Go.ChangeAt Go.RowKit Go.Deep
set_option linter.unusedVariables false
set_option linter.unusedSimpArgs false
set_option maxRecDepth 100000

/-- Each name is as long as a text may be. -/
def Short (e : List Nd) : Prop := ∀ x ∈ e, x.name.length ≤ maxLen
theorem cells3 : Tryz.prog.cellsOf 3 = 1 := by kernel_rfl
theorem cells9 : Tryz.prog.cellsOf 9 = 1 := by kernel_rfl
theorem cells23 : Tryz.prog.cellsOf 23 = 1 := by kernel_rfl
theorem cells30 : Tryz.prog.cellsOf 58 = 6 := by kernel_rfl
section
variable {H : Type} {enc : TypeId × Value → H} {w : World} {base : Nat} {spare : Nat → Bool} {held : Bool}
theorem node_cells {n : Nat} {cs : List Value} {y : DataW H × List MemPlace} (h : DataW.trod enc Tryz.prog w base spare held n 58 cs = some y) : ∃ x : Nd, cs = ndCells x ∧ x.name.length ≤ maxLen := by
  obtain ⟨xs, m, _, _, hlen, hxl, hf⟩ := DataW.trod_struct Tryz.underlying58 h
  rw [cells30] at hlen
  have hx6 : xs.length = 6 := hxl
  match cs, hlen, xs, hx6 with
  | [c0, c1, c2, c3, c4, c5], _, [y0, y1, y2, y3, y4, y5], _ =>
    have f0 : DataW.trod enc Tryz.prog w base spare held m 3 [c0] = some y0 := by have := hf 0 _ rfl; simpa [cells3, cells9] using this
    have f1 : DataW.trod enc Tryz.prog w base spare held m 3 [c1] = some y1 := by have := hf 1 _ rfl; simpa [cells3, cells9] using this
    have f2 : DataW.trod enc Tryz.prog w base spare held m 3 [c2] = some y2 := by have := hf 2 _ rfl; simpa [cells3, cells9] using this
    have f3 : DataW.trod enc Tryz.prog w base spare held m 3 [c3] = some y3 := by have := hf 3 _ rfl; simpa [cells3, cells9] using this
    have f4 : DataW.trod enc Tryz.prog w base spare held m 3 [c4] = some y4 := by have := hf 4 _ rfl; simpa [cells3, cells9] using this
    have f5 : DataW.trod enc Tryz.prog w base spare held m 9 [c5] = some y5 := by have := hf 5 _ rfl; simpa [cells3, cells9] using this
    obtain ⟨n0, e0, -, -⟩ := DataW.trod_int Tryz.underlying3 f0
    obtain ⟨n1, e1, -, -⟩ := DataW.trod_int Tryz.underlying3 f1
    obtain ⟨n2, e2, -, -⟩ := DataW.trod_int Tryz.underlying3 f2
    obtain ⟨n3, e3, -, -⟩ := DataW.trod_int Tryz.underlying3 f3
    obtain ⟨n4, e4, -, -⟩ := DataW.trod_int Tryz.underlying3 f4
    obtain ⟨s, e5, -, hs⟩ := DataW.trod_string Tryz.underlying9 f5
    simp only [List.cons.injEq, and_true] at e0 e1 e2 e3 e4 e5
    subst e0 e1 e2 e3 e4 e5
    refine ⟨⟨n0, n1, n2, n3, n4, s.toList⟩, by unfold ndCells; rw [str_of], ?_⟩
    rw [ByteArray.toList_eq]; simpa using hs
theorem spot_none {a : Addr} {v : Value} (h : w.cell? (a.add 0) = some v) : ∃ g o, a = ⟨g, o, none⟩ ∧ g < w.heap.size := by
  obtain ⟨g, o, spot⟩ := a
  have hspot : spot = none := by simpa [Addr.add] using World.cell?_spot h
  subst hspot
  exact ⟨g, o, rfl, World.block_lt_of_cell? w _ h⟩
theorem add_none (g o k : Nat) : (⟨g, o, none⟩ : Addr).add k = ⟨g, o + k, none⟩ := by unfold Addr.add; split <;> simp_all
/-- A slice of nodes reads as a list of nodes. -/
theorem trod_nodes {n : Nat} {t : TypeId} (ht : Tryz.prog.underlying t = some (.slice 58)) {cs : List Value} {y : DataW H × List MemPlace} (h : DataW.trod enc Tryz.prog w base spare held n t cs = some y) :
    ∃ v l, cs = [v] ∧ Nodes w v l ∧ Short l ∧ ∀ c, v = .slice none 0 c → c = 0 := by
  rcases open_slice ht h with ⟨rfl, _⟩ | ⟨a, len, cap, m, n', D, Pl, rfl, hb, hl, hm, hmm, _, hi⟩
  · exact ⟨_, [], rfl, ⟨none, 0, rfl, by simp, by unfold maxLen; omega, fun i t h => by simp at h⟩, fun x hx => by simp at hx, fun c hc => by simp at hc; exact hc.symm⟩
  · have hml : len ≤ m := by rw [hmm]; split <;> omega
    have each : ∀ i, i < len → ∃ x : Nd, x.name.length ≤ maxLen ∧ ∀ k, k < 6 → w.cell? (a.add (i * 6 + k)) = (ndCells x)[k]? := fun i hil => by
      obtain ⟨cs', hc, ht'⟩ := hi i (by omega)
      obtain ⟨x, rfl, hx⟩ := node_cells ht'
      obtain ⟨_, hcl, hat⟩ := World.cells?_some hc
      rw [cells30] at hat
      exact ⟨x, hx, fun k hk => by rw [← Go.Deep.add_add]; exact hat k hk⟩
    obtain ⟨X, hX⟩ := Go.Deep.choose_lt each
    refine ⟨_, (List.range len).map X, rfl, ⟨some a, cap, by simp, by simpa using hl, hm, fun i x hx => ?_⟩, fun x hx => ?_, fun c hc => by simp at hc⟩
    · have hil : i < len := by have := (List.getElem?_eq_some_iff.1 hx).1; simpa using this
      rw [List.getElem?_map, List.getElem?_range hil] at hx
      simp only [Option.map_some, Option.some.injEq] at hx
      subst hx
      have h0 := (hX 0 (by omega)).2 0 (by omega)
      obtain ⟨g, o, rfl, hg⟩ := spot_none (v := .int .i64 (X 0).op) h0
      have q := (hX i hil).2
      simp only [add_none] at q
      exact ⟨g, o, rfl, hg, q 0 (by omega), q 1 (by omega), q 2 (by omega), q 3 (by omega), q 4 (by omega), q 5 (by omega)⟩
    · rw [List.mem_map] at hx
      obtain ⟨i, hi', rfl⟩ := hx
      exact (hX i (List.mem_range.1 hi')).1
theorem open_nodes {r : Reach} {b0 : Nat} {v : Value} {d : DataW H} {p : List MemPlace} (hv : Value.okWide Tryz.prog w r b0 23 v) (h : DataW.Trod enc Tryz.prog w base spare held 23 v d p) : ∃ l, Nodes w v l ∧ Short l ∧ ∀ c, v = .slice none 0 c → c = 0 := by
  obtain ⟨a0, len, cap, rfl⟩ := okWide_slice Tryz.underlying23 hv
  obtain ⟨fuel, hf⟩ := h
  obtain ⟨u, l, hcs, h1, h2, h3⟩ := trod_nodes Tryz.underlying23 hf
  simp [Value.cells] at hcs
  subst hcs
  exact ⟨l, h1, h2, h3⟩
end
end Go.Proofs.YtgohhnbdicdenaaGreatDoor.Tr

/- The function live of the statements of layer lex answers true and leaves what was there as it was. Conditions: none. -/
namespace Go.Proofs.YtgohhnbdicdenaaGreatDoor.Lx
open Go.ChangeShapes Go.WideShapes Go.ChangeAt Go.RowKit
set_option linter.unusedVariables false

def s1 : Bytes := [97, 45, 62, 112, 114, 101, 32, 98, 32, 45, 45, 32, 120, 10, 49, 50]
def l1 : List Tok := [⟨1, [97], 0⟩, ⟨4, [45, 62], 1⟩, ⟨3, [112, 114, 101], 3⟩, ⟨1, [98], 7⟩, ⟨2, [49, 50], 14⟩]
theorem lexM1 : lexM s1 = .ok l1 := by decide +kernel
theorem lexM2 : lexM [97, 32, 48, 55] = .bad 2 2 := by decide +kernel
theorem lexM3 : lexM [97, 32, 35] = .bad 5 2 := by decide +kernel

/-- What a call of Lex leaves, as a caller reads it. -/
def LexGives (W : World) (l : List Tok) (c a : Int) (e : Ending) (w' : World) : Prop :=
  ∃ v, e = .returned (.tuple #[v, .agg #[.int .i64 c, .int .i64 a]]) ∧ Toks w' v l ∧ Below W.heap.size W w'
theorem LexPost.gives {W : World} {r : Res} {e : Ending} {w' : World} (h : LexPost W r e w') : LexGives W r.toks r.code r.at_ e w' := by
  obtain ⟨v, he, ho, hb⟩ := h
  exact ⟨v, he, Toks.of_own ho, hb⟩
theorem lex_gives (s : ByteArray) (w : World) (h : s.size ≤ maxLen) : Calls Tryz.prog 34 #[.string s] w (LexGives w (lexM s.toList).toks (lexM s.toList).code (lexM s.toList).at_) :=
  (lex_any s w h).mono fun _ _ h => h.gives
theorem app_toList (a b : ByteArray) : (a ++ b).toList = a.toList ++ b.toList := by
  rw [ByteArray.toList_eq, ByteArray.toList_eq, ByteArray.toList_eq, ByteArray.data_append, Array.toList_append]
theorem below_new (w : World) (o : Obj) : Below w.heap.size w (w.alloc o) := (Below.refl _ _).alloc (Nat.le_refl _) _
theorem below_drewN {B : Nat} {a w : World} (h : Below B a w) (n : Nat) : Below B a (w.drewN n) :=
  h.trans { os := rfl, tape := rfl, output := rfl, size := Nat.le_refl _, block := fun _ _ => rfl }

theorem lex1_any (w : World) : Calls Tryz.prog 34 #[.string ⟨#[97, 45, 62, 112, 114, 101, 32, 98, 32, 45, 45, 32, 120, 10, 49, 50]⟩] w (LexGives w l1 0 0) := by
  have := lex_gives (str s1) w (by rw [str_size]; unfold maxLen s1; simp)
  rw [str_toList, lexM1] at this; exact this
theorem lex2_any (w : World) : Calls Tryz.prog 34 #[.string ⟨#[97, 32, 48, 55]⟩] w (LexGives w [] 2 2) := by
  have := lex_gives (str [97, 32, 48, 55]) w (by rw [str_size]; unfold maxLen; simp)
  rw [str_toList, lexM2] at this; exact this
theorem lex3_any (w : World) : Calls Tryz.prog 34 #[.string ⟨#[97, 32, 35]⟩] w (LexGives w [] 5 2) := by
  have := lex_gives (str [97, 32, 35]) w (by rw [str_size]; unfold maxLen; simp)
  rw [str_toList, lexM3] at this; exact this
theorem name1_any (w : World) : Calls Tryz.prog 28 #[.string ⟨#[120, 95, 49]⟩] w fun e w' => e = .returned (.bool true) ∧ w = w' := by
  have := IsName_any (str [120, 95, 49]) w (by rw [str_size]; unfold maxLen; simp)
  rw [str_toList, show nameB [120, 95, 49] = true from by decide +kernel] at this; exact this
theorem name2_any (w : World) : Calls Tryz.prog 28 #[.string ⟨#[110, 111, 100, 101]⟩] w fun e w' => e = .returned (.bool false) ∧ w = w' := by
  have := IsName_any (str [110, 111, 100, 101]) w (by rw [str_size]; unfold maxLen; simp)
  rw [str_toList, show nameB [110, 111, 100, 101] = false from by decide +kernel] at this; exact this
theorem word1_any (w : World) : Calls Tryz.prog 47 #[.string ⟨#[110, 111, 100, 101]⟩] w fun e w' => e = .returned (.bool true) ∧ w = w' := by
  have := isWord_any (str [110, 111, 100, 101]) w
  rw [str_toList, show wordB [110, 111, 100, 101] = true from by decide +kernel] at this; exact this
theorem join1_any (v : Value) (w : World) (hv : Toks w v l1) : Calls Tryz.prog 26 #[v] w fun e w' => e = .returned (.string ⟨#[97, 32, 45, 62, 32, 112, 114, 101, 32, 98, 32, 49, 50]⟩) ∧ Below w.heap.size w w' := by
  have e : joinM l1 = [97, 32, 45, 62, 32, 112, 114, 101, 32, 98, 32, 49, 50] := by decide +kernel
  have := join_any v l1 w hv (by decide) (by rw [e]; simp)
  rw [e] at this; exact this

theorem live_mid {w1 w2 w3 : World} (hb2 : Below (w1.alloc (.cells #[.int .i64 0, .int .i64 0] 33)).heap.size (w1.alloc (.cells #[.int .i64 0, .int .i64 0] 33)) w2)
    (hb3 : Below (w2.alloc (.cells #[.int .i64 2, .int .i64 2] 33)).heap.size (w2.alloc (.cells #[.int .i64 2, .int .i64 2] 33)) w3) :
    w1.heap.size < w2.heap.size ∧ w2.heap.size < w3.heap.size ∧ w1.heap.size < w3.heap.size ∧
    w3.cell? ⟨w1.heap.size, 0, none⟩ = some (.int .i64 0) ∧ w3.cell? ⟨w1.heap.size, 1, none⟩ = some (.int .i64 0) ∧
    w3.cell? ⟨w2.heap.size, 0, none⟩ = some (.int .i64 2) ∧ w3.cell? ⟨w2.heap.size, 1, none⟩ = some (.int .i64 2) ∧ Below w1.heap.size w1 w3 := by
  have z2 := hb2.size
  have z3 := hb3.size
  simp at z2 z3
  have k1 : w1.heap.size < w2.heap.size := by omega
  refine ⟨k1, by omega, by omega, ?_, ?_, ?_, ?_, ?_⟩
  · rw [hb3.cell (by simp; omega), World.cell?_alloc_past _ _ _ k1, hb2.cell (by simp), World.cell?_alloc_at _ _ _ _ rfl]; rfl
  · rw [hb3.cell (by simp; omega), World.cell?_alloc_past _ _ _ k1, hb2.cell (by simp), World.cell?_alloc_at _ _ _ _ rfl]; rfl
  · rw [hb3.cell (by simp), World.cell?_alloc_at _ _ _ _ rfl]; rfl
  · rw [hb3.cell (by simp), World.cell?_alloc_at _ _ _ _ rfl]; rfl
  · exact (((Below.refl _ _).alloc (Nat.le_refl _) _).trans (hb2.mono (by simp))).trans (((Below.refl _ _).alloc (by omega) _).trans (hb3.mono (by simp; omega)))
theorem live_below (w : World) (o o' : Obj) : Below w.heap.size w ((w.alloc o).alloc o') := ((Below.refl _ _).alloc (Nat.le_refl _) _).alloc (by simp) _
theorem live_lit (w : World) (o : Obj) : Toks ((w.alloc o).alloc (.cells #[.int .i64 1, .string ⟨#[97]⟩, .int .i64 0, .int .i64 4, .string ⟨#[45, 62]⟩, .int .i64 1, .int .i64 3,
      .string ⟨#[112, 114, 101]⟩, .int .i64 3, .int .i64 1, .string ⟨#[98]⟩, .int .i64 7, .int .i64 2, .string ⟨#[49, 50]⟩, .int .i64 14] 54)) (.slice (some ⟨w.heap.size + 1, 0, none⟩) 5 5) l1 := by
  have h := World.ownsRow_lit (base := 0) (e := 54) (size := 3) (w.alloc o) #[.int .i64 1, .string ⟨#[97]⟩, .int .i64 0, .int .i64 4, .string ⟨#[45, 62]⟩, .int .i64 1, .int .i64 3,
      .string ⟨#[112, 114, 101]⟩, .int .i64 3, .int .i64 1, .string ⟨#[98]⟩, .int .i64 7, .int .i64 2, .string ⟨#[49, 50]⟩, .int .i64 14] 5 (Nat.zero_le _) (by unfold maxLen; omega) rfl
  rw [show (w.alloc o).heap.size = w.heap.size + 1 from by simp] at h
  exact Toks.of_own (b := 0) h

theorem toks_drewN {w : World} {v : Value} {l : List Tok} (h : Toks w v l) (n : Nat) : Toks (w.drewN n) v l := h
theorem live_end {w1 w3 w5 : World} {o o' : Obj} {n : Nat} (h : Below w1.heap.size w1 w3) (hb5 : Below (((w3.alloc o).alloc o').drewN n).heap.size (((w3.alloc o).alloc o').drewN n) w5) : Below w1.heap.size w1 w5 := by
  have hs := h.size
  refine (below_drewN ((h.alloc hs _).alloc (by simp; omega) _) n).trans (hb5.mono ?_)
  show _ ≤ ((w3.alloc o).alloc o').heap.size
  simp; omega
end Go.Proofs.YtgohhnbdicdenaaGreatDoor.Lx

