/- A lean reader of programs: an item. Conditions: as each says. -/
import Derived.Test.YtobkcdkffcenbaaGreatDoorSa12
set_option linter.unusedVariables false
set_option linter.unusedSimpArgs false
namespace Go.Proofs.YtobkcdkffcenbaaGreatDoor.Lp
open Go.ChangeShapes Go.WideShapes Go.ChangeAt Go.RowKit Go.Maps Go.WideMaps
open Go.Proofs.YtobkcdkffcenbaaGreatDoor.Tr (str ret_bool ret_int Bytes Nd Nodes)
open Go.Proofs.YtobkcdkffcenbaaGreatDoor.Lr (isAt run TkAt Mv NdW blk_lt isAt_lt mv_set)
open Go.Proofs.YtobkcdkffcenbaaGreatDoor.Pg (Prm Eqn Itm Unt Stay RowR OList PrmV EqnV ExpV ItmV UntV)
open Go.Proofs.YtobkcdkffcenbaaGreatDoor.Ex (PtW)
def ItmP (w : World) (b : Nat) (L : List Lx.Tok) (lv : Value) (j : Nat) (x : Itm) (e : Ending) (w' : World) : Prop := ∃ ev fv av, e = .returned (.tuple #[.agg #[.int .i64 x.kind, .string (str x.name), .int .i64 x.ty, ev, fv, av], .bool true]) ∧ PtW w' (ev, ⟨x.e, 0, 0⟩) ∧ PtW w' (fv, ⟨x.f, 0, 0⟩) ∧ RowR 32 1 ExpV w' x.args av ∧ P w w' b L lv j
set_option maxRecDepth 100000 in
set_option maxHeartbeats 8000000 in
theorem item_assume {b : Nat} {L : List Lx.Tok} {lv : Value} {i : Nat} {w : World} {E : List Nd} {j : Nat} (hr : Ry w b L lv i) (t1 : isAt L i wAssume = true) (h1 : exprL L (i + 1) = some (E, j)) (h2 : isAt L j [59] = true) : Calls Tryz.prog 83 #[.pointer (some ⟨b, 0, none⟩)] w (ItmP w b L lv (j + 1) ⟨1, [], 0, E, [], []⟩) := by
  have HR := Lib.hid hr
  have hlt := hr.lt
  have T1 := Lib.hid t1
  have H1 := Lib.hid h1
  have H2 := Lib.hid h2
  clear t1 h1 h2 hr
  have K0 := Lib.hid (Bk.two (T := 53) HR.out #[.int .i64 0, .string ⟨#[]⟩, .int .i64 0, .slice none 0 0, .slice none 0 0, .slice none 0 0])
  have hne : w.heap.size ≠ w.heap.size + 1 := by omega
  go_enter Tryz.func83, Tryz.ntmps83
  go_wp2_with fail
  refine (take_ok (s := wAssume) rfl T1.out K0.out.rd).mono ?_
  rintro e w1 ⟨rfl, g1⟩
  have K1 := Lib.hid (K0.out.go g1)
  have st1 := K0.out.st g1
  have l1 := K1.out.lts
  clear g1 st1 
  have q1_0 := K1.out.q 0 (.int .i64 0) rfl
  have f1_0 := K1.out.f 0
  have K1a := Lib.hid (K1.out.set 0 (.int .i64 1) #[.int .i64 1, .string ⟨#[]⟩, .int .i64 0, .slice none 0 0, .slice none 0 0, .slice none 0 0] rfl)
  go_wp2_with fail
  refine (expr_ok K1a.out.rd H1.out (Nat.le_of_lt (isAt_lt H2.out))).mono ?_
  rintro e w2 ⟨ev, rfl, hp2, g2⟩
  have K2 := Lib.hid (K1a.out.go g2)
  have st2 := K1a.out.st g2
  have l2 := K2.out.lts
  obtain ⟨A1, c1, rfl, u1, v1⟩ := pt_form hp2
  have F1_2 := Lib.hid hp2
  clear g2 st2 hp2 q1_0 f1_0
  have q2_3 := K2.out.q 3 (.slice none 0 0) rfl
  have f2_3 := K2.out.f 3
  have st2a := K2.out.ss 3 (.slice A1 E.length c1)
  have F1_2a := Lib.hid (st2a.pt (by decide) F1_2.out)
  clear st2a
  have K2a := Lib.hid (K2.out.set 3 (.slice A1 E.length c1) #[.int .i64 1, .string ⟨#[]⟩, .int .i64 0, .slice A1 E.length c1, .slice none 0 0, .slice none 0 0] rfl)
  go_wp2_with fail
  refine (need_ok (s := [59]) rfl H2.out K2a.out.rd).mono ?_
  rintro e w3 ⟨rfl, g3⟩
  have K3 := Lib.hid (K2a.out.go g3)
  have st3 := K2a.out.st g3
  have l3 := K3.out.lts
  have F1_3 := Lib.hid (st3.pt (by decide) F1_2a.out)
  clear g3 st3  q2_3 f2_3
  have q3_0 := K3.out.q 0 (.int .i64 1) rfl
  have p0 := K3.out.qx 0 (.int .i64 0) rfl
  have r0 := K3.out.fx 0
  have q3_1 := K3.out.q 1 (.string ⟨#[]⟩) rfl
  have p1 := K3.out.qx 1 (.string ⟨#[]⟩) rfl
  have r1 := K3.out.fx 1
  have q3_2 := K3.out.q 2 (.int .i64 0) rfl
  have p2 := K3.out.qx 2 (.int .i64 0) rfl
  have r2 := K3.out.fx 2
  have q3_3 := K3.out.q 3 (.slice A1 E.length c1) rfl
  have p3 := K3.out.qx 3 (.slice none 0 0) rfl
  have r3 := K3.out.fx 3
  have q3_4 := K3.out.q 4 (.slice none 0 0) rfl
  have p4 := K3.out.qx 4 (.slice none 0 0) rfl
  have r4 := K3.out.fx 4
  have q3_5 := K3.out.q 5 (.slice none 0 0) rfl
  have p5 := K3.out.qx 5 (.slice none 0 0) rfl
  have r5 := K3.out.fx 5
  go_wp2
  generalize hW : World.setCell _ ⟨w.heap.size, 5, none⟩ _ = W6
  obtain ⟨hp, hst, z0, z1, z2, z3, z4, z5⟩ := K3.out.fin6 hW
  clear p0 r0 p1 r1 p2 r2 p3 r3 p4 r4 p5 r5 q3_0 q3_1 q3_2 q3_3 q3_4 q3_5 hW
  exact bodyPost_ret (v := .tuple #[.agg #[.int .i64 1, .string ⟨#[]⟩, .int .i64 0, .slice A1 E.length c1, .slice none 0 0, .slice none 0 0], .bool true]) (by simp [results, Tryz.results83, go_sem, z0, z1, z2, z3, z4, z5]) rfl ⟨_, _, _, rfl, hst.pt (by decide) F1_3.out, PtW.nil _ _ rfl, RowR.nil _ _ _ _, hp⟩
set_option maxRecDepth 100000 in
set_option maxHeartbeats 8000000 in
theorem item_guarantee {b : Nat} {L : List Lx.Tok} {lv : Value} {i : Nat} {w : World} {E : List Nd} {j : Nat} (hr : Ry w b L lv i) (t1 : isAt L i wAssume = false) (t2 : isAt L i wGuar = true) (h1 : exprL L (i + 1) = some (E, j)) (h2 : isAt L j [59] = true) : Calls Tryz.prog 83 #[.pointer (some ⟨b, 0, none⟩)] w (ItmP w b L lv (j + 1) ⟨2, [], 0, E, [], []⟩) := by
  have HR := Lib.hid hr
  have hlt := hr.lt
  have T1 := Lib.hid t1
  have T2 := Lib.hid t2
  have H1 := Lib.hid h1
  have H2 := Lib.hid h2
  clear t1 t2 h1 h2 hr
  have K0 := Lib.hid (Bk.two (T := 53) HR.out #[.int .i64 0, .string ⟨#[]⟩, .int .i64 0, .slice none 0 0, .slice none 0 0, .slice none 0 0])
  have hne : w.heap.size ≠ w.heap.size + 1 := by omega
  go_enter Tryz.func83, Tryz.ntmps83
  go_wp2_with fail
  refine (take_ok (s := wAssume) rfl T1.out K0.out.rd).mono ?_
  rintro e w1 ⟨rfl, g1⟩
  have K1 := Lib.hid (K0.out.go g1)
  have st1 := K0.out.st g1
  have l1 := K1.out.lts
  clear g1 st1 
  go_wp2_with fail
  refine (take_ok (s := wGuar) rfl T2.out K1.out.rd).mono ?_
  rintro e w2 ⟨rfl, g2⟩
  have K2 := Lib.hid (K1.out.go g2)
  have st2 := K1.out.st g2
  have l2 := K2.out.lts
  clear g2 st2 
  have q2_0 := K2.out.q 0 (.int .i64 0) rfl
  have f2_0 := K2.out.f 0
  have K2a := Lib.hid (K2.out.set 0 (.int .i64 2) #[.int .i64 2, .string ⟨#[]⟩, .int .i64 0, .slice none 0 0, .slice none 0 0, .slice none 0 0] rfl)
  go_wp2_with fail
  refine (expr_ok K2a.out.rd H1.out (Nat.le_of_lt (isAt_lt H2.out))).mono ?_
  rintro e w3 ⟨ev, rfl, hp3, g3⟩
  have K3 := Lib.hid (K2a.out.go g3)
  have st3 := K2a.out.st g3
  have l3 := K3.out.lts
  obtain ⟨A1, c1, rfl, u1, v1⟩ := pt_form hp3
  have F1_3 := Lib.hid hp3
  clear g3 st3 hp3 q2_0 f2_0
  have q3_3 := K3.out.q 3 (.slice none 0 0) rfl
  have f3_3 := K3.out.f 3
  have st3a := K3.out.ss 3 (.slice A1 E.length c1)
  have F1_3a := Lib.hid (st3a.pt (by decide) F1_3.out)
  clear st3a
  have K3a := Lib.hid (K3.out.set 3 (.slice A1 E.length c1) #[.int .i64 2, .string ⟨#[]⟩, .int .i64 0, .slice A1 E.length c1, .slice none 0 0, .slice none 0 0] rfl)
  go_wp2_with fail
  refine (need_ok (s := [59]) rfl H2.out K3a.out.rd).mono ?_
  rintro e w4 ⟨rfl, g4⟩
  have K4 := Lib.hid (K3a.out.go g4)
  have st4 := K3a.out.st g4
  have l4 := K4.out.lts
  have F1_4 := Lib.hid (st4.pt (by decide) F1_3a.out)
  clear g4 st4  q3_3 f3_3
  have q4_0 := K4.out.q 0 (.int .i64 2) rfl
  have p0 := K4.out.qx 0 (.int .i64 0) rfl
  have r0 := K4.out.fx 0
  have q4_1 := K4.out.q 1 (.string ⟨#[]⟩) rfl
  have p1 := K4.out.qx 1 (.string ⟨#[]⟩) rfl
  have r1 := K4.out.fx 1
  have q4_2 := K4.out.q 2 (.int .i64 0) rfl
  have p2 := K4.out.qx 2 (.int .i64 0) rfl
  have r2 := K4.out.fx 2
  have q4_3 := K4.out.q 3 (.slice A1 E.length c1) rfl
  have p3 := K4.out.qx 3 (.slice none 0 0) rfl
  have r3 := K4.out.fx 3
  have q4_4 := K4.out.q 4 (.slice none 0 0) rfl
  have p4 := K4.out.qx 4 (.slice none 0 0) rfl
  have r4 := K4.out.fx 4
  have q4_5 := K4.out.q 5 (.slice none 0 0) rfl
  have p5 := K4.out.qx 5 (.slice none 0 0) rfl
  have r5 := K4.out.fx 5
  go_wp2
  generalize hW : World.setCell _ ⟨w.heap.size, 5, none⟩ _ = W6
  obtain ⟨hp, hst, z0, z1, z2, z3, z4, z5⟩ := K4.out.fin6 hW
  clear p0 r0 p1 r1 p2 r2 p3 r3 p4 r4 p5 r5 q4_0 q4_1 q4_2 q4_3 q4_4 q4_5 hW
  exact bodyPost_ret (v := .tuple #[.agg #[.int .i64 2, .string ⟨#[]⟩, .int .i64 0, .slice A1 E.length c1, .slice none 0 0, .slice none 0 0], .bool true]) (by simp [results, Tryz.results83, go_sem, z0, z1, z2, z3, z4, z5]) rfl ⟨_, _, _, rfl, hst.pt (by decide) F1_4.out, PtW.nil _ _ rfl, RowR.nil _ _ _ _, hp⟩
set_option maxRecDepth 100000 in
set_option maxHeartbeats 8000000 in
theorem item_ghost {b : Nat} {L : List Lx.Tok} {lv : Value} {i : Nat} {w : World} {p : Prm} {E : List Nd} {j k : Nat} (hr : Ry w b L lv i) (t1 : isAt L i wAssume = false) (t2 : isAt L i wGuar = false) (t3 : isAt L i wGhost = true) (h1 : paramL L (i + 1) = some (p, j)) (h2 : isAt L j [61] = true) (h3 : exprL L (j + 1) = some (E, k)) (h4 : isAt L k [59] = true) : Calls Tryz.prog 83 #[.pointer (some ⟨b, 0, none⟩)] w (ItmP w b L lv (k + 1) ⟨3, p.name, p.ty, E, [], []⟩) := by
  have HR := Lib.hid hr
  have hlt := hr.lt
  have T1 := Lib.hid t1
  have T2 := Lib.hid t2
  have T3 := Lib.hid t3
  have H1 := Lib.hid h1
  have H2 := Lib.hid h2
  have H3 := Lib.hid h3
  have H4 := Lib.hid h4
  clear t1 t2 t3 h1 h2 h3 h4 hr
  have K0 := Lib.hid (Bk.two (T := 53) HR.out #[.int .i64 0, .string ⟨#[]⟩, .int .i64 0, .slice none 0 0, .slice none 0 0, .slice none 0 0])
  have hne : w.heap.size ≠ w.heap.size + 1 := by omega
  go_enter Tryz.func83, Tryz.ntmps83
  go_wp2_with fail
  refine (take_ok (s := wAssume) rfl T1.out K0.out.rd).mono ?_
  rintro e w1 ⟨rfl, g1⟩
  have K1 := Lib.hid (K0.out.go g1)
  have st1 := K0.out.st g1
  have l1 := K1.out.lts
  clear g1 st1 
  go_wp2_with fail
  refine (take_ok (s := wGuar) rfl T2.out K1.out.rd).mono ?_
  rintro e w2 ⟨rfl, g2⟩
  have K2 := Lib.hid (K1.out.go g2)
  have st2 := K1.out.st g2
  have l2 := K2.out.lts
  clear g2 st2 
  go_wp2_with fail
  refine (take_ok (s := wGhost) rfl T3.out K2.out.rd).mono ?_
  rintro e w3 ⟨rfl, g3⟩
  have K3 := Lib.hid (K2.out.go g3)
  have st3 := K2.out.st g3
  have l3 := K3.out.lts
  clear g3 st3 
  go_wp2_with fail
  refine (param_ok K3.out.rd H1.out).mono ?_
  rintro e w4 ⟨rfl, g4⟩
  have K4 := Lib.hid (K3.out.go g4)
  have st4 := K3.out.st g4
  have l4 := K4.out.lts
  clear g4 st4 
  have q4_0 := K4.out.q 0 (.int .i64 0) rfl
  have f4_0 := K4.out.f 0
  have q4_1 := K4.out.q 1 (.string ⟨#[]⟩) rfl
  have f4_1 := K4.out.f 1
  have q4_2 := K4.out.q 2 (.int .i64 0) rfl
  have f4_2 := K4.out.f 2
  have K4a := Lib.hid (K4.out.set 0 (.int .i64 3) #[.int .i64 3, .string ⟨#[]⟩, .int .i64 0, .slice none 0 0, .slice none 0 0, .slice none 0 0] rfl)
  have K4b := Lib.hid (K4a.out.set 1 (.string (str p.name)) #[.int .i64 3, .string (str p.name), .int .i64 0, .slice none 0 0, .slice none 0 0, .slice none 0 0] rfl)
  have K4c := Lib.hid (K4b.out.set 2 (.int .i64 p.ty) #[.int .i64 3, .string (str p.name), .int .i64 p.ty, .slice none 0 0, .slice none 0 0, .slice none 0 0] rfl)
  have K4z := Lib.hid (K4c.out.al (.cells #[.string (str p.name), .int .i64 p.ty] 45))
  --LOCAL
  go_wp2_with fail
  refine (need_ok (s := [61]) rfl H2.out K4z.out.rd).mono ?_
  rintro e w5 ⟨rfl, g5⟩
  have K5 := Lib.hid (K4z.out.go g5)
  have st5 := K4z.out.st g5
  have l5 := K5.out.lts
  clear g5 st5  q4_0 f4_0 q4_1 f4_1 q4_2 f4_2
  go_wp2_with fail
  refine (expr_ok K5.out.rd H3.out (Nat.le_of_lt (isAt_lt H4.out))).mono ?_
  rintro e w6 ⟨ev, rfl, hp6, g6⟩
  have K6 := Lib.hid (K5.out.go g6)
  have st6 := K5.out.st g6
  have l6 := K6.out.lts
  obtain ⟨A1, c1, rfl, u1, v1⟩ := pt_form hp6
  have F1_6 := Lib.hid hp6
  clear g6 st6 hp6
  have q6_3 := K6.out.q 3 (.slice none 0 0) rfl
  have f6_3 := K6.out.f 3
  have st6a := K6.out.ss 3 (.slice A1 E.length c1)
  have F1_6a := Lib.hid (st6a.pt (by decide) F1_6.out)
  clear st6a
  have K6a := Lib.hid (K6.out.set 3 (.slice A1 E.length c1) #[.int .i64 3, .string (str p.name), .int .i64 p.ty, .slice A1 E.length c1, .slice none 0 0, .slice none 0 0] rfl)
  go_wp2_with fail
  refine (need_ok (s := [59]) rfl H4.out K6a.out.rd).mono ?_
  rintro e w7 ⟨rfl, g7⟩
  have K7 := Lib.hid (K6a.out.go g7)
  have st7 := K6a.out.st g7
  have l7 := K7.out.lts
  have F1_7 := Lib.hid (st7.pt (by decide) F1_6a.out)
  clear g7 st7  q6_3 f6_3
  have q7_0 := K7.out.q 0 (.int .i64 3) rfl
  have p0 := K7.out.qx 0 (.int .i64 0) rfl
  have r0 := K7.out.fx 0
  have q7_1 := K7.out.q 1 (.string (str p.name)) rfl
  have p1 := K7.out.qx 1 (.string ⟨#[]⟩) rfl
  have r1 := K7.out.fx 1
  have q7_2 := K7.out.q 2 (.int .i64 p.ty) rfl
  have p2 := K7.out.qx 2 (.int .i64 0) rfl
  have r2 := K7.out.fx 2
  have q7_3 := K7.out.q 3 (.slice A1 E.length c1) rfl
  have p3 := K7.out.qx 3 (.slice none 0 0) rfl
  have r3 := K7.out.fx 3
  have q7_4 := K7.out.q 4 (.slice none 0 0) rfl
  have p4 := K7.out.qx 4 (.slice none 0 0) rfl
  have r4 := K7.out.fx 4
  have q7_5 := K7.out.q 5 (.slice none 0 0) rfl
  have p5 := K7.out.qx 5 (.slice none 0 0) rfl
  have r5 := K7.out.fx 5
  go_wp2
  generalize hW : World.setCell _ ⟨w.heap.size, 5, none⟩ _ = W6
  obtain ⟨hp, hst, z0, z1, z2, z3, z4, z5⟩ := K7.out.fin6 hW
  clear p0 r0 p1 r1 p2 r2 p3 r3 p4 r4 p5 r5 q7_0 q7_1 q7_2 q7_3 q7_4 q7_5 hW
  exact bodyPost_ret (v := .tuple #[.agg #[.int .i64 3, .string (str p.name), .int .i64 p.ty, .slice A1 E.length c1, .slice none 0 0, .slice none 0 0], .bool true]) (by simp [results, Tryz.results83, go_sem, z0, z1, z2, z3, z4, z5]) rfl ⟨_, _, _, rfl, hst.pt (by decide) F1_7.out, PtW.nil _ _ rfl, RowR.nil _ _ _ _, hp⟩
set_option maxRecDepth 100000 in
set_option maxHeartbeats 8000000 in
theorem item_mode {b : Nat} {L : List Lx.Tok} {lv : Value} {i : Nat} {w : World} {n : Bytes} {E F : List Nd} {j k m : Nat} (hr : Ry w b L lv i) (t1 : isAt L i wAssume = false) (t2 : isAt L i wGuar = false) (t3 : isAt L i wGhost = false) (t4 : isAt L i wMode = true) (h1 : nameL L (i + 1) = some (n, j)) (h2 : isAt L j [114, 101, 113, 117, 105, 114, 101] = true) (h3 : exprL L (j + 1) = some (E, k)) (h4 : isAt L k [101, 110, 115, 117, 114, 101] = true) (h5 : exprL L (k + 1) = some (F, m)) (h6 : isAt L m [59] = true) : Calls Tryz.prog 83 #[.pointer (some ⟨b, 0, none⟩)] w (ItmP w b L lv (m + 1) ⟨4, n, 0, E, F, []⟩) := by
  have HR := Lib.hid hr
  have hlt := hr.lt
  have T1 := Lib.hid t1
  have T2 := Lib.hid t2
  have T3 := Lib.hid t3
  have T4 := Lib.hid t4
  have H1 := Lib.hid h1
  have H2 := Lib.hid h2
  have H3 := Lib.hid h3
  have H4 := Lib.hid h4
  have H5 := Lib.hid h5
  have H6 := Lib.hid h6
  clear t1 t2 t3 t4 h1 h2 h3 h4 h5 h6 hr
  have K0 := Lib.hid (Bk.two (T := 53) HR.out #[.int .i64 0, .string ⟨#[]⟩, .int .i64 0, .slice none 0 0, .slice none 0 0, .slice none 0 0])
  have hne : w.heap.size ≠ w.heap.size + 1 := by omega
  go_enter Tryz.func83, Tryz.ntmps83
  go_wp2_with fail
  refine (take_ok (s := wAssume) rfl T1.out K0.out.rd).mono ?_
  rintro e w1 ⟨rfl, g1⟩
  have K1 := Lib.hid (K0.out.go g1)
  have st1 := K0.out.st g1
  have l1 := K1.out.lts
  clear g1 st1 
  go_wp2_with fail
  refine (take_ok (s := wGuar) rfl T2.out K1.out.rd).mono ?_
  rintro e w2 ⟨rfl, g2⟩
  have K2 := Lib.hid (K1.out.go g2)
  have st2 := K1.out.st g2
  have l2 := K2.out.lts
  clear g2 st2 
  go_wp2_with fail
  refine (take_ok (s := wGhost) rfl T3.out K2.out.rd).mono ?_
  rintro e w3 ⟨rfl, g3⟩
  have K3 := Lib.hid (K2.out.go g3)
  have st3 := K2.out.st g3
  have l3 := K3.out.lts
  clear g3 st3 
  go_wp2_with fail
  refine (take_ok (s := wMode) rfl T4.out K3.out.rd).mono ?_
  rintro e w4 ⟨rfl, g4⟩
  have K4 := Lib.hid (K3.out.go g4)
  have st4 := K3.out.st g4
  have l4 := K4.out.lts
  clear g4 st4 
  have q4_0 := K4.out.q 0 (.int .i64 0) rfl
  have f4_0 := K4.out.f 0
  have K4a := Lib.hid (K4.out.set 0 (.int .i64 4) #[.int .i64 4, .string ⟨#[]⟩, .int .i64 0, .slice none 0 0, .slice none 0 0, .slice none 0 0] rfl)
  go_wp2_with fail
  refine (name_ok K4a.out.rd H1.out).mono ?_
  rintro e w5 ⟨rfl, g5⟩
  have K5 := Lib.hid (K4a.out.go g5)
  have st5 := K4a.out.st g5
  have l5 := K5.out.lts
  clear g5 st5  q4_0 f4_0
  have q5_1 := K5.out.q 1 (.string ⟨#[]⟩) rfl
  have f5_1 := K5.out.f 1
  have K5a := Lib.hid (K5.out.set 1 (.string (str n)) #[.int .i64 4, .string (str n), .int .i64 0, .slice none 0 0, .slice none 0 0, .slice none 0 0] rfl)
  go_wp2_with fail
  refine (need_ok (s := [114, 101, 113, 117, 105, 114, 101]) rfl H2.out K5a.out.rd).mono ?_
  rintro e w6 ⟨rfl, g6⟩
  have K6 := Lib.hid (K5a.out.go g6)
  have st6 := K5a.out.st g6
  have l6 := K6.out.lts
  clear g6 st6  q5_1 f5_1
  go_wp2_with fail
  refine (expr_ok K6.out.rd H3.out (Nat.le_of_lt (isAt_lt H4.out))).mono ?_
  rintro e w7 ⟨ev, rfl, hp7, g7⟩
  have K7 := Lib.hid (K6.out.go g7)
  have st7 := K6.out.st g7
  have l7 := K7.out.lts
  obtain ⟨A1, c1, rfl, u1, v1⟩ := pt_form hp7
  have F1_7 := Lib.hid hp7
  clear g7 st7 hp7
  have q7_3 := K7.out.q 3 (.slice none 0 0) rfl
  have f7_3 := K7.out.f 3
  have st7a := K7.out.ss 3 (.slice A1 E.length c1)
  have F1_7a := Lib.hid (st7a.pt (by decide) F1_7.out)
  clear st7a
  have K7a := Lib.hid (K7.out.set 3 (.slice A1 E.length c1) #[.int .i64 4, .string (str n), .int .i64 0, .slice A1 E.length c1, .slice none 0 0, .slice none 0 0] rfl)
  go_wp2_with fail
  refine (need_ok (s := [101, 110, 115, 117, 114, 101]) rfl H4.out K7a.out.rd).mono ?_
  rintro e w8 ⟨rfl, g8⟩
  have K8 := Lib.hid (K7a.out.go g8)
  have st8 := K7a.out.st g8
  have l8 := K8.out.lts
  have F1_8 := Lib.hid (st8.pt (by decide) F1_7a.out)
  clear g8 st8  q7_3 f7_3
  go_wp2_with fail
  refine (expr_ok K8.out.rd H5.out (Nat.le_of_lt (isAt_lt H6.out))).mono ?_
  rintro e w9 ⟨ev, rfl, hp9, g9⟩
  have K9 := Lib.hid (K8.out.go g9)
  have st9 := K8.out.st g9
  have l9 := K9.out.lts
  have F1_9 := Lib.hid (st9.pt (by decide) F1_8.out)
  obtain ⟨A2, c2, rfl, u2, v2⟩ := pt_form hp9
  have F2_9 := Lib.hid hp9
  clear g9 st9 hp9
  have q9_4 := K9.out.q 4 (.slice none 0 0) rfl
  have f9_4 := K9.out.f 4
  have st9a := K9.out.ss 4 (.slice A2 F.length c2)
  have F1_9a := Lib.hid (st9a.pt (by decide) F1_9.out)
  have F2_9a := Lib.hid (st9a.pt (by decide) F2_9.out)
  clear st9a
  have K9a := Lib.hid (K9.out.set 4 (.slice A2 F.length c2) #[.int .i64 4, .string (str n), .int .i64 0, .slice A1 E.length c1, .slice A2 F.length c2, .slice none 0 0] rfl)
  go_wp2_with fail
  refine (need_ok (s := [59]) rfl H6.out K9a.out.rd).mono ?_
  rintro e w10 ⟨rfl, g10⟩
  have K10 := Lib.hid (K9a.out.go g10)
  have st10 := K9a.out.st g10
  have l10 := K10.out.lts
  have F1_10 := Lib.hid (st10.pt (by decide) F1_9a.out)
  have F2_10 := Lib.hid (st10.pt (by decide) F2_9a.out)
  clear g10 st10  q9_4 f9_4
  have q10_0 := K10.out.q 0 (.int .i64 4) rfl
  have p0 := K10.out.qx 0 (.int .i64 0) rfl
  have r0 := K10.out.fx 0
  have q10_1 := K10.out.q 1 (.string (str n)) rfl
  have p1 := K10.out.qx 1 (.string ⟨#[]⟩) rfl
  have r1 := K10.out.fx 1
  have q10_2 := K10.out.q 2 (.int .i64 0) rfl
  have p2 := K10.out.qx 2 (.int .i64 0) rfl
  have r2 := K10.out.fx 2
  have q10_3 := K10.out.q 3 (.slice A1 E.length c1) rfl
  have p3 := K10.out.qx 3 (.slice none 0 0) rfl
  have r3 := K10.out.fx 3
  have q10_4 := K10.out.q 4 (.slice A2 F.length c2) rfl
  have p4 := K10.out.qx 4 (.slice none 0 0) rfl
  have r4 := K10.out.fx 4
  have q10_5 := K10.out.q 5 (.slice none 0 0) rfl
  have p5 := K10.out.qx 5 (.slice none 0 0) rfl
  have r5 := K10.out.fx 5
  go_wp2
  generalize hW : World.setCell _ ⟨w.heap.size, 5, none⟩ _ = W6
  obtain ⟨hp, hst, z0, z1, z2, z3, z4, z5⟩ := K10.out.fin6 hW
  clear p0 r0 p1 r1 p2 r2 p3 r3 p4 r4 p5 r5 q10_0 q10_1 q10_2 q10_3 q10_4 q10_5 hW
  exact bodyPost_ret (v := .tuple #[.agg #[.int .i64 4, .string (str n), .int .i64 0, .slice A1 E.length c1, .slice A2 F.length c2, .slice none 0 0], .bool true]) (by simp [results, Tryz.results83, go_sem, z0, z1, z2, z3, z4, z5]) rfl ⟨_, _, _, rfl, hst.pt (by decide) F1_10.out, hst.pt (by decide) F2_10.out, RowR.nil _ _ _ _, hp⟩
set_option maxRecDepth 100000 in
set_option maxHeartbeats 8000000 in
theorem item_import {b : Nat} {L : List Lx.Tok} {lv : Value} {i : Nat} {w : World} {n : Bytes} {l : List (List Nd)} {j k : Nat} (hr : Ry w b L lv i) (t1 : isAt L i wAssume = false) (t2 : isAt L i wGuar = false) (t3 : isAt L i wGhost = false) (t4 : isAt L i wMode = false) (t5 : isAt L i wImport = true) (h1 : nameL L (i + 1) = some (n, j)) (h2 : argsL L j = some (l, k)) (h3 : isAt L k [59] = true) : Calls Tryz.prog 83 #[.pointer (some ⟨b, 0, none⟩)] w (ItmP w b L lv (k + 1) ⟨5, n, 0, [], [], l⟩) := by
  have HR := Lib.hid hr
  have hlt := hr.lt
  have T1 := Lib.hid t1
  have T2 := Lib.hid t2
  have T3 := Lib.hid t3
  have T4 := Lib.hid t4
  have T5 := Lib.hid t5
  have H1 := Lib.hid h1
  have H2 := Lib.hid h2
  have H3 := Lib.hid h3
  clear t1 t2 t3 t4 t5 h1 h2 h3 hr
  have K0 := Lib.hid (Bk.two (T := 53) HR.out #[.int .i64 0, .string ⟨#[]⟩, .int .i64 0, .slice none 0 0, .slice none 0 0, .slice none 0 0])
  have hne : w.heap.size ≠ w.heap.size + 1 := by omega
  go_enter Tryz.func83, Tryz.ntmps83
  go_wp2_with fail
  refine (take_ok (s := wAssume) rfl T1.out K0.out.rd).mono ?_
  rintro e w1 ⟨rfl, g1⟩
  have K1 := Lib.hid (K0.out.go g1)
  have st1 := K0.out.st g1
  have l1 := K1.out.lts
  clear g1 st1 
  go_wp2_with fail
  refine (take_ok (s := wGuar) rfl T2.out K1.out.rd).mono ?_
  rintro e w2 ⟨rfl, g2⟩
  have K2 := Lib.hid (K1.out.go g2)
  have st2 := K1.out.st g2
  have l2 := K2.out.lts
  clear g2 st2 
  go_wp2_with fail
  refine (take_ok (s := wGhost) rfl T3.out K2.out.rd).mono ?_
  rintro e w3 ⟨rfl, g3⟩
  have K3 := Lib.hid (K2.out.go g3)
  have st3 := K2.out.st g3
  have l3 := K3.out.lts
  clear g3 st3 
  go_wp2_with fail
  refine (take_ok (s := wMode) rfl T4.out K3.out.rd).mono ?_
  rintro e w4 ⟨rfl, g4⟩
  have K4 := Lib.hid (K3.out.go g4)
  have st4 := K3.out.st g4
  have l4 := K4.out.lts
  clear g4 st4 
  go_wp2_with fail
  refine (take_ok (s := wImport) rfl T5.out K4.out.rd).mono ?_
  rintro e w5 ⟨rfl, g5⟩
  have K5 := Lib.hid (K4.out.go g5)
  have st5 := K4.out.st g5
  have l5 := K5.out.lts
  clear g5 st5 
  have q5_0 := K5.out.q 0 (.int .i64 0) rfl
  have f5_0 := K5.out.f 0
  have K5a := Lib.hid (K5.out.set 0 (.int .i64 5) #[.int .i64 5, .string ⟨#[]⟩, .int .i64 0, .slice none 0 0, .slice none 0 0, .slice none 0 0] rfl)
  go_wp2_with fail
  refine (name_ok K5a.out.rd H1.out).mono ?_
  rintro e w6 ⟨rfl, g6⟩
  have K6 := Lib.hid (K5a.out.go g6)
  have st6 := K5a.out.st g6
  have l6 := K6.out.lts
  clear g6 st6  q5_0 f5_0
  have q6_1 := K6.out.q 1 (.string ⟨#[]⟩) rfl
  have f6_1 := K6.out.f 1
  have K6a := Lib.hid (K6.out.set 1 (.string (str n)) #[.int .i64 5, .string (str n), .int .i64 0, .slice none 0 0, .slice none 0 0, .slice none 0 0] rfl)
  go_wp2_with fail
  refine (args_ok K6a.out.rd H2.out).mono ?_
  rintro e w7 ⟨av, rfl, hl7, g7⟩
  have K7 := Lib.hid (K6a.out.go g7)
  have st7 := K6a.out.st g7
  have l7 := K7.out.lts
  obtain ⟨A1, n1, c1, rfl⟩ := row_form hl7
  have F1_7 := Lib.hid hl7
  clear g7 st7 hl7 q6_1 f6_1
  have q7_5 := K7.out.q 5 (.slice none 0 0) rfl
  have f7_5 := K7.out.f 5
  have st7a := K7.out.ss 5 (.slice A1 n1 c1)
  have F1_7a := Lib.hid (F1_7.out.stay st7a (by decide) (fun a x hx => ExpV.stay st7a (by decide) a x hx))
  clear st7a
  have K7a := Lib.hid (K7.out.set 5 (.slice A1 n1 c1) #[.int .i64 5, .string (str n), .int .i64 0, .slice none 0 0, .slice none 0 0, .slice A1 n1 c1] rfl)
  go_wp2_with fail
  refine (need_ok (s := [59]) rfl H3.out K7a.out.rd).mono ?_
  rintro e w8 ⟨rfl, g8⟩
  have K8 := Lib.hid (K7a.out.go g8)
  have st8 := K7a.out.st g8
  have l8 := K8.out.lts
  have F1_8 := Lib.hid (F1_7a.out.stay st8 (by decide) (fun a x hx => ExpV.stay st8 (by decide) a x hx))
  clear g8 st8  q7_5 f7_5
  have q8_0 := K8.out.q 0 (.int .i64 5) rfl
  have p0 := K8.out.qx 0 (.int .i64 0) rfl
  have r0 := K8.out.fx 0
  have q8_1 := K8.out.q 1 (.string (str n)) rfl
  have p1 := K8.out.qx 1 (.string ⟨#[]⟩) rfl
  have r1 := K8.out.fx 1
  have q8_2 := K8.out.q 2 (.int .i64 0) rfl
  have p2 := K8.out.qx 2 (.int .i64 0) rfl
  have r2 := K8.out.fx 2
  have q8_3 := K8.out.q 3 (.slice none 0 0) rfl
  have p3 := K8.out.qx 3 (.slice none 0 0) rfl
  have r3 := K8.out.fx 3
  have q8_4 := K8.out.q 4 (.slice none 0 0) rfl
  have p4 := K8.out.qx 4 (.slice none 0 0) rfl
  have r4 := K8.out.fx 4
  have q8_5 := K8.out.q 5 (.slice A1 n1 c1) rfl
  have p5 := K8.out.qx 5 (.slice none 0 0) rfl
  have r5 := K8.out.fx 5
  go_wp2
  generalize hW : World.setCell _ ⟨w.heap.size, 5, none⟩ _ = W6
  obtain ⟨hp, hst, z0, z1, z2, z3, z4, z5⟩ := K8.out.fin6 hW
  clear p0 r0 p1 r1 p2 r2 p3 r3 p4 r4 p5 r5 q8_0 q8_1 q8_2 q8_3 q8_4 q8_5 hW
  exact bodyPost_ret (v := .tuple #[.agg #[.int .i64 5, .string (str n), .int .i64 0, .slice none 0 0, .slice none 0 0, .slice A1 n1 c1], .bool true]) (by simp [results, Tryz.results83, go_sem, z0, z1, z2, z3, z4, z5]) rfl ⟨_, _, _, rfl, PtW.nil _ _ rfl, PtW.nil _ _ rfl, F1_8.out.stay hst (by decide) (fun a x hx => ExpV.stay hst (by decide) a x hx), hp⟩
theorem item_ok {b : Nat} {L : List Lx.Tok} {lv : Value} {i j : Nat} {x : Itm} {w : World} (hr : Ry w b L lv i) (h : itemL L i = some (x, j)) : Calls Tryz.prog 83 #[.pointer (some ⟨b, 0, none⟩)] w (ItmP w b L lv j x) := by
  unfold itemL at h
  cases t1 : isAt L i wAssume with
  | true =>
    rw [t1, if_pos rfl] at h
    obtain ⟨E, j1, h1, h⟩ := bd_some h
    obtain ⟨h2, h⟩ := nd_some h
    cases h
    exact item_assume hr t1 h1 h2
  | false =>
  rw [t1, if_neg (by decide)] at h
  cases t2 : isAt L i wGuar with
  | true =>
    rw [t2, if_pos rfl] at h
    obtain ⟨E, j1, h1, h⟩ := bd_some h
    obtain ⟨h2, h⟩ := nd_some h
    cases h
    exact item_guarantee hr t1 t2 h1 h2
  | false =>
  rw [t2, if_neg (by decide)] at h
  cases t3 : isAt L i wGhost with
  | true =>
    rw [t3, if_pos rfl] at h
    obtain ⟨p, j1, h1, h⟩ := bd_some h
    obtain ⟨h2, h⟩ := nd_some h
    obtain ⟨E, k1, h3, h⟩ := bd_some h
    obtain ⟨h4, h⟩ := nd_some h
    cases h
    exact item_ghost hr t1 t2 t3 h1 h2 h3 h4
  | false =>
  rw [t3, if_neg (by decide)] at h
  cases t4 : isAt L i wMode with
  | true =>
    rw [t4, if_pos rfl] at h
    obtain ⟨n, j1, h1, h⟩ := bd_some h
    obtain ⟨h2, h⟩ := nd_some h
    obtain ⟨E, k1, h3, h⟩ := bd_some h
    obtain ⟨h4, h⟩ := nd_some h
    obtain ⟨F, m1, h5, h⟩ := bd_some h
    obtain ⟨h6, h⟩ := nd_some h
    cases h
    exact item_mode hr t1 t2 t3 t4 h1 h2 h3 h4 h5 h6
  | false =>
  rw [t4, if_neg (by decide)] at h
  cases t5 : isAt L i wImport with
  | true =>
    rw [t5, if_pos rfl] at h
    obtain ⟨n, j1, h1, h⟩ := bd_some h
    obtain ⟨l, k1, h2, h⟩ := bd_some h
    obtain ⟨h3, h⟩ := nd_some h
    cases h
    exact item_import hr t1 t2 t3 t4 t5 h1 h2 h3
  | false => rw [t5, if_neg (by decide)] at h; cases h
end Go.Proofs.YtobkcdkffcenbaaGreatDoor.Lp

/- A lean reader of programs: a row of items. Conditions: as each says. -/
namespace Go.Proofs.YtobkcdkffcenbaaGreatDoor.Lp
open Go.ChangeShapes Go.WideShapes Go.ChangeAt Go.RowKit Go.Maps Go.WideMaps
open Go.Proofs.YtobkcdkffcenbaaGreatDoor.Tr (str ret_bool ret_int Bytes Nd Nodes)
open Go.Proofs.YtobkcdkffcenbaaGreatDoor.Lr (isAt run TkAt Mv NdW blk_lt isAt_lt mv_set)
open Go.Proofs.YtobkcdkffcenbaaGreatDoor.Pg (Prm Eqn Itm Unt Stay RowR OList PrmV EqnV ExpV ItmV UntV)
open Go.Proofs.YtobkcdkffcenbaaGreatDoor.Ex (PtW)
theorem infoitems : (Tryz.prog.info? 53).map (fun i => (i.zero, i.size, i.bytes)) = some (some (.agg #[.int .i64 0, .string ⟨#[]⟩, .int .i64 0, .slice none 0 0, .slice none 0 0, .slice none 0 0]), 6, 104) := by kernel_rfl
set_option maxRecDepth 100000 in
set_option maxHeartbeats 4000000 in
theorem items_ok {b : Nat} {L : List Lx.Tok} {lv : Value} {i j : Nat} {es : List Itm} {w : World} (hr : Ry w b L lv i) (h : itemsF L 201 [] i = some (es, j)) : Calls Tryz.prog 55 #[.pointer (some ⟨b, 0, none⟩)] w (RowP 53 6 ItmV w b L lv j es) := by
  have hlt := hr.lt
  obtain ⟨i0, hi, hz⟩ := Option.map_eq_some_iff.1 infoitems
  simp only [Prod.mk.injEq] at hz
  obtain ⟨hz0, hz1, hz2⟩ := hz
  have HR := Lib.hid hr
  have HF := Lib.hid h
  clear h hr
  go_enter Tryz.func55, Tryz.ntmps55
  go_wp2
  go_loopg [3] 201 (fun g s3 wr => ∃ (acc : List Itm) (xs : List (List Value)) (ov : Value) (m : Nat), ov = s3 ∧ OList 53 6 ItmV wr w.heap.size ov acc xs ∧ P w wr b L lv m ∧ itemsF L g acc m = some (es, j))
  case atStart => exact ⟨[], [], _, i, rfl, OList.nil _ _, P.refl HR.out, HF.out⟩
  case round =>
    obtain ⟨acc, xs, ov, m, hov, hol, hgr, hrow⟩ := hrel
    subst hov
    cases gk with
    | zero => simp [itemsF] at hrow
    | succ gk =>
    simp only [itemsF] at hrow
    obtain ⟨A0, c0, hv0, hn1, hn2⟩ := own_form hol.own
    subst hv0
    have HOL := Lib.hid hol
    have HGR := Lib.hid hgr
    have hs0 := hgr.mv.size
    cases hN : begB L m with
    | false =>
      rw [hN, if_neg (by simp)] at hrow
      obtain ⟨h1, h2⟩ := nd_some hrow
      injection h2 with h2
      simp only [Prod.mk.injEq] at h2
      obtain ⟨rfl, rfl⟩ := h2
      have HNM := Lib.hid (begins_ok hgr.rd hN)
      have H1 := Lib.hid h1
      clear hol hgr hrow h1 hN
      go_wp2_with fail
      refine HNM.out.mono ?_
      rintro e w1 ⟨rfl, g1⟩
      have HG1 := Lib.hid (HGR.out.trans g1)
      have hst := P.stay HGR.out.rd g1
      have HOL1 := Lib.hid (HOL.out.stay hst (by decide) (fun a x hx => Pg.ItmV.stay hst (by decide) (by decide) a x hx))
      have HND := Lib.hid (need_ok (s := [101, 110, 100]) rfl H1.out g1.rd)
      clear g1 hst
      go_wp2_with fail
      refine HND.out.mono ?_
      rintro e w2 ⟨rfl, g2⟩
      have HG2 := Lib.hid (HG1.out.trans g2)
      have hst := P.stay HG1.out.rd g2
      have HOL2 := Lib.hid (HOL1.out.stay hst (by decide) (fun a x hx => Pg.ItmV.stay hst (by decide) (by decide) a x hx))
      clear g2 hst
      go_wp2
      go_ret
      exact ⟨_, rfl, HOL2.out.row, HG2.out⟩
    | true =>
      rw [hN, if_pos rfl] at hrow
      by_cases hac : 200 ≤ acc.length
      · rw [if_pos hac] at hrow; cases hrow
      rw [if_neg hac] at hrow
      obtain ⟨x, k1, h1, h2⟩ := bd_some hrow
      have hac2 : acc.length < 200 := by omega
      have HNM := Lib.hid (begins_ok hgr.rd hN)
      have H1 := Lib.hid h1
      have H2 := Lib.hid h2
      clear hol hgr hrow h1 h2 hac hN
      go_wp2_with fail
      refine HNM.out.mono ?_
      rintro e w0 ⟨rfl, g0⟩
      have HG0 := Lib.hid (HGR.out.trans g0)
      have hst := P.stay HGR.out.rd g0
      have HOL0 := Lib.hid (HOL.out.stay hst (by decide) (fun a x hx => Pg.ItmV.stay hst (by decide) (by decide) a x hx))
      have HIT := Lib.hid (item_ok g0.rd H1.out)
      clear g0 hst
      go_wp2_with fail
      refine (room_ok hac2).mono ?_
      rintro e w0' ⟨rfl, hw0'⟩
      subst hw0'
      go_wp2_with fail
      refine HIT.out.mono ?_
      rintro e w1 ⟨ev, fv, av, rfl, pe, pf, pa, g1⟩
      obtain ⟨Ae, ce, rfl, ye, -⟩ := pt_form pe
      obtain ⟨Af, cf, rfl, yf, -⟩ := pt_form pf
      obtain ⟨Aa, na, ca, rfl⟩ := row_form pa
      have HXV : Hid (ItmV w1 x [.int .i64 x.kind, .string (str x.name), .int .i64 x.ty, .slice Ae x.e.length ce, .slice Af x.f.length cf, .slice Aa na ca]) := Lib.hid ⟨_, _, _, rfl, pe, pf, pa⟩
      have HG1 := Lib.hid (HG0.out.trans g1)
      have hst := P.stay HG0.out.rd g1
      have HOL1 := Lib.hid (HOL0.out.stay hst (by decide) (fun a x hx => Pg.ItmV.stay hst (by decide) (by decide) a x hx))
      clear g1 hst pe pf pa
      obtain ⟨w2, hw2⟩ : ∃ W, w1.alloc (.cells #[.int .i64 x.kind, .string (str x.name), .int .i64 x.ty, .slice Ae x.e.length ce, .slice Af x.f.length cf, .slice Aa na ca] 53) = W := ⟨_, rfl⟩
      have hb2 : Below w1.heap.size w1 w2 := hw2 ▸ below_al _ _
      have hst := Stay.below (P := fun t => t = 88) hb2
      have HG2 := Lib.hid (HG1.out.below hb2)
      have HOL2 := Lib.hid (HOL1.out.stay hst (by decide) (fun a x hx => Pg.ItmV.stay hst (by decide) (by decide) a x hx))
      have HXV2 := Lib.hid (Pg.ItmV.stay hst (by decide) (by decide) _ _ HXV.out)
      have hs6 := HG2.out.mv.size
      have hs2 : w2.heap.size = w1.heap.size + 1 := by rw [← hw2]; simp
      have HW2 := Lib.hid hw2
      clear hb2 hst hw2
      go_wp2_with (at_builtin; rw [HW2.out]; refine wpList_append_own _ rfl (.tmp 18) (.tmp 20) 47 rfl w.heap.size 53 i0 _ 6 _ Tryz.underlying47 hi hz0 hz1 hz2 rfl (by decide) _ acc.length xs.flatten rfl (HOL2.out.own.alloc _) ⟨w1.heap.size + 1, 0, none⟩ 1 1 [.int .i64 x.kind, .string (str x.name), .int .i64 x.ty, .slice Ae x.e.length ce, .slice Af x.f.length cf, .slice Aa na ca] rfl rfl ?a1 ?b1 ?c1 ?d1 ?e1 ?_)
      case a1 => exact news_new _ #[.int .i64 x.kind, .string (str x.name), .int .i64 x.ty, .slice Ae x.e.length ce, .slice Af x.f.length cf, .slice Aa na ca] _ [.int .i64 x.kind, .string (str x.name), .int .i64 x.ty, .slice Ae x.e.length ce, .slice Af x.f.length cf, .slice Aa na ca] rfl hs2
      case b1 => first | rfl | simp [Value.oneCell']
      case c1 => unfold maxLen; omega
      case d1 => omega
      case e1 => first | omega | (simp; omega)
      intro v3 w7 hown3 hg3 _
      have HOL7 := Lib.hid (HOL2.out.snoc (a := x) HXV2.out rfl (below_al w2 _) hown3 hg3 (fun st a x hx => Pg.ItmV.stay st (by decide) (by decide) a x hx))
      have HGR7 := Lib.hid (P.row HG2.out hlt (below_al w2 _) hg3 (fun g hg => (HOL2.out.own.lt g hg).1))
      obtain ⟨A3, c3, hv3, y3', y4'⟩ := own_form hown3
      subst hv3
      clear hown3 hg3
      go_wp2
      go_roundg gk
      case measure => omega
      case rel => exact ⟨acc ++ [x], _, _, _, rfl, HOL7.out, HGR7.out, H2.out⟩
end Go.Proofs.YtobkcdkffcenbaaGreatDoor.Lp

