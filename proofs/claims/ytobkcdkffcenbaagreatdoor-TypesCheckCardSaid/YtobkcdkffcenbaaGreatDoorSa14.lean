/- A lean reader of programs: a unit. Conditions: as each says. -/
import Derived.Test.YtobkcdkffcenbaaGreatDoorSa13
set_option linter.unusedVariables false
set_option linter.unusedSimpArgs false
namespace Go.Proofs.YtobkcdkffcenbaaGreatDoor.Lp
open Go.ChangeShapes Go.WideShapes Go.ChangeAt Go.RowKit Go.Maps Go.WideMaps
open Go.Proofs.YtobkcdkffcenbaaGreatDoor.Tr (str ret_bool ret_int Bytes Nd Nodes)
open Go.Proofs.YtobkcdkffcenbaaGreatDoor.Lr (isAt run TkAt Mv NdW blk_lt isAt_lt mv_set)
open Go.Proofs.YtobkcdkffcenbaaGreatDoor.Pg (Prm Eqn Itm Unt Stay RowR OList PrmV EqnV ExpV ItmV UntV)
open Go.Proofs.YtobkcdkffcenbaaGreatDoor.Ex (PtW)
def UntP (w : World) (b : Nat) (L : List Lx.Tok) (lv : Value) (j : Nat) (x : Unt) (e : Ending) (w' : World) : Prop := ∃ iv vv qv tv, e = .returned (.agg #[.bool x.contract, .string (str x.name), iv, .string (str x.out.name), .int .i64 x.out.ty, vv, qv, tv]) ∧ RowR 45 2 PrmV w' x.ins iv ∧ RowR 45 2 PrmV w' x.vars vv ∧ RowR 51 2 EqnV w' x.eqs qv ∧ RowR 53 6 ItmV w' x.items tv ∧ P w w' b L lv j
set_option maxRecDepth 100000 in
set_option maxHeartbeats 8000000 in
theorem unit_contract {b : Nat} {L : List Lx.Tok} {lv : Value} {i : Nat} {w : World} {n : Bytes} {ps : List Prm} {xs : List Itm} {j k m : Nat} (hr : Ry w b L lv i) (t1 : isAt L i wContract = true) (h1 : nameL L (i + 1) = some (n, j)) (h2 : inputsL L j = some (ps, k)) (h3 : itemsF L 201 [] k = some (xs, m)) : Calls Tryz.prog 37 #[.pointer (some ⟨b, 0, none⟩)] w (UntP w b L lv (m) ⟨true, n, ps, ⟨[], 0⟩, [], [], xs⟩) := by
  have HR := Lib.hid hr
  have hlt := hr.lt
  have T1 := Lib.hid t1
  have H1 := Lib.hid h1
  have H2 := Lib.hid h2
  have H3 := Lib.hid h3
  clear t1 h1 h2 h3 hr
  have K0 := Lib.hid (Bk.two (T := 49) HR.out #[.bool false, .string ⟨#[]⟩, .slice none 0 0, .string ⟨#[]⟩, .int .i64 0, .slice none 0 0, .slice none 0 0, .slice none 0 0])
  have hne : w.heap.size ≠ w.heap.size + 1 := by omega
  go_enter Tryz.func37, Tryz.ntmps37
  go_wp2_with fail
  refine (take_ok (s := wContract) rfl T1.out K0.out.rd).mono ?_
  rintro e w1 ⟨rfl, g1⟩
  have K1 := Lib.hid (K0.out.go g1)
  have st1 := K0.out.st g1
  have l1 := K1.out.lts
  clear g1 st1 
  have q1_0 := K1.out.q 0 (.bool false) rfl
  have f1_0 := K1.out.f 0
  have K1a := Lib.hid (K1.out.set 0 (.bool true) #[.bool true, .string ⟨#[]⟩, .slice none 0 0, .string ⟨#[]⟩, .int .i64 0, .slice none 0 0, .slice none 0 0, .slice none 0 0] rfl)
  go_wp2_with fail
  refine (name_ok K1a.out.rd H1.out).mono ?_
  rintro e w2 ⟨rfl, g2⟩
  have K2 := Lib.hid (K1a.out.go g2)
  have st2 := K1a.out.st g2
  have l2 := K2.out.lts
  clear g2 st2  q1_0 f1_0
  have q2_1 := K2.out.q 1 (.string ⟨#[]⟩) rfl
  have f2_1 := K2.out.f 1
  have K2a := Lib.hid (K2.out.set 1 (.string (str n)) #[.bool true, .string (str n), .slice none 0 0, .string ⟨#[]⟩, .int .i64 0, .slice none 0 0, .slice none 0 0, .slice none 0 0] rfl)
  go_wp2_with fail
  refine (inputs_ok K2a.out.rd H2.out).mono ?_
  rintro e w3 ⟨rv, rfl, hl3, g3⟩
  have K3 := Lib.hid (K2a.out.go g3)
  have st3 := K2a.out.st g3
  have l3 := K3.out.lts
  obtain ⟨A1, n1, c1, rfl⟩ := row_form hl3
  have F1_3 := Lib.hid hl3
  clear g3 st3 hl3 q2_1 f2_1
  have q3_2 := K3.out.q 2 (.slice none 0 0) rfl
  have f3_2 := K3.out.f 2
  have st3a := K3.out.ss 2 (.slice A1 n1 c1)
  have F1_3a := Lib.hid (F1_3.out.stay st3a (by decide) (fun a x hx => PrmV.stay st3a a x hx))
  clear st3a
  have K3a := Lib.hid (K3.out.set 2 (.slice A1 n1 c1) #[.bool true, .string (str n), .slice A1 n1 c1, .string ⟨#[]⟩, .int .i64 0, .slice none 0 0, .slice none 0 0, .slice none 0 0] rfl)
  go_wp2_with fail
  refine (items_ok K3a.out.rd H3.out).mono ?_
  rintro e w4 ⟨rv, rfl, hl4, g4⟩
  have K4 := Lib.hid (K3a.out.go g4)
  have st4 := K3a.out.st g4
  have l4 := K4.out.lts
  have F1_4 := Lib.hid (F1_3a.out.stay st4 (by decide) (fun a x hx => PrmV.stay st4 a x hx))
  obtain ⟨A2, n2, c2, rfl⟩ := row_form hl4
  have F2_4 := Lib.hid hl4
  clear g4 st4 hl4 q3_2 f3_2
  have q4_7 := K4.out.q 7 (.slice none 0 0) rfl
  have f4_7 := K4.out.f 7
  have st4a := K4.out.ss 7 (.slice A2 n2 c2)
  have F1_4a := Lib.hid (F1_4.out.stay st4a (by decide) (fun a x hx => PrmV.stay st4a a x hx))
  have F2_4a := Lib.hid (F2_4.out.stay st4a (by decide) (fun a x hx => ItmV.stay st4a (by decide) (by decide) a x hx))
  clear st4a
  have K4a := Lib.hid (K4.out.set 7 (.slice A2 n2 c2) #[.bool true, .string (str n), .slice A1 n1 c1, .string ⟨#[]⟩, .int .i64 0, .slice none 0 0, .slice none 0 0, .slice A2 n2 c2] rfl)
  have q4_0 := K4.out.q 0 (.bool true) rfl
  have p0 := K4.out.qx 0 (.bool false) rfl
  have r0 := K4.out.fx 0
  have q4_1 := K4.out.q 1 (.string (str n)) rfl
  have p1 := K4.out.qx 1 (.string ⟨#[]⟩) rfl
  have r1 := K4.out.fx 1
  have q4_2 := K4.out.q 2 (.slice A1 n1 c1) rfl
  have p2 := K4.out.qx 2 (.slice none 0 0) rfl
  have r2 := K4.out.fx 2
  have q4_3 := K4.out.q 3 (.string ⟨#[]⟩) rfl
  have p3 := K4.out.qx 3 (.string ⟨#[]⟩) rfl
  have r3 := K4.out.fx 3
  have q4_4 := K4.out.q 4 (.int .i64 0) rfl
  have p4 := K4.out.qx 4 (.int .i64 0) rfl
  have r4 := K4.out.fx 4
  have q4_5 := K4.out.q 5 (.slice none 0 0) rfl
  have p5 := K4.out.qx 5 (.slice none 0 0) rfl
  have r5 := K4.out.fx 5
  have q4_6 := K4.out.q 6 (.slice none 0 0) rfl
  have p6 := K4.out.qx 6 (.slice none 0 0) rfl
  have r6 := K4.out.fx 6
  have p7 := K4.out.qx 7 (.slice none 0 0) rfl
  have r7 := K4.out.fx 7
  go_wp2
  generalize hW : World.setCell _ ⟨w.heap.size, 7, none⟩ _ = W6
  obtain ⟨hp, hst, z0, z1, z2, z3, z4, z5, z6, z7⟩ := K4a.out.fin8 hW
  clear p0 r0 p1 r1 p2 r2 p3 r3 p4 r4 p5 r5 p6 r6 p7 r7 q4_7 f4_7 q4_0 q4_1 q4_2 q4_3 q4_4 q4_5 q4_6 hW
  exact bodyPost_ret (v := .agg #[.bool true, .string (str n), .slice A1 n1 c1, .string ⟨#[]⟩, .int .i64 0, .slice none 0 0, .slice none 0 0, .slice A2 n2 c2]) (by simp [results, Tryz.results37, go_sem, z0, z1, z2, z3, z4, z5, z6, z7]) rfl ⟨_, _, _, _, rfl, F1_4a.out.stay hst (by decide) (fun a x hx => PrmV.stay hst a x hx), RowR.nil _ _ _ _, RowR.nil _ _ _ _, F2_4a.out.stay hst (by decide) (fun a x hx => ItmV.stay hst (by decide) (by decide) a x hx), hp⟩
set_option maxRecDepth 100000 in
set_option maxHeartbeats 8000000 in
theorem unit_0 {b : Nat} {L : List Lx.Tok} {lv : Value} {i : Nat} {w : World} {n : Bytes} {ps : List Prm} {o : Prm} {es : List Eqn} {j k m z : Nat} (hr : Ry w b L lv i) (t1 : isAt L i wContract = false) (t2 : isAt L i wNode = true) (h1 : nameL L (i + 1) = some (n, j)) (h2 : inputsL L j = some (ps, k)) (h3 : isAt L k [114, 101, 116, 117, 114, 110, 115] = true) (h4 : isAt L (k + 1) [40] = true) (h5 : paramL L (k + 2) = some (o, m)) (h6 : isAt L m [41] = true) (t3 : isAt L (m + 1) wContract = false) (t4 : isAt L (m + 1) [118, 97, 114] = false) (h8 : isAt L (m + 1) [108, 101, 116] = true) (h9 : eqsF L 201 [] (m + 2) = some (es, z)) : Calls Tryz.prog 37 #[.pointer (some ⟨b, 0, none⟩)] w (UntP w b L lv (z) ⟨false, n, ps, o, [], es, []⟩) := by
  have HR := Lib.hid hr
  have hlt := hr.lt
  have T1 := Lib.hid t1
  have T2 := Lib.hid t2
  have H1 := Lib.hid h1
  have H2 := Lib.hid h2
  have H3 := Lib.hid h3
  have H4 := Lib.hid h4
  have H5 := Lib.hid h5
  have H6 := Lib.hid h6
  have T3 := Lib.hid t3
  have T4 := Lib.hid t4
  have H8 := Lib.hid h8
  have H9 := Lib.hid h9
  clear t1 t2 h1 h2 h3 h4 h5 h6 t3 t4 h8 h9 hr
  have K0 := Lib.hid (Bk.two (T := 49) HR.out #[.bool false, .string ⟨#[]⟩, .slice none 0 0, .string ⟨#[]⟩, .int .i64 0, .slice none 0 0, .slice none 0 0, .slice none 0 0])
  have hne : w.heap.size ≠ w.heap.size + 1 := by omega
  go_enter Tryz.func37, Tryz.ntmps37
  go_wp2_with fail
  refine (take_ok (s := wContract) rfl T1.out K0.out.rd).mono ?_
  rintro e w1 ⟨rfl, g1⟩
  have K1 := Lib.hid (K0.out.go g1)
  have st1 := K0.out.st g1
  have l1 := K1.out.lts
  clear g1 st1 
  go_wp2_with fail
  refine (need_ok (s := wNode) rfl T2.out K1.out.rd).mono ?_
  rintro e w2 ⟨rfl, g2⟩
  have K2 := Lib.hid (K1.out.go g2)
  have st2 := K1.out.st g2
  have l2 := K2.out.lts
  clear g2 st2 
  go_wp2_with fail
  refine (name_ok K2.out.rd H1.out).mono ?_
  rintro e w3 ⟨rfl, g3⟩
  have K3 := Lib.hid (K2.out.go g3)
  have st3 := K2.out.st g3
  have l3 := K3.out.lts
  clear g3 st3 
  have q3_1 := K3.out.q 1 (.string ⟨#[]⟩) rfl
  have f3_1 := K3.out.f 1
  have K3a := Lib.hid (K3.out.set 1 (.string (str n)) #[.bool false, .string (str n), .slice none 0 0, .string ⟨#[]⟩, .int .i64 0, .slice none 0 0, .slice none 0 0, .slice none 0 0] rfl)
  go_wp2_with fail
  refine (inputs_ok K3a.out.rd H2.out).mono ?_
  rintro e w4 ⟨rv, rfl, hl4, g4⟩
  have K4 := Lib.hid (K3a.out.go g4)
  have st4 := K3a.out.st g4
  have l4 := K4.out.lts
  obtain ⟨A1, n1, c1, rfl⟩ := row_form hl4
  have F1_4 := Lib.hid hl4
  clear g4 st4 hl4 q3_1 f3_1
  have q4_2 := K4.out.q 2 (.slice none 0 0) rfl
  have f4_2 := K4.out.f 2
  have st4a := K4.out.ss 2 (.slice A1 n1 c1)
  have F1_4a := Lib.hid (F1_4.out.stay st4a (by decide) (fun a x hx => PrmV.stay st4a a x hx))
  clear st4a
  have K4a := Lib.hid (K4.out.set 2 (.slice A1 n1 c1) #[.bool false, .string (str n), .slice A1 n1 c1, .string ⟨#[]⟩, .int .i64 0, .slice none 0 0, .slice none 0 0, .slice none 0 0] rfl)
  go_wp2_with fail
  refine (need_ok (s := [114, 101, 116, 117, 114, 110, 115]) rfl H3.out K4a.out.rd).mono ?_
  rintro e w5 ⟨rfl, g5⟩
  have K5 := Lib.hid (K4a.out.go g5)
  have st5 := K4a.out.st g5
  have l5 := K5.out.lts
  have F1_5 := Lib.hid (F1_4a.out.stay st5 (by decide) (fun a x hx => PrmV.stay st5 a x hx))
  clear g5 st5  q4_2 f4_2
  go_wp2_with fail
  refine (need_ok (s := [40]) rfl H4.out K5.out.rd).mono ?_
  rintro e w6 ⟨rfl, g6⟩
  have K6 := Lib.hid (K5.out.go g6)
  have st6 := K5.out.st g6
  have l6 := K6.out.lts
  have F1_6 := Lib.hid (F1_5.out.stay st6 (by decide) (fun a x hx => PrmV.stay st6 a x hx))
  clear g6 st6 
  go_wp2_with fail
  refine (param_ok K6.out.rd H5.out).mono ?_
  rintro e w7 ⟨rfl, g7⟩
  have K7 := Lib.hid (K6.out.go g7)
  have st7 := K6.out.st g7
  have l7 := K7.out.lts
  have F1_7 := Lib.hid (F1_6.out.stay st7 (by decide) (fun a x hx => PrmV.stay st7 a x hx))
  clear g7 st7 
  have q7_3 := K7.out.q 3 (.string ⟨#[]⟩) rfl
  have f7_3 := K7.out.f 3
  have q7_4 := K7.out.q 4 (.int .i64 0) rfl
  have f7_4 := K7.out.f 4
  have st7a := K7.out.ss 3 (.string (str o.name))
  have F1_7a := Lib.hid (F1_7.out.stay st7a (by decide) (fun a x hx => PrmV.stay st7a a x hx))
  clear st7a
  have K7a := Lib.hid (K7.out.set 3 (.string (str o.name)) #[.bool false, .string (str n), .slice A1 n1 c1, .string (str o.name), .int .i64 0, .slice none 0 0, .slice none 0 0, .slice none 0 0] rfl)
  have st7b := K7a.out.ss 4 (.int .i64 o.ty)
  have F1_7b := Lib.hid (F1_7a.out.stay st7b (by decide) (fun a x hx => PrmV.stay st7b a x hx))
  clear st7b
  have K7b := Lib.hid (K7a.out.set 4 (.int .i64 o.ty) #[.bool false, .string (str n), .slice A1 n1 c1, .string (str o.name), .int .i64 o.ty, .slice none 0 0, .slice none 0 0, .slice none 0 0] rfl)
  go_wp2_with fail
  refine (need_ok (s := [41]) rfl H6.out K7b.out.rd).mono ?_
  rintro e w8 ⟨rfl, g8⟩
  have K8 := Lib.hid (K7b.out.go g8)
  have st8 := K7b.out.st g8
  have l8 := K8.out.lts
  have F1_8 := Lib.hid (F1_7b.out.stay st8 (by decide) (fun a x hx => PrmV.stay st8 a x hx))
  clear g8 st8  q7_3 f7_3 q7_4 f7_4
  go_wp2_with fail
  refine (take_ok (s := wContract) rfl T3.out K8.out.rd).mono ?_
  rintro e w9 ⟨rfl, g9⟩
  have K9 := Lib.hid (K8.out.go g9)
  have st9 := K8.out.st g9
  have l9 := K9.out.lts
  have F1_9 := Lib.hid (F1_8.out.stay st9 (by decide) (fun a x hx => PrmV.stay st9 a x hx))
  clear g9 st9 
  go_wp2_with fail
  refine (take_ok (s := [118, 97, 114]) rfl T4.out K9.out.rd).mono ?_
  rintro e w10 ⟨rfl, g10⟩
  have K10 := Lib.hid (K9.out.go g10)
  have st10 := K9.out.st g10
  have l10 := K10.out.lts
  have F1_10 := Lib.hid (F1_9.out.stay st10 (by decide) (fun a x hx => PrmV.stay st10 a x hx))
  clear g10 st10 
  go_wp2_with fail
  refine (need_ok (s := [108, 101, 116]) rfl H8.out K10.out.rd).mono ?_
  rintro e w11 ⟨rfl, g11⟩
  have K11 := Lib.hid (K10.out.go g11)
  have st11 := K10.out.st g11
  have l11 := K11.out.lts
  have F1_11 := Lib.hid (F1_10.out.stay st11 (by decide) (fun a x hx => PrmV.stay st11 a x hx))
  clear g11 st11 
  go_wp2_with fail
  refine (equations_ok K11.out.rd H9.out).mono ?_
  rintro e w12 ⟨rv, rfl, hl12, g12⟩
  have K12 := Lib.hid (K11.out.go g12)
  have st12 := K11.out.st g12
  have l12 := K12.out.lts
  have F1_12 := Lib.hid (F1_11.out.stay st12 (by decide) (fun a x hx => PrmV.stay st12 a x hx))
  obtain ⟨A3, n3, c3, rfl⟩ := row_form hl12
  have F3_12 := Lib.hid hl12
  clear g12 st12 hl12
  have q12_6 := K12.out.q 6 (.slice none 0 0) rfl
  have f12_6 := K12.out.f 6
  have st12a := K12.out.ss 6 (.slice A3 n3 c3)
  have F1_12a := Lib.hid (F1_12.out.stay st12a (by decide) (fun a x hx => PrmV.stay st12a a x hx))
  have F3_12a := Lib.hid (F3_12.out.stay st12a (by decide) (fun a x hx => EqnV.stay st12a (by decide) a x hx))
  clear st12a
  have K12a := Lib.hid (K12.out.set 6 (.slice A3 n3 c3) #[.bool false, .string (str n), .slice A1 n1 c1, .string (str o.name), .int .i64 o.ty, .slice none 0 0, .slice A3 n3 c3, .slice none 0 0] rfl)
  have q12_0 := K12.out.q 0 (.bool false) rfl
  have p0 := K12.out.qx 0 (.bool false) rfl
  have r0 := K12.out.fx 0
  have q12_1 := K12.out.q 1 (.string (str n)) rfl
  have p1 := K12.out.qx 1 (.string ⟨#[]⟩) rfl
  have r1 := K12.out.fx 1
  have q12_2 := K12.out.q 2 (.slice A1 n1 c1) rfl
  have p2 := K12.out.qx 2 (.slice none 0 0) rfl
  have r2 := K12.out.fx 2
  have q12_3 := K12.out.q 3 (.string (str o.name)) rfl
  have p3 := K12.out.qx 3 (.string ⟨#[]⟩) rfl
  have r3 := K12.out.fx 3
  have q12_4 := K12.out.q 4 (.int .i64 o.ty) rfl
  have p4 := K12.out.qx 4 (.int .i64 0) rfl
  have r4 := K12.out.fx 4
  have q12_5 := K12.out.q 5 (.slice none 0 0) rfl
  have p5 := K12.out.qx 5 (.slice none 0 0) rfl
  have r5 := K12.out.fx 5
  have p6 := K12.out.qx 6 (.slice none 0 0) rfl
  have r6 := K12.out.fx 6
  have q12_7 := K12.out.q 7 (.slice none 0 0) rfl
  have p7 := K12.out.qx 7 (.slice none 0 0) rfl
  have r7 := K12.out.fx 7
  go_wp2
  generalize hW : World.setCell _ ⟨w.heap.size, 7, none⟩ _ = W6
  obtain ⟨hp, hst, z0, z1, z2, z3, z4, z5, z6, z7⟩ := K12a.out.fin8 hW
  clear p0 r0 p1 r1 p2 r2 p3 r3 p4 r4 p5 r5 p6 r6 p7 r7 q12_6 f12_6 q12_0 q12_1 q12_2 q12_3 q12_4 q12_5 q12_7 hW
  exact bodyPost_ret (v := .agg #[.bool false, .string (str n), .slice A1 n1 c1, .string (str o.name), .int .i64 o.ty, .slice none 0 0, .slice A3 n3 c3, .slice none 0 0]) (by simp [results, Tryz.results37, go_sem, z0, z1, z2, z3, z4, z5, z6, z7]) rfl ⟨_, _, _, _, rfl, F1_12a.out.stay hst (by decide) (fun a x hx => PrmV.stay hst a x hx), RowR.nil _ _ _ _, F3_12a.out.stay hst (by decide) (fun a x hx => EqnV.stay hst (by decide) a x hx), RowR.nil _ _ _ _, hp⟩
set_option maxRecDepth 100000 in
set_option maxHeartbeats 8000000 in
theorem unit_1 {b : Nat} {L : List Lx.Tok} {lv : Value} {i : Nat} {w : World} {n : Bytes} {ps : List Prm} {o : Prm} {es : List Eqn} {j k m z : Nat} {xs : List Itm} {q : Nat} (hr : Ry w b L lv i) (t1 : isAt L i wContract = false) (t2 : isAt L i wNode = true) (h1 : nameL L (i + 1) = some (n, j)) (h2 : inputsL L j = some (ps, k)) (h3 : isAt L k [114, 101, 116, 117, 114, 110, 115] = true) (h4 : isAt L (k + 1) [40] = true) (h5 : paramL L (k + 2) = some (o, m)) (h6 : isAt L m [41] = true) (t3 : isAt L (m + 1) wContract = true) (h7 : itemsF L 201 [] (m + 2) = some (xs, q)) (t4 : isAt L q [118, 97, 114] = false) (h8 : isAt L q [108, 101, 116] = true) (h9 : eqsF L 201 [] (q + 1) = some (es, z)) : Calls Tryz.prog 37 #[.pointer (some ⟨b, 0, none⟩)] w (UntP w b L lv (z) ⟨false, n, ps, o, [], es, xs⟩) := by
  have HR := Lib.hid hr
  have hlt := hr.lt
  have T1 := Lib.hid t1
  have T2 := Lib.hid t2
  have H1 := Lib.hid h1
  have H2 := Lib.hid h2
  have H3 := Lib.hid h3
  have H4 := Lib.hid h4
  have H5 := Lib.hid h5
  have H6 := Lib.hid h6
  have T3 := Lib.hid t3
  have H7 := Lib.hid h7
  have T4 := Lib.hid t4
  have H8 := Lib.hid h8
  have H9 := Lib.hid h9
  clear t1 t2 h1 h2 h3 h4 h5 h6 t3 h7 t4 h8 h9 hr
  have K0 := Lib.hid (Bk.two (T := 49) HR.out #[.bool false, .string ⟨#[]⟩, .slice none 0 0, .string ⟨#[]⟩, .int .i64 0, .slice none 0 0, .slice none 0 0, .slice none 0 0])
  have hne : w.heap.size ≠ w.heap.size + 1 := by omega
  go_enter Tryz.func37, Tryz.ntmps37
  go_wp2_with fail
  refine (take_ok (s := wContract) rfl T1.out K0.out.rd).mono ?_
  rintro e w1 ⟨rfl, g1⟩
  have K1 := Lib.hid (K0.out.go g1)
  have st1 := K0.out.st g1
  have l1 := K1.out.lts
  clear g1 st1 
  go_wp2_with fail
  refine (need_ok (s := wNode) rfl T2.out K1.out.rd).mono ?_
  rintro e w2 ⟨rfl, g2⟩
  have K2 := Lib.hid (K1.out.go g2)
  have st2 := K1.out.st g2
  have l2 := K2.out.lts
  clear g2 st2 
  go_wp2_with fail
  refine (name_ok K2.out.rd H1.out).mono ?_
  rintro e w3 ⟨rfl, g3⟩
  have K3 := Lib.hid (K2.out.go g3)
  have st3 := K2.out.st g3
  have l3 := K3.out.lts
  clear g3 st3 
  have q3_1 := K3.out.q 1 (.string ⟨#[]⟩) rfl
  have f3_1 := K3.out.f 1
  have K3a := Lib.hid (K3.out.set 1 (.string (str n)) #[.bool false, .string (str n), .slice none 0 0, .string ⟨#[]⟩, .int .i64 0, .slice none 0 0, .slice none 0 0, .slice none 0 0] rfl)
  go_wp2_with fail
  refine (inputs_ok K3a.out.rd H2.out).mono ?_
  rintro e w4 ⟨rv, rfl, hl4, g4⟩
  have K4 := Lib.hid (K3a.out.go g4)
  have st4 := K3a.out.st g4
  have l4 := K4.out.lts
  obtain ⟨A1, n1, c1, rfl⟩ := row_form hl4
  have F1_4 := Lib.hid hl4
  clear g4 st4 hl4 q3_1 f3_1
  have q4_2 := K4.out.q 2 (.slice none 0 0) rfl
  have f4_2 := K4.out.f 2
  have st4a := K4.out.ss 2 (.slice A1 n1 c1)
  have F1_4a := Lib.hid (F1_4.out.stay st4a (by decide) (fun a x hx => PrmV.stay st4a a x hx))
  clear st4a
  have K4a := Lib.hid (K4.out.set 2 (.slice A1 n1 c1) #[.bool false, .string (str n), .slice A1 n1 c1, .string ⟨#[]⟩, .int .i64 0, .slice none 0 0, .slice none 0 0, .slice none 0 0] rfl)
  go_wp2_with fail
  refine (need_ok (s := [114, 101, 116, 117, 114, 110, 115]) rfl H3.out K4a.out.rd).mono ?_
  rintro e w5 ⟨rfl, g5⟩
  have K5 := Lib.hid (K4a.out.go g5)
  have st5 := K4a.out.st g5
  have l5 := K5.out.lts
  have F1_5 := Lib.hid (F1_4a.out.stay st5 (by decide) (fun a x hx => PrmV.stay st5 a x hx))
  clear g5 st5  q4_2 f4_2
  go_wp2_with fail
  refine (need_ok (s := [40]) rfl H4.out K5.out.rd).mono ?_
  rintro e w6 ⟨rfl, g6⟩
  have K6 := Lib.hid (K5.out.go g6)
  have st6 := K5.out.st g6
  have l6 := K6.out.lts
  have F1_6 := Lib.hid (F1_5.out.stay st6 (by decide) (fun a x hx => PrmV.stay st6 a x hx))
  clear g6 st6 
  go_wp2_with fail
  refine (param_ok K6.out.rd H5.out).mono ?_
  rintro e w7 ⟨rfl, g7⟩
  have K7 := Lib.hid (K6.out.go g7)
  have st7 := K6.out.st g7
  have l7 := K7.out.lts
  have F1_7 := Lib.hid (F1_6.out.stay st7 (by decide) (fun a x hx => PrmV.stay st7 a x hx))
  clear g7 st7 
  have q7_3 := K7.out.q 3 (.string ⟨#[]⟩) rfl
  have f7_3 := K7.out.f 3
  have q7_4 := K7.out.q 4 (.int .i64 0) rfl
  have f7_4 := K7.out.f 4
  have st7a := K7.out.ss 3 (.string (str o.name))
  have F1_7a := Lib.hid (F1_7.out.stay st7a (by decide) (fun a x hx => PrmV.stay st7a a x hx))
  clear st7a
  have K7a := Lib.hid (K7.out.set 3 (.string (str o.name)) #[.bool false, .string (str n), .slice A1 n1 c1, .string (str o.name), .int .i64 0, .slice none 0 0, .slice none 0 0, .slice none 0 0] rfl)
  have st7b := K7a.out.ss 4 (.int .i64 o.ty)
  have F1_7b := Lib.hid (F1_7a.out.stay st7b (by decide) (fun a x hx => PrmV.stay st7b a x hx))
  clear st7b
  have K7b := Lib.hid (K7a.out.set 4 (.int .i64 o.ty) #[.bool false, .string (str n), .slice A1 n1 c1, .string (str o.name), .int .i64 o.ty, .slice none 0 0, .slice none 0 0, .slice none 0 0] rfl)
  go_wp2_with fail
  refine (need_ok (s := [41]) rfl H6.out K7b.out.rd).mono ?_
  rintro e w8 ⟨rfl, g8⟩
  have K8 := Lib.hid (K7b.out.go g8)
  have st8 := K7b.out.st g8
  have l8 := K8.out.lts
  have F1_8 := Lib.hid (F1_7b.out.stay st8 (by decide) (fun a x hx => PrmV.stay st8 a x hx))
  clear g8 st8  q7_3 f7_3 q7_4 f7_4
  go_wp2_with fail
  refine (take_ok (s := wContract) rfl T3.out K8.out.rd).mono ?_
  rintro e w9 ⟨rfl, g9⟩
  have K9 := Lib.hid (K8.out.go g9)
  have st9 := K8.out.st g9
  have l9 := K9.out.lts
  have F1_9 := Lib.hid (F1_8.out.stay st9 (by decide) (fun a x hx => PrmV.stay st9 a x hx))
  clear g9 st9 
  go_wp2_with fail
  refine (items_ok K9.out.rd H7.out).mono ?_
  rintro e w10 ⟨rv, rfl, hl10, g10⟩
  have K10 := Lib.hid (K9.out.go g10)
  have st10 := K9.out.st g10
  have l10 := K10.out.lts
  have F1_10 := Lib.hid (F1_9.out.stay st10 (by decide) (fun a x hx => PrmV.stay st10 a x hx))
  obtain ⟨A2, n2, c2, rfl⟩ := row_form hl10
  have F2_10 := Lib.hid hl10
  clear g10 st10 hl10
  have q10_7 := K10.out.q 7 (.slice none 0 0) rfl
  have f10_7 := K10.out.f 7
  have st10a := K10.out.ss 7 (.slice A2 n2 c2)
  have F1_10a := Lib.hid (F1_10.out.stay st10a (by decide) (fun a x hx => PrmV.stay st10a a x hx))
  have F2_10a := Lib.hid (F2_10.out.stay st10a (by decide) (fun a x hx => ItmV.stay st10a (by decide) (by decide) a x hx))
  clear st10a
  have K10a := Lib.hid (K10.out.set 7 (.slice A2 n2 c2) #[.bool false, .string (str n), .slice A1 n1 c1, .string (str o.name), .int .i64 o.ty, .slice none 0 0, .slice none 0 0, .slice A2 n2 c2] rfl)
  go_wp2_with fail
  refine (take_ok (s := [118, 97, 114]) rfl T4.out K10a.out.rd).mono ?_
  rintro e w11 ⟨rfl, g11⟩
  have K11 := Lib.hid (K10a.out.go g11)
  have st11 := K10a.out.st g11
  have l11 := K11.out.lts
  have F1_11 := Lib.hid (F1_10a.out.stay st11 (by decide) (fun a x hx => PrmV.stay st11 a x hx))
  have F2_11 := Lib.hid (F2_10a.out.stay st11 (by decide) (fun a x hx => ItmV.stay st11 (by decide) (by decide) a x hx))
  clear g11 st11  q10_7 f10_7
  go_wp2_with fail
  refine (need_ok (s := [108, 101, 116]) rfl H8.out K11.out.rd).mono ?_
  rintro e w12 ⟨rfl, g12⟩
  have K12 := Lib.hid (K11.out.go g12)
  have st12 := K11.out.st g12
  have l12 := K12.out.lts
  have F1_12 := Lib.hid (F1_11.out.stay st12 (by decide) (fun a x hx => PrmV.stay st12 a x hx))
  have F2_12 := Lib.hid (F2_11.out.stay st12 (by decide) (fun a x hx => ItmV.stay st12 (by decide) (by decide) a x hx))
  clear g12 st12 
  go_wp2_with fail
  refine (equations_ok K12.out.rd H9.out).mono ?_
  rintro e w13 ⟨rv, rfl, hl13, g13⟩
  have K13 := Lib.hid (K12.out.go g13)
  have st13 := K12.out.st g13
  have l13 := K13.out.lts
  have F1_13 := Lib.hid (F1_12.out.stay st13 (by decide) (fun a x hx => PrmV.stay st13 a x hx))
  have F2_13 := Lib.hid (F2_12.out.stay st13 (by decide) (fun a x hx => ItmV.stay st13 (by decide) (by decide) a x hx))
  obtain ⟨A3, n3, c3, rfl⟩ := row_form hl13
  have F3_13 := Lib.hid hl13
  clear g13 st13 hl13
  have q13_6 := K13.out.q 6 (.slice none 0 0) rfl
  have f13_6 := K13.out.f 6
  have st13a := K13.out.ss 6 (.slice A3 n3 c3)
  have F1_13a := Lib.hid (F1_13.out.stay st13a (by decide) (fun a x hx => PrmV.stay st13a a x hx))
  have F2_13a := Lib.hid (F2_13.out.stay st13a (by decide) (fun a x hx => ItmV.stay st13a (by decide) (by decide) a x hx))
  have F3_13a := Lib.hid (F3_13.out.stay st13a (by decide) (fun a x hx => EqnV.stay st13a (by decide) a x hx))
  clear st13a
  have K13a := Lib.hid (K13.out.set 6 (.slice A3 n3 c3) #[.bool false, .string (str n), .slice A1 n1 c1, .string (str o.name), .int .i64 o.ty, .slice none 0 0, .slice A3 n3 c3, .slice A2 n2 c2] rfl)
  have q13_0 := K13.out.q 0 (.bool false) rfl
  have p0 := K13.out.qx 0 (.bool false) rfl
  have r0 := K13.out.fx 0
  have q13_1 := K13.out.q 1 (.string (str n)) rfl
  have p1 := K13.out.qx 1 (.string ⟨#[]⟩) rfl
  have r1 := K13.out.fx 1
  have q13_2 := K13.out.q 2 (.slice A1 n1 c1) rfl
  have p2 := K13.out.qx 2 (.slice none 0 0) rfl
  have r2 := K13.out.fx 2
  have q13_3 := K13.out.q 3 (.string (str o.name)) rfl
  have p3 := K13.out.qx 3 (.string ⟨#[]⟩) rfl
  have r3 := K13.out.fx 3
  have q13_4 := K13.out.q 4 (.int .i64 o.ty) rfl
  have p4 := K13.out.qx 4 (.int .i64 0) rfl
  have r4 := K13.out.fx 4
  have q13_5 := K13.out.q 5 (.slice none 0 0) rfl
  have p5 := K13.out.qx 5 (.slice none 0 0) rfl
  have r5 := K13.out.fx 5
  have p6 := K13.out.qx 6 (.slice none 0 0) rfl
  have r6 := K13.out.fx 6
  have q13_7 := K13.out.q 7 (.slice A2 n2 c2) rfl
  have p7 := K13.out.qx 7 (.slice none 0 0) rfl
  have r7 := K13.out.fx 7
  go_wp2
  generalize hW : World.setCell _ ⟨w.heap.size, 7, none⟩ _ = W6
  obtain ⟨hp, hst, z0, z1, z2, z3, z4, z5, z6, z7⟩ := K13a.out.fin8 hW
  clear p0 r0 p1 r1 p2 r2 p3 r3 p4 r4 p5 r5 p6 r6 p7 r7 q13_6 f13_6 q13_0 q13_1 q13_2 q13_3 q13_4 q13_5 q13_7 hW
  exact bodyPost_ret (v := .agg #[.bool false, .string (str n), .slice A1 n1 c1, .string (str o.name), .int .i64 o.ty, .slice none 0 0, .slice A3 n3 c3, .slice A2 n2 c2]) (by simp [results, Tryz.results37, go_sem, z0, z1, z2, z3, z4, z5, z6, z7]) rfl ⟨_, _, _, _, rfl, F1_13a.out.stay hst (by decide) (fun a x hx => PrmV.stay hst a x hx), RowR.nil _ _ _ _, F3_13a.out.stay hst (by decide) (fun a x hx => EqnV.stay hst (by decide) a x hx), F2_13a.out.stay hst (by decide) (fun a x hx => ItmV.stay hst (by decide) (by decide) a x hx), hp⟩
theorem unit_ok {b : Nat} {L : List Lx.Tok} {lv : Value} {i j : Nat} {x : Unt} {w : World} (hr : Ry w b L lv i) (h : unitL L i = some (x, j)) : Calls Tryz.prog 37 #[.pointer (some ⟨b, 0, none⟩)] w (UntP w b L lv j x) := by
  unfold unitL at h
  cases t1 : isAt L i wContract with
  | true =>
    rw [t1, if_pos rfl] at h
    obtain ⟨n, j1, h1, h⟩ := bd_some h
    obtain ⟨ps, k1, h2, h⟩ := bd_some h
    obtain ⟨xs, m1, h3, h⟩ := bd_some h
    cases h
    exact unit_contract hr t1 h1 h2 h3
  | false =>
  rw [t1, if_neg (by decide)] at h
  obtain ⟨t2, h⟩ := nd_some h
  obtain ⟨n, j1, h1, h⟩ := bd_some h
  obtain ⟨ps, k1, h2, h⟩ := bd_some h
  obtain ⟨h3, h⟩ := nd_some h
  obtain ⟨h4, h⟩ := nd_some h
  obtain ⟨o, m1, h5, h⟩ := bd_some h
  obtain ⟨h6, h⟩ := nd_some h
  cases t3 : isAt L (m1 + 1) wContract with
  | true =>
    rw [t3, if_pos rfl] at h
    obtain ⟨xs, q1, h7, h⟩ := bd_some h
    cases t4 : isAt L q1 [118, 97, 114] with
    | true => rw [t4, if_pos rfl] at h; cases h
    | false =>
    rw [t4, if_neg (by decide)] at h
    obtain ⟨h8, h⟩ := nd_some h
    obtain ⟨es, z1, h9, h⟩ := bd_some h
    cases h
    exact unit_1 hr t1 t2 h1 h2 h3 h4 h5 h6 t3 h7 t4 h8 h9
  | false =>
    rw [t3, if_neg (by decide)] at h
    cases t4 : isAt L (m1 + 1) [118, 97, 114] with
    | true => rw [t4, if_pos rfl] at h; cases h
    | false =>
    rw [t4, if_neg (by decide)] at h
    obtain ⟨h8, h⟩ := nd_some h
    obtain ⟨es, z1, h9, h⟩ := bd_some h
    cases h
    exact unit_0 hr t1 t2 h1 h2 h3 h4 h5 h6 t3 t4 h8 h9
end Go.Proofs.YtobkcdkffcenbaaGreatDoor.Lp

