/- A lean reader of programs: an expression; rows of streams, of expressions. Conditions: as each says. -/
import Derived.Test.YtobkcdkffcenbaaGreatDoorSa11
import Derived.Maps.AppendAt
set_option linter.unusedVariables false
set_option linter.unusedSimpArgs false
namespace Go.Proofs.YtobkcdkffcenbaaGreatDoor.Lp
open Go.ChangeShapes Go.WideShapes Go.ChangeAt Go.RowKit Go.Maps Go.WideMaps
open Go.Proofs.YtobkcdkffcenbaaGreatDoor.Tr (str ret_bool ret_int Bytes Nd Nodes)
open Go.Proofs.YtobkcdkffcenbaaGreatDoor.Lr (isAt run TkAt Mv NdW blk_lt isAt_lt mv_set)
open Go.Proofs.YtobkcdkffcenbaaGreatDoor.Pg (Prm Eqn Itm Unt Stay RowR OList PrmV EqnV ExpV ItmV UntV)
open Go.Proofs.YtobkcdkffcenbaaGreatDoor.Ex (PtW)
theorem NdW.pt {w : World} {v : Value} {x : List Nd} (h : NdW w v x) : PtW w (v, ⟨x, 0, 0⟩) := pt_of h
theorem pt_form {w : World} {v : Value} {x : List Nd} (h : PtW w (v, ⟨x, 0, 0⟩)) : ∃ A c, v = .slice A x.length c ∧ c ≤ 9223372036854775807 ∧ x.length ≤ c := by
  obtain ⟨⟨A, c, e, h1, h2, -⟩, -⟩ := h
  simp only at e h1
  unfold maxLen at h2
  exact ⟨A, c, e, by omega, h1⟩
theorem pt_mv {w w' : World} {b : Nat} {L : List Lx.Tok} {lv : Value} {i j : Nat} {v : Value} {x : List Nd} (h : PtW w (v, ⟨x, 0, 0⟩)) (hr : Ry w b L lv i) (k : P w w' b L lv j) : PtW w' (v, ⟨x, 0, 0⟩) := (P.stay hr k).pt (by decide) h
def ExpP (w : World) (b : Nat) (L : List Lx.Tok) (lv : Value) (j : Nat) (x : List Nd) (e : Ending) (w' : World) : Prop := ∃ v, e = .returned v ∧ PtW w' (v, ⟨x, 0, 0⟩) ∧ P w w' b L lv j
set_option maxRecDepth 100000 in
set_option maxHeartbeats 4000000 in
theorem expr_ok {b : Nat} {L : List Lx.Tok} {lv : Value} {i j : Nat} {x : List Nd} {w : World} (hr : Ry w b L lv i) (h : exprL L i = some (x, j)) (hj : j ≤ L.length) : Calls Tryz.prog 84 #[.pointer (some ⟨b, 0, none⟩)] w (ExpP w b L lv j x) := by
  obtain ⟨h1, h2, h3⟩ := expr_is h
  have HR := Lib.hid hr
  have hlt := hr.lt
  have HOK := Lib.hid (ok_ok hr)
  obtain ⟨c0, c1, -, -, -⟩ := hr.cells
  have hlen := hr.len
  have HC : Hid (∀ w', Below w.heap.size w w' → Calls Tryz.prog 52 #[lv, .int .i64 (i : Int)] w' (fun e w'' => ∃ v, e = .returned (.tuple #[v, .int .i64 (j : Int), .agg #[.int .i64 0, .int .i64 0]]) ∧ NdW w'' v x ∧ Below w'.heap.size w' w'')) := Lib.hid (fun w' hb =>
    Lr.parse_ok L lv 200 i j x w' hr.len hr.ile ((hr.below hb).tok.up (by have := hb.size; omega)) h1 h2 h3)
  obtain ⟨A0, cc, rfl, z1, z2, -⟩ := hr.tok
  unfold maxLen at z2
  have HW0 : Hid (Below w.heap.size w w.drew) := Lib.hid (Tr.below_drewN (n := 1) (Below.refl w.heap.size w))
  have HW1 : Hid (Below w.heap.size w (w.alloc (.cells #[.int .i64 0, .int .i64 0] 29)).drew) := Lib.hid ((below_al w _).drew)
  have HJ := Lib.hid hj
  clear h h1 h2 h3 hr hj
  go_enter Tryz.func84, Tryz.ntmps84
  go_wp2_with fail
  refine HOK.out.mono ?_
  rintro e wz ⟨rfl, hwz⟩
  subst hwz
  go_wp2
  go_region_with ((first | (go_at_call 52; (with_reducible refine (HC.out (wz.alloc (.cells #[.int .i64 0, .int .i64 0] 29)).drew HW1.out).mono ?_); rintro e w1 ⟨ev, rfl, hpt, hb1⟩; have HP := Lib.hid hpt; have X3 : Hid (w1.heap[wz.heap.size]? = some (.cells #[.int .i64 0, .int .i64 0] 29 (0, 0))) := Lib.hid ((hb1.block wz.heap.size (by show _ < (wz.alloc _).heap.size; simp)).trans (heap_alloc_new wz _)); have HB1 := Lib.hid (HW1.out.trans (hb1.mono (by show wz.heap.size ≤ (wz.alloc _).heap.size; simp))); have p0 : w1.cell? ⟨wz.heap.size, 0, none⟩ = some (.int .i64 0) := (cell_at X3.out 0).trans rfl; have p1 : w1.cell? ⟨wz.heap.size, 1, none⟩ = some (.int .i64 0) := (cell_at X3.out 1).trans rfl; have g0 : w1.frozen? ⟨wz.heap.size, 0, none⟩ = false := free_at X3.out 0; have g1 : w1.frozen? ⟨wz.heap.size, 1, none⟩ = false := free_at X3.out 1; clear hpt hb1) | (go_at_call 52; (with_reducible refine (HC.out wz.drew HW0.out).mono ?_); rintro e w1 ⟨ev, rfl, hpt, hb1⟩; have HP := Lib.hid hpt; have HB1 := Lib.hid (HW0.out.trans hb1); have HBB : True := trivial; clear hpt hb1)))
  all_goals first
    | (have HAA := X3
       have hbn : b ≠ wz.heap.size := by omega
       have hbn2 : wz.heap.size ≠ b := by omega
       have hsz := HB1.out.size
       have HB2 : Hid (Below wz.heap.size wz ((w1.setCell ⟨wz.heap.size, 0, none⟩ (.int .i64 0)).setCell ⟨wz.heap.size, 1, none⟩ (.int .i64 0))) := Lib.hid (Below.setCell (Below.setCell HB1.out (p := ⟨wz.heap.size, 0, none⟩) (Nat.le_refl _) _) (p := ⟨wz.heap.size, 1, none⟩) (Nat.le_refl _) _)
       have HR2 := Lib.hid (HR.out.below HB2.out)
       have HN2 : Hid (NdW ((w1.setCell ⟨wz.heap.size, 0, none⟩ (.int .i64 0)).setCell ⟨wz.heap.size, 1, none⟩ (.int .i64 0)) ev x) := Lib.hid (HP.out.set2 X3.out _ _)
       obtain ⟨-, c1', -, -, fz⟩ := (HR.out.below HB1.out).cells
       have f1' := fz 1
       clear fz
       go_wp2
       go_ret
       have hp := P.mk (w := ((w1.setCell ⟨wz.heap.size, 0, none⟩ (.int .i64 0)).setCell ⟨wz.heap.size, 1, none⟩ (.int .i64 0))) (HR2.out.setI HJ.out) (mv_set _ _ _ _)
       exact ⟨_, rfl, pt_mv (NdW.pt HN2.out) HR2.out hp, (P.of HR.out HB2.out).trans hp⟩)
    | (have HAB := HBB
       have hs1 := HB1.out.size
       have hbn : b ≠ w1.heap.size := by omega
       have hbz : b < w1.heap.size := by omega
       have HR2 := Lib.hid (HR.out.below HB1.out)
       obtain ⟨-, c1', -, -, fz⟩ := HR2.out.cells
       have f1' := fz 1
       clear fz
       go_wp2
       go_ret
       have hp := P.mk (w := w1) (HR2.out.setI HJ.out) (mv_set _ _ _ _)
       have hp2 := hp.below (below_al _ (.cells #[.int .i64 0, .int .i64 0] 29))
       exact ⟨_, rfl, pt_mv (NdW.pt HP.out) HR2.out hp2, (P.of HR.out HB1.out).trans hp2⟩)
def RowP {α : Type} (T : TypeId) (K : Nat) (R : World → α → List Value → Prop) (w : World) (b : Nat) (L : List Lx.Tok) (lv : Value) (j : Nat) (l : List α) (e : Ending) (w' : World) : Prop := ∃ v, e = .returned v ∧ RowR T K R w' l v ∧ P w w' b L lv j
theorem own_form {w : World} {base : Nat} {e : TypeId} {sz : Nat} {v : Value} {n : Nat} {xs : List Value} (h : w.ownsRow base e sz v n xs) : ∃ A c, v = .slice A n c ∧ n ≤ c ∧ c ≤ 9223372036854775807 := by
  obtain ⟨hl, ⟨e, h0⟩ | ⟨g, cap, cur, rfl, hb, hh, hnc, hcm, _⟩⟩ := h
  · exact ⟨none, 0, by rw [e, h0], by omega, by omega⟩
  · unfold maxLen at hcm
    exact ⟨_, _, rfl, hnc, by omega⟩
theorem row_form {α : Type} {T : TypeId} {K : Nat} {R : World → α → List Value → Prop} {w : World} {l : List α} {v : Value} (h : RowR T K R w l v) : ∃ A n c, v = .slice A n c := by
  obtain ⟨A, c, e, -⟩ := h; exact ⟨_, _, _, e⟩
theorem P.row {w w2 W w3 : World} {b : Nat} {L : List Lx.Tok} {lv : Value} {i : Nat} {row : Option Nat} (h : P w w2 b L lv i) (hlt : b < w.heap.size) (hW : Below w2.heap.size w2 W) (hg : W.grownBy w3 row) (hrow : ∀ g, row = some g → w.heap.size ≤ g) : P w w3 b L lv i := by
  have hs := h.mv.size
  have ho : ∀ g, g < w.heap.size → w3.heap[g]? = w2.heap[g]? := fun g hgl =>
    (hg.block g (by have := hW.size; omega) (fun e => by have := hrow g e.symm; omega)).trans (hW.block g (by omega))
  exact ⟨h.rd.keep (fun g hgl => ho g (by omega)), ⟨hg.os.trans (hW.os.trans h.mv.os), hg.tape.trans (hW.tape.trans h.mv.tape), hg.output.trans (hW.output.trans h.mv.output), by have := hg.size; have := hW.size; omega, fun g hgl hne => (ho g hgl).trans (h.mv.block g hgl hne)⟩⟩
theorem news_new (W : World) (cs : Array Value) (T : TypeId) (xs : List Value) (h : cs.toList = xs) {G : Nat} (hG : W.heap.size = G) : ∀ j u, xs[j]? = some u → (W.alloc (.cells cs T)).cell? ((⟨G, 0, none⟩ : Addr).add j) = some u := by
  subst h; subst hG
  exact World.news_of_block (t := T) (fr := (0, 0)) (heap_alloc_new _ _)
theorem infoinputs : (Tryz.prog.info? 45).map (fun i => (i.zero, i.size, i.bytes)) = some (some (.agg #[.string ⟨#[]⟩, .int .i64 0]), 2, 24) := by kernel_rfl
theorem infoargs : (Tryz.prog.info? 32).map (fun i => (i.zero, i.size, i.bytes)) = some (some (.slice none 0 0), 1, 24) := by kernel_rfl
set_option maxRecDepth 100000 in
set_option maxHeartbeats 4000000 in
theorem inputs_ok {b : Nat} {L : List Lx.Tok} {lv : Value} {i j : Nat} {ps : List Prm} {w : World} (hr : Ry w b L lv i) (h : inputsL L i = some (ps, j)) : Calls Tryz.prog 54 #[.pointer (some ⟨b, 0, none⟩)] w (RowP 45 2 PrmV w b L lv j ps) := by
  obtain ⟨h1, h2⟩ := nd_some h
  have hlt := hr.lt
  obtain ⟨i0, hi, hz⟩ := Option.map_eq_some_iff.1 infoinputs
  simp only [Prod.mk.injEq] at hz
  obtain ⟨hz0, hz1, hz2⟩ := hz
  have HN := Lib.hid (need_ok (s := [40]) rfl h1 hr)
  have H2 := Lib.hid h2
  clear h h1 h2 hr
  go_enter Tryz.func54, Tryz.ntmps54
  go_wp2_with fail
  refine HN.out.mono ?_
  rintro e wa ⟨rfl, ga⟩
  have HGA := Lib.hid ga
  obtain ⟨B, hB⟩ : ∃ B, isAt L (i + 1) [41] = B := ⟨_, rfl⟩
  have HTA := Lib.hid (take_ok (s := [41]) rfl hB ga.rd)
  have HB := Lib.hid hB
  clear ga hB
  go_wp2_with fail
  refine HTA.out.mono ?_
  rintro e wb ⟨rfl, gb⟩
  have HGB := Lib.hid (HGA.out.trans gb)
  clear gb
  cases B with
  | true =>
    have h2 := H2.out
    rw [HB.out, if_pos rfl] at h2
    injection h2 with h2
    simp only [Prod.mk.injEq] at h2
    obtain ⟨rfl, rfl⟩ := h2
    go_wp2
    go_ret
    exact ⟨_, rfl, RowR.nil _ _ _ _, HGB.out⟩
  | false =>
  have h2 := H2.out
  rw [HB.out, if_neg (by simp)] at h2
  have HF := Lib.hid h2
  clear h2
  go_wp2
  go_loopg [3] 200 (fun g s3 wr => ∃ (acc : List Prm) (xs : List (List Value)) (ov : Value) (m : Nat), ov = s3 ∧ OList 45 2 PrmV wr w.heap.size ov acc xs ∧ P w wr b L lv m ∧ inputsF L g acc m = some (ps, j))
  case atStart => exact ⟨[], [], _, i + 1, rfl, OList.nil _ _, HGB.out, HF.out⟩
  case round =>
    obtain ⟨acc, xs, ov, m, hov, hol, hgr, hrow⟩ := hrel
    subst hov
    cases gk with
    | zero => simp [inputsF] at hrow
    | succ gk =>
    simp only [inputsF] at hrow
    by_cases hac : 200 ≤ acc.length
    · rw [if_pos hac] at hrow; cases hrow
    rw [if_neg hac] at hrow
    obtain ⟨a, k, h3, h4⟩ := bd_some hrow
    have HOL := Lib.hid hol
    have HGR := Lib.hid hgr
    have HOK := Lib.hid (ok_ok hgr.rd)
    have HONE := Lib.hid (param_ok hgr.rd h3)
    have H4 := Lib.hid h4
    obtain ⟨A0, c0, hv0, hn1, hn2⟩ := own_form hol.own
    subst hv0
    have hs0 := hgr.mv.size
    have hac2 : acc.length < 200 := by omega
    clear hol hgr hrow h3 h4 hac
    go_wp2_with fail
    refine HOK.out.mono ?_
    rintro e w0 ⟨rfl, hw0⟩
    subst hw0
    go_wp2_with fail
    refine (room_ok hac2).mono ?_
    rintro e w0' ⟨rfl, hw0'⟩
    subst hw0'
    go_wp2_with fail
    refine HONE.out.mono ?_
    rintro e w2 ⟨rfl, g2⟩
    have HXV : Hid (PrmV w2 a [.string (str a.name), .int .i64 a.ty]) := Lib.hid rfl
    have HG2 := Lib.hid (HGR.out.trans g2)
    have hst := P.stay HGR.out.rd g2
    have HOL2 := Lib.hid (HOL.out.stay hst (by decide) (fun a x hx => Pg.PrmV.stay hst a x hx))
    have hs2 := g2.mv.size
    clear g2 hst
    go_wp2_with (at_builtin; refine wpList_append_own _ rfl (.tmp 14) (.tmp 17) 33 rfl w.heap.size 45 i0 _ 2 _ Tryz.underlying33 hi hz0 hz1 hz2 rfl (by decide) _ acc.length xs.flatten rfl (HOL2.out.own.alloc _) ⟨w2.heap.size, 0, none⟩ 1 1 [.string (str a.name), .int .i64 a.ty] rfl rfl ?a1 ?b1 ?c1 ?d1 ?e1 ?_)
    case a1 => exact news_new _ #[.string (str a.name), .int .i64 a.ty] _ [.string (str a.name), .int .i64 a.ty] rfl rfl
    case b1 => first | rfl | simp [Value.oneCell']
    case c1 => unfold maxLen; omega
    case d1 => omega
    case e1 => first | omega | (simp; omega)
    intro v3 w3 hown3 hg3 _
    have HOL3 := Lib.hid (HOL2.out.snoc (a := a) HXV.out rfl (below_al w2 _) hown3 hg3 (fun st a x hx => Pg.PrmV.stay st a x hx))
    have HGR3 := Lib.hid (P.row HG2.out hlt (below_al w2 _) hg3 (fun g hg => (HOL2.out.own.lt g hg).1))
    obtain ⟨A3, c3, hv3, y3, y4⟩ := own_form hown3
    subst hv3
    clear hown3 hg3
    obtain ⟨B, hB⟩ : ∃ B, isAt L k [41] = B := ⟨_, rfl⟩
    have HT := Lib.hid (take_ok (s := [41]) rfl hB HGR3.out.rd)
    have HBB := Lib.hid hB
    clear hB
    go_wp2_with fail
    refine HT.out.mono ?_
    rintro e w4 ⟨rfl, g4⟩
    have HGR4 := Lib.hid (HGR3.out.trans g4)
    have hst := P.stay HGR3.out.rd g4
    have HOL4 := Lib.hid (HOL3.out.stay hst (by decide) (fun a x hx => Pg.PrmV.stay hst a x hx))
    clear g4 hst
    cases B with
    | true =>
      have h5 := H4.out
      rw [HBB.out, if_pos rfl] at h5
      injection h5 with h5
      simp only [Prod.mk.injEq] at h5
      obtain ⟨rfl, rfl⟩ := h5
      go_wp2
      go_ret
      exact ⟨_, rfl, HOL4.out.row, HGR4.out⟩
    | false =>
      have h5 := H4.out
      rw [HBB.out, if_neg (by simp)] at h5
      obtain ⟨h6, h7⟩ := nd_some h5
      have HND := Lib.hid (need_ok (s := [59]) rfl h6 HGR4.out.rd)
      have H7 := Lib.hid h7
      clear h5 h6 h7
      go_wp2_with fail
      refine HND.out.mono ?_
      rintro e w5 ⟨rfl, g5⟩
      have HGR5 := Lib.hid (HGR4.out.trans g5)
      have hst := P.stay HGR4.out.rd g5
      have HOL5 := Lib.hid (HOL4.out.stay hst (by decide) (fun a x hx => Pg.PrmV.stay hst a x hx))
      clear g5 hst
      go_wp2
      go_roundg gk
      case measure => omega
      case rel => exact ⟨acc ++ [a], _, _, _, rfl, HOL5.out, HGR5.out, H7.out⟩
end Go.Proofs.YtobkcdkffcenbaaGreatDoor.Lp

/- A lean reader of programs: rows of expressions, equations; where an item begins. Conditions: as each says. -/
namespace Go.Proofs.YtobkcdkffcenbaaGreatDoor.Lp
open Go.ChangeShapes Go.WideShapes Go.ChangeAt Go.RowKit Go.Maps Go.WideMaps
open Go.Proofs.YtobkcdkffcenbaaGreatDoor.Tr (str ret_bool ret_int Bytes Nd Nodes)
open Go.Proofs.YtobkcdkffcenbaaGreatDoor.Lr (isAt run TkAt Mv NdW blk_lt isAt_lt mv_set)
open Go.Proofs.YtobkcdkffcenbaaGreatDoor.Pg (Prm Eqn Itm Unt Stay RowR OList PrmV EqnV ExpV ItmV UntV)
open Go.Proofs.YtobkcdkffcenbaaGreatDoor.Ex (PtW)
theorem infoequations : (Tryz.prog.info? 51).map (fun i => (i.zero, i.size, i.bytes)) = some (some (.agg #[.string ⟨#[]⟩, .slice none 0 0]), 2, 40) := by kernel_rfl
set_option maxRecDepth 100000 in
set_option maxHeartbeats 4000000 in
theorem args_ok {b : Nat} {L : List Lx.Tok} {lv : Value} {i j : Nat} {ps : List (List Nd)} {w : World} (hr : Ry w b L lv i) (h : argsL L i = some (ps, j)) : Calls Tryz.prog 99 #[.pointer (some ⟨b, 0, none⟩)] w (RowP 32 1 ExpV w b L lv j ps) := by
  obtain ⟨h1, h2⟩ := nd_some h
  have hlt := hr.lt
  obtain ⟨i0, hi, hz⟩ := Option.map_eq_some_iff.1 infoargs
  simp only [Prod.mk.injEq] at hz
  obtain ⟨hz0, hz1, hz2⟩ := hz
  have HN := Lib.hid (need_ok (s := [40]) rfl h1 hr)
  have H2 := Lib.hid h2
  clear h h1 h2 hr
  go_enter Tryz.func99, Tryz.ntmps99
  go_wp2_with fail
  refine HN.out.mono ?_
  rintro e wa ⟨rfl, ga⟩
  have HGA := Lib.hid ga
  obtain ⟨B, hB⟩ : ∃ B, isAt L (i + 1) [41] = B := ⟨_, rfl⟩
  have HTA := Lib.hid (take_ok (s := [41]) rfl hB ga.rd)
  have HB := Lib.hid hB
  clear ga hB
  go_wp2_with fail
  refine HTA.out.mono ?_
  rintro e wb ⟨rfl, gb⟩
  have HGB := Lib.hid (HGA.out.trans gb)
  clear gb
  cases B with
  | true =>
    have h2 := H2.out
    rw [HB.out, if_pos rfl] at h2
    injection h2 with h2
    simp only [Prod.mk.injEq] at h2
    obtain ⟨rfl, rfl⟩ := h2
    go_wp2
    go_ret
    exact ⟨_, rfl, RowR.nil _ _ _ _, HGB.out⟩
  | false =>
  have h2 := H2.out
  rw [HB.out, if_neg (by simp)] at h2
  have HF := Lib.hid h2
  clear h2
  go_wp2
  go_loopg [3] 200 (fun g s3 wr => ∃ (acc : List (List Nd)) (xs : List (List Value)) (ov : Value) (m : Nat), ov = s3 ∧ OList 32 1 ExpV wr w.heap.size ov acc xs ∧ P w wr b L lv m ∧ argsF L g acc m = some (ps, j))
  case atStart => exact ⟨[], [], _, i + 1, rfl, OList.nil _ _, HGB.out, HF.out⟩
  case round =>
    obtain ⟨acc, xs, ov, m, hov, hol, hgr, hrow⟩ := hrel
    subst hov
    cases gk with
    | zero => simp [argsF] at hrow
    | succ gk =>
    simp only [argsF] at hrow
    by_cases hac : 200 ≤ acc.length
    · rw [if_pos hac] at hrow; cases hrow
    rw [if_neg hac] at hrow
    obtain ⟨a, k, h3, h4⟩ := bd_some hrow
    have HOL := Lib.hid hol
    have HGR := Lib.hid hgr
    have HOK := Lib.hid (ok_ok hgr.rd)
    have HONE := Lib.hid (expr_ok hgr.rd h3 (by
      split at h4
      · rename_i h; exact Nat.le_of_lt (isAt_lt h)
      · exact Nat.le_of_lt (isAt_lt (nd_some h4).1)))
    have H4 := Lib.hid h4
    obtain ⟨A0, c0, hv0, hn1, hn2⟩ := own_form hol.own
    subst hv0
    have hs0 := hgr.mv.size
    have hac2 : acc.length < 200 := by omega
    clear hol hgr hrow h3 h4 hac
    go_wp2_with fail
    refine HOK.out.mono ?_
    rintro e w0 ⟨rfl, hw0⟩
    subst hw0
    go_wp2_with fail
    refine (room_ok hac2).mono ?_
    rintro e w0' ⟨rfl, hw0'⟩
    subst hw0'
    go_wp2_with fail
    refine HONE.out.mono ?_
    rintro e w2 ⟨ev, rfl, pv, g2⟩
    obtain ⟨Ae, ce, rfl, ye, -⟩ := pt_form pv
    have HXV : Hid (ExpV w2 a [.slice Ae a.length ce]) := Lib.hid ⟨_, rfl, pv⟩
    clear pv
    have HG2 := Lib.hid (HGR.out.trans g2)
    have hst := P.stay HGR.out.rd g2
    have HOL2 := Lib.hid (HOL.out.stay hst (by decide) (fun a x hx => Pg.ExpV.stay hst (by decide) a x hx))
    have hs2 := g2.mv.size
    clear g2 hst
    go_wp2_with (at_builtin; refine wpList_append_own _ rfl (.tmp 14) (.tmp 17) 41 rfl w.heap.size 32 i0 _ 1 _ Tryz.underlying41 hi hz0 hz1 hz2 rfl (by decide) _ acc.length xs.flatten rfl (HOL2.out.own.alloc _) ⟨w2.heap.size, 0, none⟩ 1 1 [.slice Ae a.length ce] rfl rfl ?a1 ?b1 ?c1 ?d1 ?e1 ?_)
    case a1 => exact news_new _ #[.slice Ae a.length ce] _ [.slice Ae a.length ce] rfl rfl
    case b1 => first | rfl | simp [Value.oneCell']
    case c1 => unfold maxLen; omega
    case d1 => omega
    case e1 => first | omega | (simp; omega)
    intro v3 w3 hown3 hg3 _
    have HOL3 := Lib.hid (HOL2.out.snoc (a := a) HXV.out rfl (below_al w2 _) hown3 hg3 (fun st a x hx => Pg.ExpV.stay st (by decide) a x hx))
    have HGR3 := Lib.hid (P.row HG2.out hlt (below_al w2 _) hg3 (fun g hg => (HOL2.out.own.lt g hg).1))
    obtain ⟨A3, c3, hv3, y3, y4⟩ := own_form hown3
    subst hv3
    clear hown3 hg3
    obtain ⟨B, hB⟩ : ∃ B, isAt L k [41] = B := ⟨_, rfl⟩
    have HT := Lib.hid (take_ok (s := [41]) rfl hB HGR3.out.rd)
    have HBB := Lib.hid hB
    clear hB
    go_wp2_with fail
    refine HT.out.mono ?_
    rintro e w4 ⟨rfl, g4⟩
    have HGR4 := Lib.hid (HGR3.out.trans g4)
    have hst := P.stay HGR3.out.rd g4
    have HOL4 := Lib.hid (HOL3.out.stay hst (by decide) (fun a x hx => Pg.ExpV.stay hst (by decide) a x hx))
    clear g4 hst
    cases B with
    | true =>
      have h5 := H4.out
      rw [HBB.out, if_pos rfl] at h5
      injection h5 with h5
      simp only [Prod.mk.injEq] at h5
      obtain ⟨rfl, rfl⟩ := h5
      go_wp2
      go_ret
      exact ⟨_, rfl, HOL4.out.row, HGR4.out⟩
    | false =>
      have h5 := H4.out
      rw [HBB.out, if_neg (by simp)] at h5
      obtain ⟨h6, h7⟩ := nd_some h5
      have HND := Lib.hid (need_ok (s := [44]) rfl h6 HGR4.out.rd)
      have H7 := Lib.hid h7
      clear h5 h6 h7
      go_wp2_with fail
      refine HND.out.mono ?_
      rintro e w5 ⟨rfl, g5⟩
      have HGR5 := Lib.hid (HGR4.out.trans g5)
      have hst := P.stay HGR4.out.rd g5
      have HOL5 := Lib.hid (HOL4.out.stay hst (by decide) (fun a x hx => Pg.ExpV.stay hst (by decide) a x hx))
      clear g5 hst
      go_wp2
      go_roundg gk
      case measure => omega
      case rel => exact ⟨acc ++ [a], _, _, _, rfl, HOL5.out, HGR5.out, H7.out⟩
theorem stay_set {Q : TypeId → Prop} {w : World} {B k : Nat} {cs : Array Value} {T : TypeId} {f : Nat × Nat} (hB : w.heap[B]? = some (Obj.cells cs T f)) (hP : Q T) (v : Value) : Stay Q w (w.setCell ⟨B, k, none⟩ v) :=
  ⟨by simp [World.setCell], fun g cs' T' f' hg hn => Below.heap_setCell _ _ _ _ (by
    rintro rfl
    rw [hB] at hg
    simp only [Option.some.injEq, Obj.cells.injEq] at hg
    exact hn (hg.2.1 ▸ hP))⟩
theorem ol_set {α : Type} {T TB : TypeId} {K : Nat} {R : World → α → List Value → Prop} {w : World} {base B k : Nat} {ov v : Value} {l : List α} {xs : List (List Value)} {cs : Array Value} (h : OList T K R w base ov l xs) (hB : w.heap[B]? = some (.cells cs TB (0, 0))) (hne : ∀ g, ov.ownBlock = some g → g ≠ B) (hR : Stay (fun t => t = TB) w (w.setCell ⟨B, k, none⟩ v) → ∀ a x, R w a x → R (w.setCell ⟨B, k, none⟩ v) a x) : OList T K R (w.setCell ⟨B, k, none⟩ v) base ov l xs :=
  h.keep (fun g hg => Below.heap_setCell _ _ _ _ (hne g hg)) (hR (stay_set (Q := fun t => t = TB) hB rfl v))
set_option maxRecDepth 100000 in
set_option maxHeartbeats 4000000 in
theorem equations_ok {b : Nat} {L : List Lx.Tok} {lv : Value} {i j : Nat} {es : List Eqn} {w : World} (hr : Ry w b L lv i) (h : eqsF L 201 [] i = some (es, j)) : Calls Tryz.prog 58 #[.pointer (some ⟨b, 0, none⟩)] w (RowP 51 2 EqnV w b L lv j es) := by
  have hlt := hr.lt
  obtain ⟨i0, hi, hz⟩ := Option.map_eq_some_iff.1 infoequations
  simp only [Prod.mk.injEq] at hz
  obtain ⟨hz0, hz1, hz2⟩ := hz
  have HR := Lib.hid hr
  have HF := Lib.hid h
  clear h hr
  go_enter Tryz.func58, Tryz.ntmps58
  go_wp2
  go_loopg [3] 201 (fun g s3 wr => ∃ (acc : List Eqn) (xs : List (List Value)) (ov : Value) (m : Nat), ov = s3 ∧ OList 51 2 EqnV wr w.heap.size ov acc xs ∧ P w wr b L lv m ∧ eqsF L g acc m = some (es, j))
  case atStart => exact ⟨[], [], _, i, rfl, OList.nil _ _, P.refl HR.out, HF.out⟩
  case round =>
    obtain ⟨acc, xs, ov, m, hov, hol, hgr, hrow⟩ := hrel
    subst hov
    cases gk with
    | zero => simp [eqsF] at hrow
    | succ gk =>
    simp only [eqsF] at hrow
    obtain ⟨A0, c0, hv0, hn1, hn2⟩ := own_form hol.own
    subst hv0
    have HOL := Lib.hid hol
    have HGR := Lib.hid hgr
    have hs0 := hgr.mv.size
    cases hN : isNm L m with
    | false =>
      rw [hN, if_neg (by simp)] at hrow
      obtain ⟨h1, h2⟩ := nd_some hrow
      injection h2 with h2
      simp only [Prod.mk.injEq] at h2
      obtain ⟨rfl, rfl⟩ := h2
      have HNM := Lib.hid (named_ok hgr.rd hN)
      have H1 := Lib.hid h1
      clear hol hgr hrow h1 hN
      go_wp2_with fail
      refine HNM.out.mono ?_
      rintro e w1 ⟨rfl, g1⟩
      have HG1 := Lib.hid (HGR.out.trans g1)
      have hst := P.stay HGR.out.rd g1
      have HOL1 := Lib.hid (HOL.out.stay hst (by decide) (fun a x hx => Pg.EqnV.stay hst (by decide) a x hx))
      have HND := Lib.hid (need_ok (s := [116, 101, 108]) rfl H1.out g1.rd)
      clear g1 hst
      go_wp2_with fail
      refine HND.out.mono ?_
      rintro e w2 ⟨rfl, g2⟩
      have HG2 := Lib.hid (HG1.out.trans g2)
      have hst := P.stay HG1.out.rd g2
      have HOL2 := Lib.hid (HOL1.out.stay hst (by decide) (fun a x hx => Pg.EqnV.stay hst (by decide) a x hx))
      clear g2 hst
      go_wp2
      go_ret
      exact ⟨_, rfl, HOL2.out.row, HG2.out⟩
    | true =>
      rw [hN, if_pos rfl] at hrow
      by_cases hac : 200 ≤ acc.length
      · rw [if_pos hac] at hrow; cases hrow
      rw [if_neg hac] at hrow
      obtain ⟨n, k1, h1, h2⟩ := bd_some hrow
      obtain ⟨h3, h4⟩ := nd_some h2
      obtain ⟨x, k2, h5, h6⟩ := bd_some h4
      obtain ⟨h7, h8⟩ := nd_some h6
      have hac2 : acc.length < 200 := by omega
      have HNM := Lib.hid (named_ok hgr.rd hN)
      have H1 := Lib.hid h1
      have H3 := Lib.hid h3
      have H5 := Lib.hid h5
      have H7 := Lib.hid h7
      have H8 := Lib.hid h8
      clear hol hgr hrow h1 h2 h3 h4 h5 h6 h7 h8 hac hN
      go_wp2_with fail
      refine HNM.out.mono ?_
      rintro e w0 ⟨rfl, g0⟩
      have HG0 := Lib.hid (HGR.out.trans g0)
      have hst := P.stay HGR.out.rd g0
      have HOL0 := Lib.hid (HOL.out.stay hst (by decide) (fun a x hx => Pg.EqnV.stay hst (by decide) a x hx))
      have HNA := Lib.hid (name_ok g0.rd H1.out)
      clear g0 hst
      go_wp2_with fail
      refine (room_ok hac2).mono ?_
      rintro e w0' ⟨rfl, hw0'⟩
      subst hw0'
      go_wp2_with fail
      refine HNA.out.mono ?_
      rintro e w1 ⟨rfl, g1⟩
      have HG1 := Lib.hid (HG0.out.trans g1)
      have hst := P.stay HG0.out.rd g1
      have HOL1 := Lib.hid (HOL0.out.stay hst (by decide) (fun a x hx => Pg.EqnV.stay hst (by decide) a x hx))
      clear g1 hst
      obtain ⟨w2, hw2⟩ : ∃ W, w1.alloc (.cells #[.string (str n), .slice none 0 0] 51) = W := ⟨_, rfl⟩
      have hb2 : Below w1.heap.size w1 w2 := hw2 ▸ below_al _ _
      have HG2 := Lib.hid (HG1.out.below hb2)
      have HOL2 := Lib.hid (HOL1.out.stay (Stay.below (P := fun t => t = 88) hb2) (by decide) (fun a x hx => Pg.EqnV.stay (Stay.below (P := fun t => t = 88) hb2) (by decide) a x hx))
      have HY2 : Hid (w2.heap[w1.heap.size]? = some (.cells #[.string (str n), .slice none 0 0] 51 (0, 0))) := Lib.hid (hw2 ▸ heap_alloc_new _ _)
      have HOB : Hid (∀ g, (Value.slice A0 acc.length c0).ownBlock = some g → g ≠ w1.heap.size) := Lib.hid (fun g hg e => by have := (HOL1.out.own.lt g hg).2; omega)
      have hs1 := HG1.out.mv.size
      have HW2 := Lib.hid hw2
      have HND := Lib.hid (need_ok (s := [61]) rfl H3.out HG2.out.rd)
      clear hb2 hw2
      go_wp2_with fail
      rw [HW2.out]
      refine HND.out.mono ?_
      rintro e w3 ⟨rfl, g3⟩
      have HG3 := Lib.hid (HG2.out.trans g3)
      have hst := P.stay HG2.out.rd g3
      have HOL3 := Lib.hid (HOL2.out.stay hst (by decide) (fun a x hx => Pg.EqnV.stay hst (by decide) a x hx))
      have HY3 := Lib.hid (g3.blk HY2.out (by omega))
      have HEX := Lib.hid (expr_ok g3.rd H5.out (Nat.le_of_lt (isAt_lt H7.out)))
      clear g3 hst
      go_wp2_with fail
      refine HEX.out.mono ?_
      rintro e w4 ⟨ev, rfl, pv, g4⟩
      have HG4 := Lib.hid (HG3.out.trans g4)
      have hst := P.stay HG3.out.rd g4
      have HOL4 := Lib.hid (HOL3.out.stay hst (by decide) (fun a x hx => Pg.EqnV.stay hst (by decide) a x hx))
      have hy4 := g4.blk HY3.out (by omega)
      obtain ⟨Ae, ce, rfl, ye, -⟩ := pt_form pv
      have q0 : w4.cell? ⟨w1.heap.size, 1, none⟩ = some (.slice none 0 0) := (cell_at hy4 1).trans rfl
      have q1 : w4.frozen? ⟨w1.heap.size, 1, none⟩ = false := free_at hy4 1
      obtain ⟨w5, hw5⟩ : ∃ W, w4.setCell ⟨w1.heap.size, 1, none⟩ (.slice Ae x.length ce) = W := ⟨_, rfl⟩
      have HG5 : Hid (P w w5 b L lv k2) := Lib.hid (hw5 ▸ HG4.out.local (by omega) hlt _)
      have HOL5 : Hid (OList 51 2 EqnV w5 w.heap.size (.slice A0 acc.length c0) acc xs) := Lib.hid (hw5 ▸ ol_set HOL4.out hy4 HOB.out (fun st a x hx => Pg.EqnV.stay st (by decide) a x hx))
      have HY5 : Hid (w5.heap[w1.heap.size]? = some (.cells #[.string (str n), .slice Ae x.length ce] 51 (0, 0))) := Lib.hid (by rw [← hw5]; simp [World.setCell, Array.getElem?_modify, hy4])
      have HP5 : Hid (PtW w5 (.slice Ae x.length ce, ⟨x, 0, 0⟩)) := Lib.hid (hw5 ▸ (stay_set (Q := fun t => t = 51) hy4 rfl _).pt (by decide) pv)
      have HW5 := Lib.hid hw5
      have HND2 := Lib.hid (need_ok (s := [59]) rfl H7.out HG5.out.rd)
      clear g4 hst hy4 pv hw5
      go_wp2_with fail
      rw [HW5.out]
      refine HND2.out.mono ?_
      rintro e w6 ⟨rfl, g6⟩
      have HG6 := Lib.hid (HG5.out.trans g6)
      have hst := P.stay HG5.out.rd g6
      have HOL6 := Lib.hid (HOL5.out.stay hst (by decide) (fun a x hx => Pg.EqnV.stay hst (by decide) a x hx))
      have hy6 := g6.blk HY5.out (by omega)
      have HXV : Hid (EqnV w6 ⟨n, x⟩ [.string (str n), .slice Ae x.length ce]) := Lib.hid ⟨_, rfl, hst.pt (by decide) HP5.out⟩
      have y0 : w6.cell? ⟨w1.heap.size, 0, none⟩ = some (.string (str n)) := (cell_at hy6 0).trans rfl
      have y1 : w6.cell? ⟨w1.heap.size, 1, none⟩ = some (.slice Ae x.length ce) := (cell_at hy6 1).trans rfl
      have hs6 := HG6.out.mv.size
      clear g6 hst hy6 q0 q1
      go_wp2_with (at_builtin; refine wpList_append_own _ rfl (.tmp 21) (.tmp 23) 46 rfl w.heap.size 51 i0 _ 2 _ Tryz.underlying46 hi hz0 hz1 hz2 rfl (by decide) _ acc.length xs.flatten rfl (HOL6.out.own.alloc _) ⟨w6.heap.size, 0, none⟩ 1 1 [.string (str n), .slice Ae x.length ce] rfl rfl ?a1 ?b1 ?c1 ?d1 ?e1 ?_)
      case a1 => exact news_new _ #[.string (str n), .slice Ae x.length ce] _ [.string (str n), .slice Ae x.length ce] rfl rfl
      case b1 => first | rfl | simp [Value.oneCell']
      case c1 => unfold maxLen; omega
      case d1 => omega
      case e1 => first | omega | (simp; omega)
      intro v3 w7 hown3 hg3 _
      have HOL7 := Lib.hid (HOL6.out.snoc (a := ⟨n, x⟩) HXV.out rfl (below_al w6 _) hown3 hg3 (fun st a x hx => Pg.EqnV.stay st (by decide) a x hx))
      have HGR7 := Lib.hid (P.row HG6.out hlt (below_al w6 _) hg3 (fun g hg => (HOL6.out.own.lt g hg).1))
      obtain ⟨A3, c3, hv3, y3, y4⟩ := own_form hown3
      subst hv3
      clear hown3 hg3
      go_wp2
      go_roundg gk
      case measure => omega
      case rel => exact ⟨acc ++ [⟨n, x⟩], _, _, _, rfl, HOL7.out, HGR7.out, H8.out⟩
end Go.Proofs.YtobkcdkffcenbaaGreatDoor.Lp

/- A lean reader of programs: a block that is filled and its result's, beside a reader; where an item begins. Conditions: as each says. -/
namespace Go.Proofs.YtobkcdkffcenbaaGreatDoor.Lp
open Go.ChangeShapes Go.WideShapes Go.ChangeAt Go.RowKit Go.Maps Go.WideMaps
open Go.Proofs.YtobkcdkffcenbaaGreatDoor.Tr (str ret_bool ret_int Bytes Nd Nodes)
open Go.Proofs.YtobkcdkffcenbaaGreatDoor.Lr (isAt run TkAt Mv NdW blk_lt isAt_lt mv_set)
open Go.Proofs.YtobkcdkffcenbaaGreatDoor.Pg (Prm Eqn Itm Unt Stay RowR OList PrmV EqnV ExpV ItmV UntV)
open Go.Proofs.YtobkcdkffcenbaaGreatDoor.Ex (PtW)
structure Bk (T : TypeId) (w W : World) (b : Nat) (L : List Lx.Tok) (lv : Value) (i x y : Nat) (cx cy : Array Value) : Prop where
  p : P w W b L lv i
  lt : b < w.heap.size
  hx : w.heap.size ≤ x
  hy : w.heap.size ≤ y
  ne : x ≠ y
  X : W.heap[x]? = some (.cells cx T (0, 0))
  Y : W.heap[y]? = some (.cells cy T (0, 0))
section
variable {T : TypeId} {w W W' : World} {b : Nat} {L : List Lx.Tok} {lv : Value} {i j x y : Nat} {cx cy : Array Value}
theorem Bk.rd (h : Bk T w W b L lv i x y cx cy) : Ry W b L lv i := h.p.rd
theorem Bk.go (h : Bk T w W b L lv i x y cx cy) (g : P W W' b L lv j) : Bk T w W' b L lv j x y cx cy :=
  ⟨h.p.trans g, h.lt, h.hx, h.hy, h.ne, g.blk h.X (by have := h.lt; have := h.hx; omega), g.blk h.Y (by have := h.lt; have := h.hy; omega)⟩
theorem Bk.st (h : Bk T w W b L lv i x y cx cy) (g : P W W' b L lv j) : Stay (fun t => t = 88) W W' := P.stay h.p.rd g
theorem Bk.al (h : Bk T w W b L lv i x y cx cy) (o : Obj) : Bk T w (W.alloc o) b L lv i x y cx cy :=
  ⟨h.p.below (below_al W o), h.lt, h.hx, h.hy, h.ne, (Below.heap_alloc _ _ _ (blk_lt h.X)).trans h.X, (Below.heap_alloc _ _ _ (blk_lt h.Y)).trans h.Y⟩
theorem Bk.set (h : Bk T w W b L lv i x y cx cy) (k : Nat) (v : Value) (cy' : Array Value) (he : cy.setIfInBounds k v = cy') : Bk T w (W.setCell ⟨y, k, none⟩ v) b L lv i x y cx cy' :=
  ⟨h.p.local h.hy h.lt v, h.lt, h.hx, h.hy, h.ne, set_oth h.X h.ne, by subst he; simp [World.setCell, Array.getElem?_modify, h.Y, Array.setIfInBounds]⟩
theorem Bk.ss (h : Bk T w W b L lv i x y cx cy) (k : Nat) (v : Value) : Stay (fun t => t = T) W (W.setCell ⟨y, k, none⟩ v) := stay_set (Q := fun t => t = T) h.Y rfl v
theorem Bk.lts (h : Bk T w W b L lv i x y cx cy) : x < W.heap.size ∧ y < W.heap.size ∧ b < W.heap.size := ⟨blk_lt h.X, blk_lt h.Y, h.p.rd.lt⟩
theorem Bk.q (h : Bk T w W b L lv i x y cx cy) (k : Nat) (v : Value) (hv : cy[k]? = some v) : W.cell? ⟨y, k, none⟩ = some v := (cell_at h.Y k).trans hv
theorem Bk.f (h : Bk T w W b L lv i x y cx cy) (k : Nat) : W.frozen? ⟨y, k, none⟩ = false := free_at h.Y k
theorem Bk.qx (h : Bk T w W b L lv i x y cx cy) (k : Nat) (v : Value) (hv : cx[k]? = some v) : W.cell? ⟨x, k, none⟩ = some v := (cell_at h.X k).trans hv
theorem Bk.fx (h : Bk T w W b L lv i x y cx cy) (k : Nat) : W.frozen? ⟨x, k, none⟩ = false := free_at h.X k
theorem Bk.setx (h : Bk T w W b L lv i x y cx cy) (k : Nat) (v : Value) (cx' : Array Value) (he : cx.setIfInBounds k v = cx') : Bk T w (W.setCell ⟨x, k, none⟩ v) b L lv i x y cx' cy ∧ Stay (fun t => t = T) W (W.setCell ⟨x, k, none⟩ v) :=
  ⟨⟨h.p.local h.hx h.lt v, h.lt, h.hx, h.hy, h.ne, by subst he; simp [World.setCell, Array.getElem?_modify, h.X, Array.setIfInBounds], set_oth h.Y (Ne.symm h.ne)⟩, stay_set (Q := fun t => t = T) h.X rfl v⟩
theorem Bk.two (hr : Ry w b L lv i) (cz : Array Value) : Bk T w ((w.alloc (.cells cz T)).alloc (.cells cz T)) b L lv i w.heap.size (w.heap.size + 1) cz cz := by
  have h1 := below_al w (.cells cz T)
  have h2 := below_al (w.alloc (.cells cz T)) (.cells cz T)
  have hs : (w.alloc (.cells cz T)).heap.size = w.heap.size + 1 := by simp
  refine ⟨P.of hr (h1.trans (h2.mono (by omega))), hr.lt, Nat.le_refl _, by omega, by omega, (h2.block _ (by omega)).trans (heap_alloc_new w _), ?_⟩
  rw [← hs]; exact heap_alloc_new _ _
theorem Bk.fin6 {a0 a1 a2 a3 a4 a5 u0 u1 u2 u3 u4 u5 : Value} (h : Bk T w W b L lv i x y #[u0, u1, u2, u3, u4, u5] cy) (hW : ((((((W.setCell ⟨x, 0, none⟩ a0).setCell ⟨x, 1, none⟩ a1).setCell ⟨x, 2, none⟩ a2).setCell ⟨x, 3, none⟩ a3).setCell ⟨x, 4, none⟩ a4).setCell ⟨x, 5, none⟩ a5) = W') :
    P w W' b L lv i ∧ Stay (fun t => t = T) W W' ∧ W'.cell? ⟨x, 0, none⟩ = some a0 ∧ W'.cell? ⟨x, 1, none⟩ = some a1 ∧ W'.cell? ⟨x, 2, none⟩ = some a2 ∧ W'.cell? ⟨x, 3, none⟩ = some a3 ∧ W'.cell? ⟨x, 4, none⟩ = some a4 ∧ W'.cell? ⟨x, 5, none⟩ = some a5 := by
  subst hW
  obtain ⟨h0, s0⟩ := h.setx 0 a0 #[a0, u1, u2, u3, u4, u5] rfl
  obtain ⟨h1, s1⟩ := h0.setx 1 a1 #[a0, a1, u2, u3, u4, u5] rfl
  obtain ⟨h2, s2⟩ := h1.setx 2 a2 #[a0, a1, a2, u3, u4, u5] rfl
  obtain ⟨h3, s3⟩ := h2.setx 3 a3 #[a0, a1, a2, a3, u4, u5] rfl
  obtain ⟨h4, s4⟩ := h3.setx 4 a4 #[a0, a1, a2, a3, a4, u5] rfl
  obtain ⟨h5, s5⟩ := h4.setx 5 a5 #[a0, a1, a2, a3, a4, a5] rfl
  exact ⟨h5.p, ((((s0.trans s1).trans s2).trans s3).trans s4).trans s5, h5.qx 0 _ rfl, h5.qx 1 _ rfl, h5.qx 2 _ rfl, h5.qx 3 _ rfl, h5.qx 4 _ rfl, h5.qx 5 _ rfl⟩
theorem Bk.fin8 {a0 a1 a2 a3 a4 a5 a6 a7 u0 u1 u2 u3 u4 u5 u6 u7 : Value} (h : Bk T w W b L lv i x y #[u0, u1, u2, u3, u4, u5, u6, u7] cy) (hW : ((((((((W.setCell ⟨x, 0, none⟩ a0).setCell ⟨x, 1, none⟩ a1).setCell ⟨x, 2, none⟩ a2).setCell ⟨x, 3, none⟩ a3).setCell ⟨x, 4, none⟩ a4).setCell ⟨x, 5, none⟩ a5).setCell ⟨x, 6, none⟩ a6).setCell ⟨x, 7, none⟩ a7) = W') :
    P w W' b L lv i ∧ Stay (fun t => t = T) W W' ∧ W'.cell? ⟨x, 0, none⟩ = some a0 ∧ W'.cell? ⟨x, 1, none⟩ = some a1 ∧ W'.cell? ⟨x, 2, none⟩ = some a2 ∧ W'.cell? ⟨x, 3, none⟩ = some a3 ∧ W'.cell? ⟨x, 4, none⟩ = some a4 ∧ W'.cell? ⟨x, 5, none⟩ = some a5 ∧ W'.cell? ⟨x, 6, none⟩ = some a6 ∧ W'.cell? ⟨x, 7, none⟩ = some a7 := by
  subst hW
  obtain ⟨h0, s0⟩ := h.setx 0 a0 #[a0, u1, u2, u3, u4, u5, u6, u7] rfl
  obtain ⟨h1, s1⟩ := h0.setx 1 a1 #[a0, a1, u2, u3, u4, u5, u6, u7] rfl
  obtain ⟨h2, s2⟩ := h1.setx 2 a2 #[a0, a1, a2, u3, u4, u5, u6, u7] rfl
  obtain ⟨h3, s3⟩ := h2.setx 3 a3 #[a0, a1, a2, a3, u4, u5, u6, u7] rfl
  obtain ⟨h4, s4⟩ := h3.setx 4 a4 #[a0, a1, a2, a3, a4, u5, u6, u7] rfl
  obtain ⟨h5, s5⟩ := h4.setx 5 a5 #[a0, a1, a2, a3, a4, a5, u6, u7] rfl
  obtain ⟨h6, s6⟩ := h5.setx 6 a6 #[a0, a1, a2, a3, a4, a5, a6, u7] rfl
  obtain ⟨h7, s7⟩ := h6.setx 7 a7 #[a0, a1, a2, a3, a4, a5, a6, a7] rfl
  exact ⟨h7.p, ((((((s0.trans s1).trans s2).trans s3).trans s4).trans s5).trans s6).trans s7, h7.qx 0 _ rfl, h7.qx 1 _ rfl, h7.qx 2 _ rfl, h7.qx 3 _ rfl, h7.qx 4 _ rfl, h7.qx 5 _ rfl, h7.qx 6 _ rfl, h7.qx 7 _ rfl⟩
end
set_option maxHeartbeats 1600000 in
theorem begins_ok {b : Nat} {L : List Lx.Tok} {lv : Value} {i : Nat} {B : Bool} {w : World} (hr : Ry w b L lv i) (hB : begB L i = B) : Calls Tryz.prog 82 #[.pointer (some ⟨b, 0, none⟩)] w (fun e w' => e = .returned (.bool B) ∧ P w w' b L lv i) := by
  subst hB
  have HR := Lib.hid (P.refl hr)
  have HC : Hid (∀ w' (s : Bytes) (B : Bool), isAt L i s = B → P w w' b L lv i → Calls Tryz.prog 35 #[.pointer (some ⟨b, 0, none⟩), .string (str s)] w' (fun e w'' => e = .returned (.bool B) ∧ P w w'' b L lv i)) := Lib.hid (fun w' s B hs hp => (is_ok rfl hs hp.rd).mono (fun e w'' h => ⟨h.1, hp.trans h.2⟩))
  have HB : begB L i = (isAt L i wAssume || isAt L i wGuar || isAt L i wGhost || isAt L i wMode || isAt L i wImport) := rfl
  rw [HB]
  clear HB hr
  rcases Bool.eq_false_or_eq_true (isAt L i wAssume) with b1 | b1
  all_goals rcases Bool.eq_false_or_eq_true (isAt L i wGuar) with b2 | b2
  all_goals rcases Bool.eq_false_or_eq_true (isAt L i wGhost) with b3 | b3
  all_goals rcases Bool.eq_false_or_eq_true (isAt L i wMode) with b4 | b4
  all_goals rcases Bool.eq_false_or_eq_true (isAt L i wImport) with b5 | b5
  all_goals
    rw [b1, b2, b3, b4, b5]
    have C1 := Lib.hid (fun w' hp => HC.out w' wAssume _ b1 hp)
    have C2 := Lib.hid (fun w' hp => HC.out w' wGuar _ b2 hp)
    have C3 := Lib.hid (fun w' hp => HC.out w' wGhost _ b3 hp)
    have C4 := Lib.hid (fun w' hp => HC.out w' wMode _ b4 hp)
    have C5 := Lib.hid (fun w' hp => HC.out w' wImport _ b5 hp)
    clear HC b1 b2 b3 b4 b5
    go_enter Tryz.func82, Tryz.ntmps82
    go_wp2_with fail
    refine (C1.out _ HR.out).mono ?_
    rintro e w1 ⟨rfl, h1⟩
    have H1 := Lib.hid h1
    clear h1
    go_wp2_with fail
    first
      | (go_ret; exact ⟨rfl, H1.out⟩)
      | (refine (C2.out _ H1.out).mono ?_
         rintro e w2 ⟨rfl, h2⟩
         have H2 := Lib.hid h2
         clear h2
         go_wp2_with fail
         first
           | (go_ret; exact ⟨rfl, H2.out⟩)
           | (refine (C3.out _ H2.out).mono ?_
              rintro e w3 ⟨rfl, h3⟩
              have H3 := Lib.hid h3
              clear h3
              go_wp2_with fail
              first
                | (go_ret; exact ⟨rfl, H3.out⟩)
                | (refine (C4.out _ H3.out).mono ?_
                   rintro e w4 ⟨rfl, h4⟩
                   have H4 := Lib.hid h4
                   clear h4
                   go_wp2_with fail
                   first
                     | (go_ret; exact ⟨rfl, H4.out⟩)
                     | (refine (C5.out _ H4.out).mono ?_
                        rintro e w5 ⟨rfl, h5⟩
                        have H5 := Lib.hid h5
                        clear h5
                        go_wp2_with fail
                        go_ret
                        exact ⟨rfl, H5.out⟩))))
end Go.Proofs.YtobkcdkffcenbaaGreatDoor.Lp

