/- Contracts of layer prog's reader: a row of streams. Conditions: a reader lies in memory. -/
import Derived.Test.YtgohhnbdicdenaaGreatDoorPz09
import Derived.Deep.LoopGhost
import Derived.OwnWalk
import Derived.Maps.AppendAt
import Derived.Test.YtgohhnbdicdenaaGreatDoorPz16
namespace Go.Proofs.YtgohhnbdicdenaaGreatDoor.Pg
open Go.ChangeShapes Go.WideShapes Go.ChangeAt Go.RowKit
open Go.Proofs.YtgohhnbdicdenaaGreatDoor.Ex
open Go.Proofs.YtgohhnbdicdenaaGreatDoor.Tr (str ret_bool ret_int Bytes Nd)
set_option linter.unusedVariables false
set_option linter.unusedSimpArgs false

theorem info46_124 : (Tryz.prog.info? 46).map (fun i => (i.zero, i.size, i.bytes)) = some (some (.agg #[.string ⟨#[]⟩, .int .i64 0]), 2, 24) := by kernel_rfl
set_option maxRecDepth 100000 in
set_option maxHeartbeats 4000000 in
theorem rowS_any (b : Nat) (r : Rd) (w : World) (hr : GrAt w b r) :
    Calls Tryz.prog 124 #[.pointer (some ⟨b, 0, none⟩), .func (.func 96) #[.pointer (some ⟨b, 0, none⟩)] #[], .func (.func 125) #[.pointer (some ⟨b, 0, none⟩)] #[]] w (RowG 46 2 PrmV w b (rowP atNameB streamP r)) := by
  have HR := Lib.hid hr
  have hlt := hr.lt
  obtain ⟨i0, hi, hz0, hz1, hz2⟩ := info_parts info46_124
  obtain ⟨X, hX⟩ : ∃ X, rowP atNameB streamP r = X := ⟨_, rfl⟩
  have HX : Hid (rowF atNameB streamP rowMax [] r = X) := Lib.hid hX
  rw [hX]
  clear hX hr
  go_enter Tryz.func124, Tryz.ntmps124
  go_wp2
  go_loopg [7] rowMax (fun g s7 wr => ∃ (rr : Rd) (ov : Value) (acc : List (Prm)) (xs : List (List Value)), ov = s7 ∧ acc.length ≤ 200 ∧ 202 ≤ acc.length + g ∧ OList 46 2 PrmV wr w.heap.size ov acc xs ∧ GrTo w wr b rr ∧ rowF atNameB streamP g acc rr = X)
  case atStart => exact ⟨r, _, [], [], rfl, by simp, by simp [rowMax], OList.nil _ _, GrTo.refl HR.out, HX.out⟩
  case round =>
    obtain ⟨rr, ov, acc, xs, hov, ha, hag, hol, hgr, hrow⟩ := hrel
    subst hov
    have HOL := Lib.hid hol
    have HGR := Lib.hid hgr
    have HROW := Lib.hid hrow
    obtain ⟨A0, c0, hv0, hn1, hn2⟩ := own_form hol.own
    subst hv0
    clear hol hgr hrow
    cases gk with
    | zero => omega
    | succ gk =>
    have HB := Lib.hid (atName_any b rr wr HGR.out.rd)
    obtain ⟨B, hB⟩ : ∃ B, atNameB rr = B := ⟨_, rfl⟩
    rw [hB] at HB
    have HBE := Lib.hid hB
    clear hB
    cases B with
    | false =>
      have HE : Hid ((acc, rr) = X) := Lib.hid ((rowF_stop HBE.out).symm.trans HROW.out)
      go_wp2_with fail
      refine HB.out.mono ?_
      rintro e w1 ⟨rfl, hb1⟩
      have HB1 := Lib.hid hb1
      have HOL1 := Lib.hid (HOL.out.stay (Stay.below (P := fun t => t = 74) hb1) (by decide) (fun a x hx => PrmV.stay (Stay.below (P := fun t => t = 74) HB1.out) a x hx))
      clear hb1
      go_wp2
      go_ret
      exact RowG.of HE.out HOL1.out.row (HGR.out.then_below HB1.out)
    | true =>
    by_cases h200 : acc.length = 200
    · have HE : Hid (([], rr.fail 7) = X) := Lib.hid ((rowF_many HBE.out h200).symm.trans HROW.out)
      have hd : ((acc.length : Int) == 200) = true := by rw [beq_iff_eq]; omega
      clear h200
      go_wp2_with fail
      refine HB.out.mono ?_
      rintro e w1 ⟨rfl, hb1⟩
      have HB1 := Lib.hid hb1
      clear hb1
      go_wp2_with fail
      refine (fail_any b rr 7 _ (HGR.out.rd.below HB1.out)).mono ?_
      rintro e w2 ⟨rfl, hg2⟩
      have HG2 := Lib.hid hg2
      clear hg2
      go_wp2
      go_ret
      exact RowG.of HE.out (RowR.nil _ _ _ _) ((HGR.out.then_below HB1.out).trans HG2.out)
    have hd : ((acc.length : Int) == 200) = false := by rw [beq_eq_false_iff_ne]; omega
    obtain ⟨⟨a, r2⟩, hone⟩ : ∃ x, streamP rr = x := ⟨_, rfl⟩
    have HE : Hid (rowF atNameB streamP gk (acc ++ [a]) r2 = X) := Lib.hid ((rowF_step HBE.out h200 hone).symm.trans HROW.out)
    have HO : Hid (∀ w', GrAt w' b rr → Calls Tryz.prog 125 #[.pointer (some ⟨b, 0, none⟩)] w' (PrmG w' b (a, r2))) := Lib.hid (fun w' h => by rw [← hone]; exact stream_any b rr w' h)
    have ha2 : acc.length < 200 := by omega
    clear h200 hone
    go_wp2_with fail
    refine HB.out.mono ?_
    rintro e w1 ⟨rfl, hb1⟩
    have HB1 := Lib.hid hb1
    clear hb1
    go_wp2_with fail
    refine (HO.out w1 (HGR.out.rd.below HB1.out)).mono ?_
    rintro e w2 ⟨rfl, hg2⟩
    have HG2 := Lib.hid hg2
    have hs2 := hg2.grown.size
    have hs1 := HB1.out.size
    have hs0 := HGR.out.grown.size
    have HOL2 := Lib.hid ((HOL.out.stay (Stay.below (P := fun t => t = 74) HB1.out) (by decide) (fun a x hx => PrmV.stay (Stay.below (P := fun t => t = 74) HB1.out) a x hx)).stay (GrTo.stay (HGR.out.rd.below HB1.out) hg2) (by decide) (fun a x hx => PrmV.stay (GrTo.stay (HGR.out.rd.below HB1.out) HG2.out) a x hx))
    clear hg2
    have HXV : Hid (PrmV w2 a [.string (str a.name), .int .i64 a.ty]) := Lib.hid rfl
    go_wp2_with (at_builtin; refine wpList_append_own _ rfl (.tmp 15) (.tmp 18) 44 rfl w.heap.size 46 i0 _ 2 24 Tryz.underlying44 hi hz0 hz1 hz2 rfl (by decide) _ acc.length xs.flatten rfl (HOL2.out.own.alloc _) ⟨w2.heap.size, 0, none⟩ 1 1 [.string (str a.name), .int .i64 a.ty] rfl rfl ?a1 ?b1 ?c1 ?d1 ?e1 ?_)
    case a1 => first | exact (fun j u h => h) | exact news_new _ #[.string (str a.name), .int .i64 a.ty] _ [.string (str a.name), .int .i64 a.ty] rfl rfl
    case b1 => simp [Value.oneCell']
    case c1 => unfold maxLen; omega
    case d1 => omega
    case e1 => simp; omega
    intro v3 w3 hown3 hg3 _
    have HOL3 := Lib.hid (HOL2.out.snoc HXV.out rfl (below_new w2 _) hown3 hg3 (fun st => PrmV.stay st))
    have HGR3 := Lib.hid (GrTo.row ((HGR.out.then_below HB1.out).trans HG2.out) hlt (below_new w2 _) hg3 (fun g hg => (HOL2.out.own.lt g hg).1))
    obtain ⟨A3, c3, hv3, y3, y4⟩ := own_form hown3
    subst hv3
    clear hown3 hg3
    go_wp2
    go_roundg gk
    case measure => omega
    case rel => exact ⟨r2, _, acc ++ [a], xs ++ [[.string (str a.name), .int .i64 a.ty]], rfl, by simp; omega, by simp; omega, HOL3.out, HGR3.out, HE.out⟩
end Go.Proofs.YtgohhnbdicdenaaGreatDoor.Pg

/- Contracts of layer prog's reader: the streams behind var. Conditions: a reader lies in memory. -/
namespace Go.Proofs.YtgohhnbdicdenaaGreatDoor.Pg
open Go.ChangeShapes Go.WideShapes Go.ChangeAt Go.RowKit
open Go.Proofs.YtgohhnbdicdenaaGreatDoor.Ex
open Go.Proofs.YtgohhnbdicdenaaGreatDoor.Tr (str ret_bool ret_int Bytes Nd)
set_option linter.unusedVariables false
set_option linter.unusedSimpArgs false

set_option maxRecDepth 100000 in
set_option maxHeartbeats 2000000 in
theorem streams_any (b : Nat) (r : Rd) (w : World) (hr : GrAt w b r) : Calls Tryz.prog 111 #[.pointer (some ⟨b, 0, none⟩)] w (RowG 46 2 PrmV w b (streamsP r)) := by
  have HR := Lib.hid hr
  have hlt := hr.lt
  have hmf : ∀ (fn : Fn) (first cap : Array Value) (w : World), (Instr.makeFunc fn first cap).run Tryz.prog w = .ok (.func fn first cap) w := fun _ _ _ _ => rfl
  have HC := Lib.hid (atName_any b r w hr)
  obtain ⟨B, hB⟩ : ∃ B, atNameB r = B := ⟨_, rfl⟩
  have HB := Lib.hid hB
  rw [hB] at HC
  clear hB hr
  cases B with
  | true =>
    have HE : Hid (rowP atNameB streamP r = streamsP r) := Lib.hid (by unfold streamsP; rw [if_pos HB.out])
    have HC1 : Hid (∀ w', GrAt w' b r → Calls Tryz.prog 124 #[.pointer (some ⟨b, 0, none⟩), .func (.func 96) #[.pointer (some ⟨b, 0, none⟩)] #[], .func (.func 125) #[.pointer (some ⟨b, 0, none⟩)] #[]] w' (RowG 46 2 PrmV w' b (streamsP r))) := Lib.hid (fun w' h => by rw [← HE.out]; exact rowS_any b r w' h)
    clear HE
    go_enter Tryz.func111, Tryz.ntmps111
    go_wp2_with fail
    refine HC.out.mono ?_
    rintro e w1 ⟨rfl, hb1⟩
    have HB1 := Lib.hid hb1
    clear hb1
    go_wp2_with fail
    refine (HC1.out _ (HR.out.below HB1.out)).mono ?_
    rintro e w2 ⟨lv, rfl, hl2, hg2⟩
    obtain ⟨A1, n1, c1, rfl, u1, u2⟩ := row_form hl2
    have HL2 := Lib.hid hl2
    have HG2 := Lib.hid (GrTo.below HB1.out hlt hg2)
    clear hl2 hg2
    go_wp2
    go_ret
    exact ⟨_, rfl, HL2.out, HG2.out⟩
  | false =>
    have HE : Hid (rowP atNameB streamP (r.fail 5) = streamsP r) := Lib.hid (by unfold streamsP; rw [if_neg (by rw [HB.out]; decide)])
    have HC1 : Hid (∀ w', GrAt w' b (r.fail 5) → Calls Tryz.prog 124 #[.pointer (some ⟨b, 0, none⟩), .func (.func 96) #[.pointer (some ⟨b, 0, none⟩)] #[], .func (.func 125) #[.pointer (some ⟨b, 0, none⟩)] #[]] w' (RowG 46 2 PrmV w' b (streamsP r))) := Lib.hid (fun w' h => by rw [← HE.out]; exact rowS_any b _ w' h)
    clear HE
    go_enter Tryz.func111, Tryz.ntmps111
    go_wp2_with fail
    refine HC.out.mono ?_
    rintro e w1 ⟨rfl, hb1⟩
    have HB1 := Lib.hid hb1
    clear hb1
    go_wp2_with fail
    refine (fail_any b r 5 _ (HR.out.below HB1.out)).mono ?_
    rintro e w3 ⟨rfl, hg3⟩
    have HG3 := Lib.hid (GrTo.below HB1.out hlt hg3)
    clear hg3
    go_wp2_with fail
    refine (HC1.out _ HG3.out.rd).mono ?_
    rintro e w2 ⟨lv, rfl, hl2, hg2⟩
    obtain ⟨A1, n1, c1, rfl, u1, u2⟩ := row_form hl2
    have HL2 := Lib.hid hl2
    have HG2 := Lib.hid (HG3.out.trans hg2)
    clear hl2 hg2
    go_wp2
    go_ret
    exact ⟨_, rfl, HL2.out, HG2.out⟩
end Go.Proofs.YtgohhnbdicdenaaGreatDoor.Pg

/- Contracts of layer prog's reader: a row of equations. Conditions: a reader lies in memory. -/
namespace Go.Proofs.YtgohhnbdicdenaaGreatDoor.Pg
open Go.ChangeShapes Go.WideShapes Go.ChangeAt Go.RowKit
open Go.Proofs.YtgohhnbdicdenaaGreatDoor.Ex
open Go.Proofs.YtgohhnbdicdenaaGreatDoor.Tr (str ret_bool ret_int Bytes Nd)
set_option linter.unusedVariables false
set_option linter.unusedSimpArgs false

theorem info78_112 : (Tryz.prog.info? 78).map (fun i => (i.zero, i.size, i.bytes)) = some (some (.agg #[.string ⟨#[]⟩, .slice none 0 0]), 2, 40) := by kernel_rfl
set_option maxRecDepth 100000 in
set_option maxHeartbeats 4000000 in
theorem rowQ_any (b : Nat) (r : Rd) (w : World) (hr : GrAt w b r) :
    Calls Tryz.prog 112 #[.pointer (some ⟨b, 0, none⟩), .func (.func 96) #[.pointer (some ⟨b, 0, none⟩)] #[], .func (.func 113) #[.pointer (some ⟨b, 0, none⟩)] #[]] w (RowG 78 2 EqnV w b (rowP atNameB eqnP r)) := by
  have HR := Lib.hid hr
  have hlt := hr.lt
  obtain ⟨i0, hi, hz0, hz1, hz2⟩ := info_parts info78_112
  obtain ⟨X, hX⟩ : ∃ X, rowP atNameB eqnP r = X := ⟨_, rfl⟩
  have HX : Hid (rowF atNameB eqnP rowMax [] r = X) := Lib.hid hX
  rw [hX]
  clear hX hr
  go_enter Tryz.func112, Tryz.ntmps112
  go_wp2
  go_loopg [7] rowMax (fun g s7 wr => ∃ (rr : Rd) (ov : Value) (acc : List (Eqn)) (xs : List (List Value)), ov = s7 ∧ acc.length ≤ 200 ∧ 202 ≤ acc.length + g ∧ OList 78 2 EqnV wr w.heap.size ov acc xs ∧ GrTo w wr b rr ∧ rowF atNameB eqnP g acc rr = X)
  case atStart => exact ⟨r, _, [], [], rfl, by simp, by simp [rowMax], OList.nil _ _, GrTo.refl HR.out, HX.out⟩
  case round =>
    obtain ⟨rr, ov, acc, xs, hov, ha, hag, hol, hgr, hrow⟩ := hrel
    subst hov
    have HOL := Lib.hid hol
    have HGR := Lib.hid hgr
    have HROW := Lib.hid hrow
    obtain ⟨A0, c0, hv0, hn1, hn2⟩ := own_form hol.own
    subst hv0
    clear hol hgr hrow
    cases gk with
    | zero => omega
    | succ gk =>
    have HB := Lib.hid (atName_any b rr wr HGR.out.rd)
    obtain ⟨B, hB⟩ : ∃ B, atNameB rr = B := ⟨_, rfl⟩
    rw [hB] at HB
    have HBE := Lib.hid hB
    clear hB
    cases B with
    | false =>
      have HE : Hid ((acc, rr) = X) := Lib.hid ((rowF_stop HBE.out).symm.trans HROW.out)
      go_wp2_with fail
      refine HB.out.mono ?_
      rintro e w1 ⟨rfl, hb1⟩
      have HB1 := Lib.hid hb1
      have HOL1 := Lib.hid (HOL.out.stay (Stay.below (P := fun t => t = 74) hb1) (by decide) (fun a x hx => EqnV.stay (Stay.below (P := fun t => t = 74) HB1.out) (by decide) a x hx))
      clear hb1
      go_wp2
      go_ret
      exact RowG.of HE.out HOL1.out.row (HGR.out.then_below HB1.out)
    | true =>
    by_cases h200 : acc.length = 200
    · have HE : Hid (([], rr.fail 7) = X) := Lib.hid ((rowF_many HBE.out h200).symm.trans HROW.out)
      have hd : ((acc.length : Int) == 200) = true := by rw [beq_iff_eq]; omega
      clear h200
      go_wp2_with fail
      refine HB.out.mono ?_
      rintro e w1 ⟨rfl, hb1⟩
      have HB1 := Lib.hid hb1
      clear hb1
      go_wp2_with fail
      refine (fail_any b rr 7 _ (HGR.out.rd.below HB1.out)).mono ?_
      rintro e w2 ⟨rfl, hg2⟩
      have HG2 := Lib.hid hg2
      clear hg2
      go_wp2
      go_ret
      exact RowG.of HE.out (RowR.nil _ _ _ _) ((HGR.out.then_below HB1.out).trans HG2.out)
    have hd : ((acc.length : Int) == 200) = false := by rw [beq_eq_false_iff_ne]; omega
    obtain ⟨⟨a, r2⟩, hone⟩ : ∃ x, eqnP rr = x := ⟨_, rfl⟩
    have HE : Hid (rowF atNameB eqnP gk (acc ++ [a]) r2 = X) := Lib.hid ((rowF_step HBE.out h200 hone).symm.trans HROW.out)
    have HO : Hid (∀ w', GrAt w' b rr → Calls Tryz.prog 113 #[.pointer (some ⟨b, 0, none⟩)] w' (EqnG w' b (a, r2))) := Lib.hid (fun w' h => by rw [← hone]; exact equation_any b rr w' h)
    have ha2 : acc.length < 200 := by omega
    clear h200 hone
    go_wp2_with fail
    refine HB.out.mono ?_
    rintro e w1 ⟨rfl, hb1⟩
    have HB1 := Lib.hid hb1
    clear hb1
    go_wp2_with fail
    refine (HO.out w1 (HGR.out.rd.below HB1.out)).mono ?_
    rintro e w2 ⟨ev, rfl, hp, hg2⟩
    have HG2 := Lib.hid hg2
    have hs2 := hg2.grown.size
    have hs1 := HB1.out.size
    have hs0 := HGR.out.grown.size
    have HOL2 := Lib.hid ((HOL.out.stay (Stay.below (P := fun t => t = 74) HB1.out) (by decide) (fun a x hx => EqnV.stay (Stay.below (P := fun t => t = 74) HB1.out) (by decide) a x hx)).stay (GrTo.stay (HGR.out.rd.below HB1.out) hg2) (by decide) (fun a x hx => EqnV.stay (GrTo.stay (HGR.out.rd.below HB1.out) HG2.out) (by decide) a x hx))
    clear hg2
    obtain ⟨A2, n2, c2, rfl, y1, y2⟩ := pt_form hp
    have HXV : Hid (EqnV w2 a [.string (str a.name), .slice A2 n2 c2]) := Lib.hid ⟨_, rfl, hp⟩
    clear hp
    go_wp2_with (at_builtin; refine wpList_append_own _ rfl (.tmp 15) (.tmp 18) 47 rfl w.heap.size 78 i0 _ 2 40 Tryz.underlying47 hi hz0 hz1 hz2 rfl (by decide) _ acc.length xs.flatten rfl (HOL2.out.own.alloc _) ⟨w2.heap.size, 0, none⟩ 1 1 [.string (str a.name), .slice A2 n2 c2] rfl rfl ?a1 ?b1 ?c1 ?d1 ?e1 ?_)
    case a1 => first | exact (fun j u h => h) | exact news_new _ #[.string (str a.name), .slice A2 n2 c2] _ [.string (str a.name), .slice A2 n2 c2] rfl rfl
    case b1 => simp [Value.oneCell']
    case c1 => unfold maxLen; omega
    case d1 => omega
    case e1 => simp; omega
    intro v3 w3 hown3 hg3 _
    have HOL3 := Lib.hid (HOL2.out.snoc HXV.out rfl (below_new w2 _) hown3 hg3 (fun st => EqnV.stay st (by decide)))
    have HGR3 := Lib.hid (GrTo.row ((HGR.out.then_below HB1.out).trans HG2.out) hlt (below_new w2 _) hg3 (fun g hg => (HOL2.out.own.lt g hg).1))
    obtain ⟨A3, c3, hv3, y3, y4⟩ := own_form hown3
    subst hv3
    clear hown3 hg3
    go_wp2
    go_roundg gk
    case measure => omega
    case rel => exact ⟨r2, _, acc ++ [a], xs ++ [[.string (str a.name), .slice A2 n2 c2]], rfl, by simp; omega, by simp; omega, HOL3.out, HGR3.out, HE.out⟩
end Go.Proofs.YtgohhnbdicdenaaGreatDoor.Pg

/- Contracts of layer prog's reader: a node. Conditions: a reader lies in memory. -/
namespace Go.Proofs.YtgohhnbdicdenaaGreatDoor.Pg
open Go.ChangeShapes Go.WideShapes Go.ChangeAt Go.RowKit
open Go.Proofs.YtgohhnbdicdenaaGreatDoor.Ex
open Go.Proofs.YtgohhnbdicdenaaGreatDoor.Tr (str ret_bool ret_int Bytes Nd)
set_option linter.unusedVariables false
set_option linter.unusedSimpArgs false

set_option maxRecDepth 100000 in
set_option maxHeartbeats 8000000 in
theorem node_00 (b : Nat) (r : Rd) (w : World) (hr : GrAt w b r) (n : Bytes) (i : List Prm) (on : Bytes) (ot : Int) (l : List Itm) (vs : List Prm) (q : List Eqn) (r1 r2 r3 r4 r5 r6 r7 r8 r9 r10 r11 r12 r13 : Rd) (X : Unt × Rd) (h1 : nameP r = (n, r1)) (h2 : encP sSemi paramP r1 = (i, r2)) (h3 : (needP wReturns r2).2 = r3) (h4 : (needP [40] r3).2 = r4) (h5 : paramP r4 = (⟨on, ot⟩, r5)) (h6 : (needP [41] r5).2 = r6) (h7 : takeP wContract r6 = (false, r7)) (h8 : (if false then itemsP else pPure []) r7 = (l, r8)) (h9 : takeP wVar r8 = (false, r9)) (h10 : (if false then streamsP else pPure []) r9 = (vs, r10)) (h11 : (needP wLet r10).2 = r11) (h12 : rowP atNameB eqnP r11 = (q, r12)) (h13 : (needP wTel r12).2 = r13) (he : ((⟨false, n, i, ⟨on, ot⟩, vs, q, l⟩ : Unt), r13) = X) : Calls Tryz.prog 95 #[.pointer (some ⟨b, 0, none⟩)] w (UntG w b X) := by
  have HR := Lib.hid hr
  have hlt := hr.lt
  have hmf : ∀ (fn : Fn) (first cap : Array Value) (w : World), (Instr.makeFunc fn first cap).run Tryz.prog w = .ok (.func fn first cap) w := fun _ _ _ _ => rfl
  have HE := Lib.hid he
  have H1 := Lib.hid h1
  have H3 := Lib.hid h3
  have H4 := Lib.hid h4
  have H6 := Lib.hid h6
  have H7 := Lib.hid h7
  have H9 := Lib.hid h9
  have H11 := Lib.hid h11
  have H13 := Lib.hid h13
  have HC2 : Hid (∀ w', GrAt w' b r1 → Calls Tryz.prog 108 #[.pointer (some ⟨b, 0, none⟩), .string ⟨#[59]⟩, .func (.func 109) #[.pointer (some ⟨b, 0, none⟩)] #[]] w' (RowG 46 2 PrmV w' b (i, r2))) := Lib.hid (fun w' h => by rw [← h2]; exact encS_any b r1 w' h)
  have HC5 : Hid (∀ w', GrAt w' b r4 → Calls Tryz.prog 109 #[.pointer (some ⟨b, 0, none⟩)] w' (PrmG w' b (⟨on, ot⟩, r5))) := Lib.hid (fun w' h => by rw [← h5]; exact param_any b r4 w' h)
  have HC12 : Hid (∀ w', GrAt w' b r11 → Calls Tryz.prog 112 #[.pointer (some ⟨b, 0, none⟩), .func (.func 96) #[.pointer (some ⟨b, 0, none⟩)] #[], .func (.func 113) #[.pointer (some ⟨b, 0, none⟩)] #[]] w' (RowG 78 2 EqnV w' b (q, r12))) := Lib.hid (fun w' h => by rw [← h12]; exact rowQ_any b r11 w' h)
  obtain ⟨rfl, rfl⟩ : l = [] ∧ r8 = r7 := by
    have z : (([] : List Itm), r7) = (l, r8) := h8
    injection z with z1 z2; exact ⟨z1.symm, z2.symm⟩
  obtain ⟨rfl, rfl⟩ : vs = [] ∧ r10 = r9 := by
    have z : (([] : List Prm), r9) = (vs, r10) := h10
    injection z with z1 z2; exact ⟨z1.symm, z2.symm⟩
  clear h1 h2 h3 h4 h5 h6 h7 h8 h9 h10 h11 h12 h13 he hr
  have hX0 := Lib.hid (heap_alloc_new w (.cells #[.bool false, .string ⟨#[]⟩, .slice none 0 0, .string ⟨#[]⟩, .int .i64 0, .slice none 0 0, .slice none 0 0, .slice none 0 0] 50))
  go_enter Tryz.func95, Tryz.ntmps95
  go_wp2_with fail
  refine (name_lit (HR.out.below (below_new w _)) H1.out).mono ?_
  rintro e w1 ⟨rfl, hg1⟩
  have HG1 := Lib.hid (GrTo.below (below_new w _) hlt hg1)
  have x1 := hg1.block hX0.out (by omega)
  have hs1 := hg1.grown.size
  simp at hs1
  have X1 := Lib.hid x1
  clear hg1 x1
  have HG1a := Lib.hid (HG1.out.then_below (below_new w1 (.cells #[.bool false, .string (str n), .slice none 0 0, .string ⟨#[]⟩, .int .i64 0, .slice none 0 0, .slice none 0 0, .slice none 0 0] 50)))
  have X1a := Lib.hid (((below_new w1 (.cells #[.bool false, .string (str n), .slice none 0 0, .string ⟨#[]⟩, .int .i64 0, .slice none 0 0, .slice none 0 0, .slice none 0 0] 50)).block _ (lt_of_block X1.out)).trans X1.out)
  have Y1a := Lib.hid (heap_alloc_new w1 (.cells #[.bool false, .string (str n), .slice none 0 0, .string ⟨#[]⟩, .int .i64 0, .slice none 0 0, .slice none 0 0, .slice none 0 0] 50))
  have hne : w.heap.size ≠ w1.heap.size := by omega
  go_wp2_with fail
  refine (HC2.out _ HG1a.out.rd).mono ?_
  rintro e w2 ⟨iv, rfl, hi2, hg2⟩
  have HG2 := Lib.hid (HG1a.out.trans hg2)
  have x2 := hg2.block X1a.out (by omega)
  have y2 := hg2.block Y1a.out (by omega)
  have X2 := Lib.hid x2
  have Y2 := Lib.hid y2
  have lx2 := lt_of_block x2
  have ly2 := lt_of_block y2
  obtain ⟨A1, n1, c1, rfl, u1, u2⟩ := row_form hi2
  have F1_2 := Lib.hid hi2
  clear hg2 x2 y2 hi2
  have q2_2 : w2.cell? ⟨w1.heap.size, 2, none⟩ = some (.slice none 0 0) := (cell_at Y2.out 2).trans rfl
  have k2_2 : w2.frozen? ⟨w1.heap.size, 2, none⟩ = false := free_at Y2.out 2
  have Y2a : Hid ((w2.setCell ⟨w1.heap.size, 2, none⟩ (.slice A1 n1 c1)).heap[w1.heap.size]? = some (.cells #[.bool false, .string (str n), .slice A1 n1 c1, .string ⟨#[]⟩, .int .i64 0, .slice none 0 0, .slice none 0 0, .slice none 0 0] 50 (0, 0))) := Lib.hid (by have z := setObj_heap (v := .slice A1 n1 c1) Y2.out (k := 2) (by simp); simpa using z)
  have X2a := Lib.hid (set_other (k := 2) (v := .slice A1 n1 c1) X2.out hne)
  have HG2a := Lib.hid (HG2.out.setLocal (k := 2) (B := w1.heap.size) (by omega) hlt (.slice A1 n1 c1))
  have F1_2a := Lib.hid (F1_2.out.stay (Stay.set (P := fun t => t = 50) (k := 2) Y2.out rfl (.slice A1 n1 c1)) (by decide) (fun a x hx => PrmV.stay (Stay.set (P := fun t => t = 50) (k := 2) Y2.out rfl (.slice A1 n1 c1)) a x hx))
  go_wp2_with fail
  refine (need_lit (s := wReturns) rfl HG2a.out.rd (by decide) H3.out).mono ?_
  rintro e w3 ⟨rfl, hg3⟩
  have HG3 := Lib.hid (HG2a.out.trans hg3)
  have x3 := hg3.block X2a.out (by omega)
  have y3 := hg3.block Y2a.out (by omega)
  have X3 := Lib.hid x3
  have Y3 := Lib.hid y3
  have lx3 := lt_of_block x3
  have ly3 := lt_of_block y3
  have F1_3 := Lib.hid (F1_2a.out.stay ((GrTo.stay HG2a.out.rd hg3)) (by decide) (fun a x hx => PrmV.stay (GrTo.stay HG2a.out.rd hg3) a x hx))
  clear hg3 x3 y3 
  clear q2_2 k2_2
  go_wp2_with fail
  refine (need_lit (s := [40]) rfl HG3.out.rd (by decide) H4.out).mono ?_
  rintro e w4 ⟨rfl, hg4⟩
  have HG4 := Lib.hid (HG3.out.trans hg4)
  have x4 := hg4.block X3.out (by omega)
  have y4 := hg4.block Y3.out (by omega)
  have X4 := Lib.hid x4
  have Y4 := Lib.hid y4
  have lx4 := lt_of_block x4
  have ly4 := lt_of_block y4
  have F1_4 := Lib.hid (F1_3.out.stay ((GrTo.stay HG3.out.rd hg4)) (by decide) (fun a x hx => PrmV.stay (GrTo.stay HG3.out.rd hg4) a x hx))
  clear hg4 x4 y4 
  go_wp2_with fail
  refine (HC5.out _ HG4.out.rd).mono ?_
  rintro e w5 ⟨rfl, hg5⟩
  have HG5 := Lib.hid (HG4.out.trans hg5)
  have x5 := hg5.block X4.out (by omega)
  have y5 := hg5.block Y4.out (by omega)
  have X5 := Lib.hid x5
  have Y5 := Lib.hid y5
  have lx5 := lt_of_block x5
  have ly5 := lt_of_block y5
  have F1_5 := Lib.hid (F1_4.out.stay ((GrTo.stay HG4.out.rd hg5)) (by decide) (fun a x hx => PrmV.stay (GrTo.stay HG4.out.rd hg5) a x hx))
  clear hg5 x5 y5 
  have q5_3 : w5.cell? ⟨w1.heap.size, 3, none⟩ = some (.string ⟨#[]⟩) := (cell_at Y5.out 3).trans rfl
  have k5_3 : w5.frozen? ⟨w1.heap.size, 3, none⟩ = false := free_at Y5.out 3
  have q5_4 : w5.cell? ⟨w1.heap.size, 4, none⟩ = some (.int .i64 0) := (cell_at Y5.out 4).trans rfl
  have k5_4 : w5.frozen? ⟨w1.heap.size, 4, none⟩ = false := free_at Y5.out 4
  have Y5a : Hid ((w5.setCell ⟨w1.heap.size, 3, none⟩ (.string (str on))).heap[w1.heap.size]? = some (.cells #[.bool false, .string (str n), .slice A1 n1 c1, .string (str on), .int .i64 0, .slice none 0 0, .slice none 0 0, .slice none 0 0] 50 (0, 0))) := Lib.hid (by have z := setObj_heap (v := .string (str on)) Y5.out (k := 3) (by simp); simpa using z)
  have X5a := Lib.hid (set_other (k := 3) (v := .string (str on)) X5.out hne)
  have HG5a := Lib.hid (HG5.out.setLocal (k := 3) (B := w1.heap.size) (by omega) hlt (.string (str on)))
  have F1_5a := Lib.hid (F1_5.out.stay (Stay.set (P := fun t => t = 50) (k := 3) Y5.out rfl (.string (str on))) (by decide) (fun a x hx => PrmV.stay (Stay.set (P := fun t => t = 50) (k := 3) Y5.out rfl (.string (str on))) a x hx))
  have Y5b : Hid (((w5.setCell ⟨w1.heap.size, 3, none⟩ (.string (str on))).setCell ⟨w1.heap.size, 4, none⟩ (.int .i64 ot)).heap[w1.heap.size]? = some (.cells #[.bool false, .string (str n), .slice A1 n1 c1, .string (str on), .int .i64 ot, .slice none 0 0, .slice none 0 0, .slice none 0 0] 50 (0, 0))) := Lib.hid (by have z := setObj_heap (v := .int .i64 ot) Y5a.out (k := 4) (by simp); simpa using z)
  have X5b := Lib.hid (set_other (k := 4) (v := .int .i64 ot) X5a.out hne)
  have HG5b := Lib.hid (HG5a.out.setLocal (k := 4) (B := w1.heap.size) (by omega) hlt (.int .i64 ot))
  have F1_5b := Lib.hid (F1_5a.out.stay (Stay.set (P := fun t => t = 50) (k := 4) Y5a.out rfl (.int .i64 ot)) (by decide) (fun a x hx => PrmV.stay (Stay.set (P := fun t => t = 50) (k := 4) Y5a.out rfl (.int .i64 ot)) a x hx))
  go_wp2_with fail
  refine (need_lit (s := [41]) rfl HG5b.out.rd (by decide) H6.out).mono ?_
  rintro e w6 ⟨rfl, hg6⟩
  have HG6 := Lib.hid (HG5b.out.trans hg6)
  have x6 := hg6.block X5b.out (by omega)
  have y6 := hg6.block Y5b.out (by omega)
  have X6 := Lib.hid x6
  have Y6 := Lib.hid y6
  have lx6 := lt_of_block x6
  have ly6 := lt_of_block y6
  have F1_6 := Lib.hid (F1_5b.out.stay ((GrTo.stay HG5b.out.rd hg6)) (by decide) (fun a x hx => PrmV.stay (GrTo.stay HG5b.out.rd hg6) a x hx))
  clear hg6 x6 y6 
  clear q5_3 k5_3 q5_4 k5_4
  go_wp2_with fail
  refine (take_lit (s := wContract) rfl HG6.out.rd (by decide) H7.out).mono ?_
  rintro e w7 ⟨rfl, hg7⟩
  have HG7 := Lib.hid (HG6.out.trans hg7)
  have x7 := hg7.block X6.out (by omega)
  have y7 := hg7.block Y6.out (by omega)
  have X7 := Lib.hid x7
  have Y7 := Lib.hid y7
  have lx7 := lt_of_block x7
  have ly7 := lt_of_block y7
  have F1_7 := Lib.hid (F1_6.out.stay ((GrTo.stay HG6.out.rd hg7)) (by decide) (fun a x hx => PrmV.stay (GrTo.stay HG6.out.rd hg7) a x hx))
  clear hg7 x7 y7 
  go_wp2_with fail
  refine (take_lit (s := wVar) rfl HG7.out.rd (by decide) H9.out).mono ?_
  rintro e w8 ⟨rfl, hg8⟩
  have HG8 := Lib.hid (HG7.out.trans hg8)
  have x8 := hg8.block X7.out (by omega)
  have y8 := hg8.block Y7.out (by omega)
  have X8 := Lib.hid x8
  have Y8 := Lib.hid y8
  have lx8 := lt_of_block x8
  have ly8 := lt_of_block y8
  have F1_8 := Lib.hid (F1_7.out.stay ((GrTo.stay HG7.out.rd hg8)) (by decide) (fun a x hx => PrmV.stay (GrTo.stay HG7.out.rd hg8) a x hx))
  clear hg8 x8 y8 
  go_wp2_with fail
  refine (need_lit (s := wLet) rfl HG8.out.rd (by decide) H11.out).mono ?_
  rintro e w9 ⟨rfl, hg9⟩
  have HG9 := Lib.hid (HG8.out.trans hg9)
  have x9 := hg9.block X8.out (by omega)
  have y9 := hg9.block Y8.out (by omega)
  have X9 := Lib.hid x9
  have Y9 := Lib.hid y9
  have lx9 := lt_of_block x9
  have ly9 := lt_of_block y9
  have F1_9 := Lib.hid (F1_8.out.stay ((GrTo.stay HG8.out.rd hg9)) (by decide) (fun a x hx => PrmV.stay (GrTo.stay HG8.out.rd hg9) a x hx))
  clear hg9 x9 y9 
  go_wp2_with fail
  refine (HC12.out _ HG9.out.rd).mono ?_
  rintro e w10 ⟨qv, rfl, hq10, hg10⟩
  have HG10 := Lib.hid (HG9.out.trans hg10)
  have x10 := hg10.block X9.out (by omega)
  have y10 := hg10.block Y9.out (by omega)
  have X10 := Lib.hid x10
  have Y10 := Lib.hid y10
  have lx10 := lt_of_block x10
  have ly10 := lt_of_block y10
  have F1_10 := Lib.hid (F1_9.out.stay ((GrTo.stay HG9.out.rd hg10)) (by decide) (fun a x hx => PrmV.stay (GrTo.stay HG9.out.rd hg10) a x hx))
  obtain ⟨A4, n4, c4, rfl, u7, u8⟩ := row_form hq10
  have F4_10 := Lib.hid hq10
  clear hg10 x10 y10 hq10
  have q10_6 : w10.cell? ⟨w1.heap.size, 6, none⟩ = some (.slice none 0 0) := (cell_at Y10.out 6).trans rfl
  have k10_6 : w10.frozen? ⟨w1.heap.size, 6, none⟩ = false := free_at Y10.out 6
  have Y10a : Hid ((w10.setCell ⟨w1.heap.size, 6, none⟩ (.slice A4 n4 c4)).heap[w1.heap.size]? = some (.cells #[.bool false, .string (str n), .slice A1 n1 c1, .string (str on), .int .i64 ot, .slice none 0 0, .slice A4 n4 c4, .slice none 0 0] 50 (0, 0))) := Lib.hid (by have z := setObj_heap (v := .slice A4 n4 c4) Y10.out (k := 6) (by simp); simpa using z)
  have X10a := Lib.hid (set_other (k := 6) (v := .slice A4 n4 c4) X10.out hne)
  have HG10a := Lib.hid (HG10.out.setLocal (k := 6) (B := w1.heap.size) (by omega) hlt (.slice A4 n4 c4))
  have F1_10a := Lib.hid (F1_10.out.stay (Stay.set (P := fun t => t = 50) (k := 6) Y10.out rfl (.slice A4 n4 c4)) (by decide) (fun a x hx => PrmV.stay (Stay.set (P := fun t => t = 50) (k := 6) Y10.out rfl (.slice A4 n4 c4)) a x hx))
  have F4_10a := Lib.hid (F4_10.out.stay (Stay.set (P := fun t => t = 50) (k := 6) Y10.out rfl (.slice A4 n4 c4)) (by decide) (fun a x hx => EqnV.stay (Stay.set (P := fun t => t = 50) (k := 6) Y10.out rfl (.slice A4 n4 c4)) (by decide) a x hx))
  go_wp2_with fail
  refine (need_lit (s := wTel) rfl HG10a.out.rd (by decide) H13.out).mono ?_
  rintro e w11 ⟨rfl, hg11⟩
  have HG11 := Lib.hid (HG10a.out.trans hg11)
  have x11 := hg11.block X10a.out (by omega)
  have y11 := hg11.block Y10a.out (by omega)
  have X11 := Lib.hid x11
  have Y11 := Lib.hid y11
  have lx11 := lt_of_block x11
  have ly11 := lt_of_block y11
  have F1_11 := Lib.hid (F1_10a.out.stay ((GrTo.stay HG10a.out.rd hg11)) (by decide) (fun a x hx => PrmV.stay (GrTo.stay HG10a.out.rd hg11) a x hx))
  have F4_11 := Lib.hid (F4_10a.out.stay ((GrTo.stay HG10a.out.rd hg11)) (by decide) (fun a x hx => EqnV.stay (GrTo.stay HG10a.out.rd hg11) (by decide) a x hx))
  clear hg11 x11 y11 
  clear q10_6 k10_6
  have p0 : w11.cell? ⟨w.heap.size, 0, none⟩ = some (.bool false) := (cell_at X11.out 0).trans rfl
  have g0 : w11.frozen? ⟨w.heap.size, 0, none⟩ = false := free_at X11.out 0
  have q0 : w11.cell? ⟨w1.heap.size, 0, none⟩ = some (.bool false) := (cell_at Y11.out 0).trans rfl
  have p1 : w11.cell? ⟨w.heap.size, 1, none⟩ = some (.string ⟨#[]⟩) := (cell_at X11.out 1).trans rfl
  have g1 : w11.frozen? ⟨w.heap.size, 1, none⟩ = false := free_at X11.out 1
  have q1 : w11.cell? ⟨w1.heap.size, 1, none⟩ = some (.string (str n)) := (cell_at Y11.out 1).trans rfl
  have p2 : w11.cell? ⟨w.heap.size, 2, none⟩ = some (.slice none 0 0) := (cell_at X11.out 2).trans rfl
  have g2 : w11.frozen? ⟨w.heap.size, 2, none⟩ = false := free_at X11.out 2
  have q2 : w11.cell? ⟨w1.heap.size, 2, none⟩ = some (.slice A1 n1 c1) := (cell_at Y11.out 2).trans rfl
  have p3 : w11.cell? ⟨w.heap.size, 3, none⟩ = some (.string ⟨#[]⟩) := (cell_at X11.out 3).trans rfl
  have g3 : w11.frozen? ⟨w.heap.size, 3, none⟩ = false := free_at X11.out 3
  have q3 : w11.cell? ⟨w1.heap.size, 3, none⟩ = some (.string (str on)) := (cell_at Y11.out 3).trans rfl
  have p4 : w11.cell? ⟨w.heap.size, 4, none⟩ = some (.int .i64 0) := (cell_at X11.out 4).trans rfl
  have g4 : w11.frozen? ⟨w.heap.size, 4, none⟩ = false := free_at X11.out 4
  have q4 : w11.cell? ⟨w1.heap.size, 4, none⟩ = some (.int .i64 ot) := (cell_at Y11.out 4).trans rfl
  have p5 : w11.cell? ⟨w.heap.size, 5, none⟩ = some (.slice none 0 0) := (cell_at X11.out 5).trans rfl
  have g5 : w11.frozen? ⟨w.heap.size, 5, none⟩ = false := free_at X11.out 5
  have q5 : w11.cell? ⟨w1.heap.size, 5, none⟩ = some (.slice none 0 0) := (cell_at Y11.out 5).trans rfl
  have p6 : w11.cell? ⟨w.heap.size, 6, none⟩ = some (.slice none 0 0) := (cell_at X11.out 6).trans rfl
  have g6 : w11.frozen? ⟨w.heap.size, 6, none⟩ = false := free_at X11.out 6
  have q6 : w11.cell? ⟨w1.heap.size, 6, none⟩ = some (.slice A4 n4 c4) := (cell_at Y11.out 6).trans rfl
  have p7 : w11.cell? ⟨w.heap.size, 7, none⟩ = some (.slice none 0 0) := (cell_at X11.out 7).trans rfl
  have g7 : w11.frozen? ⟨w.heap.size, 7, none⟩ = false := free_at X11.out 7
  have q7 : w11.cell? ⟨w1.heap.size, 7, none⟩ = some (.slice none 0 0) := (cell_at Y11.out 7).trans rfl
  go_wp2
  have Z := blk8 X11.out (.bool false) (.string (str n)) (.slice A1 n1 c1) (.string (str on)) (.int .i64 ot) (.slice none 0 0) (.slice A4 n4 c4) (.slice none 0 0)
  have hsz : w11.heap.size ≤ ((((((((w11.setCell ⟨w.heap.size, 0, none⟩ (.bool false)).setCell ⟨w.heap.size, 1, none⟩ (.string (str n))).setCell ⟨w.heap.size, 2, none⟩ (.slice A1 n1 c1)).setCell ⟨w.heap.size, 3, none⟩ (.string (str on))).setCell ⟨w.heap.size, 4, none⟩ (.int .i64 ot)).setCell ⟨w.heap.size, 5, none⟩ (.slice none 0 0)).setCell ⟨w.heap.size, 6, none⟩ (.slice A4 n4 c4)).setCell ⟨w.heap.size, 7, none⟩ (.slice none 0 0)).heap.size := by simp [World.setCell]
  have hst : Stay (fun t => t = 50) w11 ((((((((w11.setCell ⟨w.heap.size, 0, none⟩ (.bool false)).setCell ⟨w.heap.size, 1, none⟩ (.string (str n))).setCell ⟨w.heap.size, 2, none⟩ (.slice A1 n1 c1)).setCell ⟨w.heap.size, 3, none⟩ (.string (str on))).setCell ⟨w.heap.size, 4, none⟩ (.int .i64 ot)).setCell ⟨w.heap.size, 5, none⟩ (.slice none 0 0)).setCell ⟨w.heap.size, 6, none⟩ (.slice A4 n4 c4)).setCell ⟨w.heap.size, 7, none⟩ (.slice none 0 0)) := Stay.sets X11.out rfl hsz (fun g hg => by simp only [set_ne hg])
  have z0 := (cell_at Z 0).trans (show _ = some (.bool false) from rfl)
  have z1 := (cell_at Z 1).trans (show _ = some (.string (str n)) from rfl)
  have z2 := (cell_at Z 2).trans (show _ = some (.slice A1 n1 c1) from rfl)
  have z3 := (cell_at Z 3).trans (show _ = some (.string (str on)) from rfl)
  have z4 := (cell_at Z 4).trans (show _ = some (.int .i64 ot) from rfl)
  have z5 := (cell_at Z 5).trans (show _ = some (.slice none 0 0) from rfl)
  have z6 := (cell_at Z 6).trans (show _ = some (.slice A4 n4 c4) from rfl)
  have z7 := (cell_at Z 7).trans (show _ = some (.slice none 0 0) from rfl)
  clear p0 g0 q0 p1 g1 q1 p2 g2 q2 p3 g3 q3 p4 g4 q4 p5 g5 q5 p6 g6 q6 p7 g7 q7
  exact bodyPost_ret (v := .agg #[.bool false, .string (str n), .slice A1 n1 c1, .string (str on), .int .i64 ot, .slice none 0 0, .slice A4 n4 c4, .slice none 0 0]) (by simp [results, Tryz.results95, go_sem, z0, z1, z2, z3, z4, z5, z6, z7]) rfl (UntG.of HE.out (F1_11.out.stay hst (by decide) (fun a x hx => PrmV.stay hst a x hx)) (RowR.nil _ _ _ _) (F4_11.out.stay hst (by decide) (fun a x hx => EqnV.stay hst (by decide) a x hx)) (RowR.nil _ _ _ _) ((((((((HG11.out.setLocal (by omega) hlt _).setLocal (by omega) hlt _).setLocal (by omega) hlt _).setLocal (by omega) hlt _).setLocal (by omega) hlt _).setLocal (by omega) hlt _).setLocal (by omega) hlt _).setLocal (by omega) hlt _))
end Go.Proofs.YtgohhnbdicdenaaGreatDoor.Pg

/- Contracts of layer prog's reader: a node. Conditions: a reader lies in memory. -/
namespace Go.Proofs.YtgohhnbdicdenaaGreatDoor.Pg
open Go.ChangeShapes Go.WideShapes Go.ChangeAt Go.RowKit
open Go.Proofs.YtgohhnbdicdenaaGreatDoor.Ex
open Go.Proofs.YtgohhnbdicdenaaGreatDoor.Tr (str ret_bool ret_int Bytes Nd)
set_option linter.unusedVariables false
set_option linter.unusedSimpArgs false

set_option maxRecDepth 100000 in
set_option maxHeartbeats 8000000 in
theorem node_01 (b : Nat) (r : Rd) (w : World) (hr : GrAt w b r) (n : Bytes) (i : List Prm) (on : Bytes) (ot : Int) (l : List Itm) (vs : List Prm) (q : List Eqn) (r1 r2 r3 r4 r5 r6 r7 r8 r9 r10 r11 r12 r13 : Rd) (X : Unt × Rd) (h1 : nameP r = (n, r1)) (h2 : encP sSemi paramP r1 = (i, r2)) (h3 : (needP wReturns r2).2 = r3) (h4 : (needP [40] r3).2 = r4) (h5 : paramP r4 = (⟨on, ot⟩, r5)) (h6 : (needP [41] r5).2 = r6) (h7 : takeP wContract r6 = (false, r7)) (h8 : (if false then itemsP else pPure []) r7 = (l, r8)) (h9 : takeP wVar r8 = (true, r9)) (h10 : (if true then streamsP else pPure []) r9 = (vs, r10)) (h11 : (needP wLet r10).2 = r11) (h12 : rowP atNameB eqnP r11 = (q, r12)) (h13 : (needP wTel r12).2 = r13) (he : ((⟨false, n, i, ⟨on, ot⟩, vs, q, l⟩ : Unt), r13) = X) : Calls Tryz.prog 95 #[.pointer (some ⟨b, 0, none⟩)] w (UntG w b X) := by
  have HR := Lib.hid hr
  have hlt := hr.lt
  have hmf : ∀ (fn : Fn) (first cap : Array Value) (w : World), (Instr.makeFunc fn first cap).run Tryz.prog w = .ok (.func fn first cap) w := fun _ _ _ _ => rfl
  have HE := Lib.hid he
  have H1 := Lib.hid h1
  have H3 := Lib.hid h3
  have H4 := Lib.hid h4
  have H6 := Lib.hid h6
  have H7 := Lib.hid h7
  have H9 := Lib.hid h9
  have H11 := Lib.hid h11
  have H13 := Lib.hid h13
  have HC2 : Hid (∀ w', GrAt w' b r1 → Calls Tryz.prog 108 #[.pointer (some ⟨b, 0, none⟩), .string ⟨#[59]⟩, .func (.func 109) #[.pointer (some ⟨b, 0, none⟩)] #[]] w' (RowG 46 2 PrmV w' b (i, r2))) := Lib.hid (fun w' h => by rw [← h2]; exact encS_any b r1 w' h)
  have HC5 : Hid (∀ w', GrAt w' b r4 → Calls Tryz.prog 109 #[.pointer (some ⟨b, 0, none⟩)] w' (PrmG w' b (⟨on, ot⟩, r5))) := Lib.hid (fun w' h => by rw [← h5]; exact param_any b r4 w' h)
  have HC12 : Hid (∀ w', GrAt w' b r11 → Calls Tryz.prog 112 #[.pointer (some ⟨b, 0, none⟩), .func (.func 96) #[.pointer (some ⟨b, 0, none⟩)] #[], .func (.func 113) #[.pointer (some ⟨b, 0, none⟩)] #[]] w' (RowG 78 2 EqnV w' b (q, r12))) := Lib.hid (fun w' h => by rw [← h12]; exact rowQ_any b r11 w' h)
  obtain ⟨rfl, rfl⟩ : l = [] ∧ r8 = r7 := by
    have z : (([] : List Itm), r7) = (l, r8) := h8
    injection z with z1 z2; exact ⟨z1.symm, z2.symm⟩
  have HC10 : Hid (∀ w', GrAt w' b r9 → Calls Tryz.prog 111 #[.pointer (some ⟨b, 0, none⟩)] w' (RowG 46 2 PrmV w' b (vs, r10))) := Lib.hid (fun w' h => by rw [← h10]; exact streams_any b r9 w' h)
  clear h1 h2 h3 h4 h5 h6 h7 h8 h9 h10 h11 h12 h13 he hr
  have hX0 := Lib.hid (heap_alloc_new w (.cells #[.bool false, .string ⟨#[]⟩, .slice none 0 0, .string ⟨#[]⟩, .int .i64 0, .slice none 0 0, .slice none 0 0, .slice none 0 0] 50))
  go_enter Tryz.func95, Tryz.ntmps95
  go_wp2_with fail
  refine (name_lit (HR.out.below (below_new w _)) H1.out).mono ?_
  rintro e w1 ⟨rfl, hg1⟩
  have HG1 := Lib.hid (GrTo.below (below_new w _) hlt hg1)
  have x1 := hg1.block hX0.out (by omega)
  have hs1 := hg1.grown.size
  simp at hs1
  have X1 := Lib.hid x1
  clear hg1 x1
  have HG1a := Lib.hid (HG1.out.then_below (below_new w1 (.cells #[.bool false, .string (str n), .slice none 0 0, .string ⟨#[]⟩, .int .i64 0, .slice none 0 0, .slice none 0 0, .slice none 0 0] 50)))
  have X1a := Lib.hid (((below_new w1 (.cells #[.bool false, .string (str n), .slice none 0 0, .string ⟨#[]⟩, .int .i64 0, .slice none 0 0, .slice none 0 0, .slice none 0 0] 50)).block _ (lt_of_block X1.out)).trans X1.out)
  have Y1a := Lib.hid (heap_alloc_new w1 (.cells #[.bool false, .string (str n), .slice none 0 0, .string ⟨#[]⟩, .int .i64 0, .slice none 0 0, .slice none 0 0, .slice none 0 0] 50))
  have hne : w.heap.size ≠ w1.heap.size := by omega
  go_wp2_with fail
  refine (HC2.out _ HG1a.out.rd).mono ?_
  rintro e w2 ⟨iv, rfl, hi2, hg2⟩
  have HG2 := Lib.hid (HG1a.out.trans hg2)
  have x2 := hg2.block X1a.out (by omega)
  have y2 := hg2.block Y1a.out (by omega)
  have X2 := Lib.hid x2
  have Y2 := Lib.hid y2
  have lx2 := lt_of_block x2
  have ly2 := lt_of_block y2
  obtain ⟨A1, n1, c1, rfl, u1, u2⟩ := row_form hi2
  have F1_2 := Lib.hid hi2
  clear hg2 x2 y2 hi2
  have q2_2 : w2.cell? ⟨w1.heap.size, 2, none⟩ = some (.slice none 0 0) := (cell_at Y2.out 2).trans rfl
  have k2_2 : w2.frozen? ⟨w1.heap.size, 2, none⟩ = false := free_at Y2.out 2
  have Y2a : Hid ((w2.setCell ⟨w1.heap.size, 2, none⟩ (.slice A1 n1 c1)).heap[w1.heap.size]? = some (.cells #[.bool false, .string (str n), .slice A1 n1 c1, .string ⟨#[]⟩, .int .i64 0, .slice none 0 0, .slice none 0 0, .slice none 0 0] 50 (0, 0))) := Lib.hid (by have z := setObj_heap (v := .slice A1 n1 c1) Y2.out (k := 2) (by simp); simpa using z)
  have X2a := Lib.hid (set_other (k := 2) (v := .slice A1 n1 c1) X2.out hne)
  have HG2a := Lib.hid (HG2.out.setLocal (k := 2) (B := w1.heap.size) (by omega) hlt (.slice A1 n1 c1))
  have F1_2a := Lib.hid (F1_2.out.stay (Stay.set (P := fun t => t = 50) (k := 2) Y2.out rfl (.slice A1 n1 c1)) (by decide) (fun a x hx => PrmV.stay (Stay.set (P := fun t => t = 50) (k := 2) Y2.out rfl (.slice A1 n1 c1)) a x hx))
  go_wp2_with fail
  refine (need_lit (s := wReturns) rfl HG2a.out.rd (by decide) H3.out).mono ?_
  rintro e w3 ⟨rfl, hg3⟩
  have HG3 := Lib.hid (HG2a.out.trans hg3)
  have x3 := hg3.block X2a.out (by omega)
  have y3 := hg3.block Y2a.out (by omega)
  have X3 := Lib.hid x3
  have Y3 := Lib.hid y3
  have lx3 := lt_of_block x3
  have ly3 := lt_of_block y3
  have F1_3 := Lib.hid (F1_2a.out.stay ((GrTo.stay HG2a.out.rd hg3)) (by decide) (fun a x hx => PrmV.stay (GrTo.stay HG2a.out.rd hg3) a x hx))
  clear hg3 x3 y3 
  clear q2_2 k2_2
  go_wp2_with fail
  refine (need_lit (s := [40]) rfl HG3.out.rd (by decide) H4.out).mono ?_
  rintro e w4 ⟨rfl, hg4⟩
  have HG4 := Lib.hid (HG3.out.trans hg4)
  have x4 := hg4.block X3.out (by omega)
  have y4 := hg4.block Y3.out (by omega)
  have X4 := Lib.hid x4
  have Y4 := Lib.hid y4
  have lx4 := lt_of_block x4
  have ly4 := lt_of_block y4
  have F1_4 := Lib.hid (F1_3.out.stay ((GrTo.stay HG3.out.rd hg4)) (by decide) (fun a x hx => PrmV.stay (GrTo.stay HG3.out.rd hg4) a x hx))
  clear hg4 x4 y4 
  go_wp2_with fail
  refine (HC5.out _ HG4.out.rd).mono ?_
  rintro e w5 ⟨rfl, hg5⟩
  have HG5 := Lib.hid (HG4.out.trans hg5)
  have x5 := hg5.block X4.out (by omega)
  have y5 := hg5.block Y4.out (by omega)
  have X5 := Lib.hid x5
  have Y5 := Lib.hid y5
  have lx5 := lt_of_block x5
  have ly5 := lt_of_block y5
  have F1_5 := Lib.hid (F1_4.out.stay ((GrTo.stay HG4.out.rd hg5)) (by decide) (fun a x hx => PrmV.stay (GrTo.stay HG4.out.rd hg5) a x hx))
  clear hg5 x5 y5 
  have q5_3 : w5.cell? ⟨w1.heap.size, 3, none⟩ = some (.string ⟨#[]⟩) := (cell_at Y5.out 3).trans rfl
  have k5_3 : w5.frozen? ⟨w1.heap.size, 3, none⟩ = false := free_at Y5.out 3
  have q5_4 : w5.cell? ⟨w1.heap.size, 4, none⟩ = some (.int .i64 0) := (cell_at Y5.out 4).trans rfl
  have k5_4 : w5.frozen? ⟨w1.heap.size, 4, none⟩ = false := free_at Y5.out 4
  have Y5a : Hid ((w5.setCell ⟨w1.heap.size, 3, none⟩ (.string (str on))).heap[w1.heap.size]? = some (.cells #[.bool false, .string (str n), .slice A1 n1 c1, .string (str on), .int .i64 0, .slice none 0 0, .slice none 0 0, .slice none 0 0] 50 (0, 0))) := Lib.hid (by have z := setObj_heap (v := .string (str on)) Y5.out (k := 3) (by simp); simpa using z)
  have X5a := Lib.hid (set_other (k := 3) (v := .string (str on)) X5.out hne)
  have HG5a := Lib.hid (HG5.out.setLocal (k := 3) (B := w1.heap.size) (by omega) hlt (.string (str on)))
  have F1_5a := Lib.hid (F1_5.out.stay (Stay.set (P := fun t => t = 50) (k := 3) Y5.out rfl (.string (str on))) (by decide) (fun a x hx => PrmV.stay (Stay.set (P := fun t => t = 50) (k := 3) Y5.out rfl (.string (str on))) a x hx))
  have Y5b : Hid (((w5.setCell ⟨w1.heap.size, 3, none⟩ (.string (str on))).setCell ⟨w1.heap.size, 4, none⟩ (.int .i64 ot)).heap[w1.heap.size]? = some (.cells #[.bool false, .string (str n), .slice A1 n1 c1, .string (str on), .int .i64 ot, .slice none 0 0, .slice none 0 0, .slice none 0 0] 50 (0, 0))) := Lib.hid (by have z := setObj_heap (v := .int .i64 ot) Y5a.out (k := 4) (by simp); simpa using z)
  have X5b := Lib.hid (set_other (k := 4) (v := .int .i64 ot) X5a.out hne)
  have HG5b := Lib.hid (HG5a.out.setLocal (k := 4) (B := w1.heap.size) (by omega) hlt (.int .i64 ot))
  have F1_5b := Lib.hid (F1_5a.out.stay (Stay.set (P := fun t => t = 50) (k := 4) Y5a.out rfl (.int .i64 ot)) (by decide) (fun a x hx => PrmV.stay (Stay.set (P := fun t => t = 50) (k := 4) Y5a.out rfl (.int .i64 ot)) a x hx))
  go_wp2_with fail
  refine (need_lit (s := [41]) rfl HG5b.out.rd (by decide) H6.out).mono ?_
  rintro e w6 ⟨rfl, hg6⟩
  have HG6 := Lib.hid (HG5b.out.trans hg6)
  have x6 := hg6.block X5b.out (by omega)
  have y6 := hg6.block Y5b.out (by omega)
  have X6 := Lib.hid x6
  have Y6 := Lib.hid y6
  have lx6 := lt_of_block x6
  have ly6 := lt_of_block y6
  have F1_6 := Lib.hid (F1_5b.out.stay ((GrTo.stay HG5b.out.rd hg6)) (by decide) (fun a x hx => PrmV.stay (GrTo.stay HG5b.out.rd hg6) a x hx))
  clear hg6 x6 y6 
  clear q5_3 k5_3 q5_4 k5_4
  go_wp2_with fail
  refine (take_lit (s := wContract) rfl HG6.out.rd (by decide) H7.out).mono ?_
  rintro e w7 ⟨rfl, hg7⟩
  have HG7 := Lib.hid (HG6.out.trans hg7)
  have x7 := hg7.block X6.out (by omega)
  have y7 := hg7.block Y6.out (by omega)
  have X7 := Lib.hid x7
  have Y7 := Lib.hid y7
  have lx7 := lt_of_block x7
  have ly7 := lt_of_block y7
  have F1_7 := Lib.hid (F1_6.out.stay ((GrTo.stay HG6.out.rd hg7)) (by decide) (fun a x hx => PrmV.stay (GrTo.stay HG6.out.rd hg7) a x hx))
  clear hg7 x7 y7 
  go_wp2_with fail
  refine (take_lit (s := wVar) rfl HG7.out.rd (by decide) H9.out).mono ?_
  rintro e w8 ⟨rfl, hg8⟩
  have HG8 := Lib.hid (HG7.out.trans hg8)
  have x8 := hg8.block X7.out (by omega)
  have y8 := hg8.block Y7.out (by omega)
  have X8 := Lib.hid x8
  have Y8 := Lib.hid y8
  have lx8 := lt_of_block x8
  have ly8 := lt_of_block y8
  have F1_8 := Lib.hid (F1_7.out.stay ((GrTo.stay HG7.out.rd hg8)) (by decide) (fun a x hx => PrmV.stay (GrTo.stay HG7.out.rd hg8) a x hx))
  clear hg8 x8 y8 
  go_wp2_with fail
  refine (HC10.out _ HG8.out.rd).mono ?_
  rintro e w9 ⟨vv, rfl, hv9, hg9⟩
  have HG9 := Lib.hid (HG8.out.trans hg9)
  have x9 := hg9.block X8.out (by omega)
  have y9 := hg9.block Y8.out (by omega)
  have X9 := Lib.hid x9
  have Y9 := Lib.hid y9
  have lx9 := lt_of_block x9
  have ly9 := lt_of_block y9
  have F1_9 := Lib.hid (F1_8.out.stay ((GrTo.stay HG8.out.rd hg9)) (by decide) (fun a x hx => PrmV.stay (GrTo.stay HG8.out.rd hg9) a x hx))
  obtain ⟨A3, n3, c3, rfl, u5, u6⟩ := row_form hv9
  have F3_9 := Lib.hid hv9
  clear hg9 x9 y9 hv9
  have q9_5 : w9.cell? ⟨w1.heap.size, 5, none⟩ = some (.slice none 0 0) := (cell_at Y9.out 5).trans rfl
  have k9_5 : w9.frozen? ⟨w1.heap.size, 5, none⟩ = false := free_at Y9.out 5
  have Y9a : Hid ((w9.setCell ⟨w1.heap.size, 5, none⟩ (.slice A3 n3 c3)).heap[w1.heap.size]? = some (.cells #[.bool false, .string (str n), .slice A1 n1 c1, .string (str on), .int .i64 ot, .slice A3 n3 c3, .slice none 0 0, .slice none 0 0] 50 (0, 0))) := Lib.hid (by have z := setObj_heap (v := .slice A3 n3 c3) Y9.out (k := 5) (by simp); simpa using z)
  have X9a := Lib.hid (set_other (k := 5) (v := .slice A3 n3 c3) X9.out hne)
  have HG9a := Lib.hid (HG9.out.setLocal (k := 5) (B := w1.heap.size) (by omega) hlt (.slice A3 n3 c3))
  have F1_9a := Lib.hid (F1_9.out.stay (Stay.set (P := fun t => t = 50) (k := 5) Y9.out rfl (.slice A3 n3 c3)) (by decide) (fun a x hx => PrmV.stay (Stay.set (P := fun t => t = 50) (k := 5) Y9.out rfl (.slice A3 n3 c3)) a x hx))
  have F3_9a := Lib.hid (F3_9.out.stay (Stay.set (P := fun t => t = 50) (k := 5) Y9.out rfl (.slice A3 n3 c3)) (by decide) (fun a x hx => PrmV.stay (Stay.set (P := fun t => t = 50) (k := 5) Y9.out rfl (.slice A3 n3 c3)) a x hx))
  go_wp2_with fail
  refine (need_lit (s := wLet) rfl HG9a.out.rd (by decide) H11.out).mono ?_
  rintro e w10 ⟨rfl, hg10⟩
  have HG10 := Lib.hid (HG9a.out.trans hg10)
  have x10 := hg10.block X9a.out (by omega)
  have y10 := hg10.block Y9a.out (by omega)
  have X10 := Lib.hid x10
  have Y10 := Lib.hid y10
  have lx10 := lt_of_block x10
  have ly10 := lt_of_block y10
  have F1_10 := Lib.hid (F1_9a.out.stay ((GrTo.stay HG9a.out.rd hg10)) (by decide) (fun a x hx => PrmV.stay (GrTo.stay HG9a.out.rd hg10) a x hx))
  have F3_10 := Lib.hid (F3_9a.out.stay ((GrTo.stay HG9a.out.rd hg10)) (by decide) (fun a x hx => PrmV.stay (GrTo.stay HG9a.out.rd hg10) a x hx))
  clear hg10 x10 y10 
  clear q9_5 k9_5
  go_wp2_with fail
  refine (HC12.out _ HG10.out.rd).mono ?_
  rintro e w11 ⟨qv, rfl, hq11, hg11⟩
  have HG11 := Lib.hid (HG10.out.trans hg11)
  have x11 := hg11.block X10.out (by omega)
  have y11 := hg11.block Y10.out (by omega)
  have X11 := Lib.hid x11
  have Y11 := Lib.hid y11
  have lx11 := lt_of_block x11
  have ly11 := lt_of_block y11
  have F1_11 := Lib.hid (F1_10.out.stay ((GrTo.stay HG10.out.rd hg11)) (by decide) (fun a x hx => PrmV.stay (GrTo.stay HG10.out.rd hg11) a x hx))
  have F3_11 := Lib.hid (F3_10.out.stay ((GrTo.stay HG10.out.rd hg11)) (by decide) (fun a x hx => PrmV.stay (GrTo.stay HG10.out.rd hg11) a x hx))
  obtain ⟨A4, n4, c4, rfl, u7, u8⟩ := row_form hq11
  have F4_11 := Lib.hid hq11
  clear hg11 x11 y11 hq11
  have q11_6 : w11.cell? ⟨w1.heap.size, 6, none⟩ = some (.slice none 0 0) := (cell_at Y11.out 6).trans rfl
  have k11_6 : w11.frozen? ⟨w1.heap.size, 6, none⟩ = false := free_at Y11.out 6
  have Y11a : Hid ((w11.setCell ⟨w1.heap.size, 6, none⟩ (.slice A4 n4 c4)).heap[w1.heap.size]? = some (.cells #[.bool false, .string (str n), .slice A1 n1 c1, .string (str on), .int .i64 ot, .slice A3 n3 c3, .slice A4 n4 c4, .slice none 0 0] 50 (0, 0))) := Lib.hid (by have z := setObj_heap (v := .slice A4 n4 c4) Y11.out (k := 6) (by simp); simpa using z)
  have X11a := Lib.hid (set_other (k := 6) (v := .slice A4 n4 c4) X11.out hne)
  have HG11a := Lib.hid (HG11.out.setLocal (k := 6) (B := w1.heap.size) (by omega) hlt (.slice A4 n4 c4))
  have F1_11a := Lib.hid (F1_11.out.stay (Stay.set (P := fun t => t = 50) (k := 6) Y11.out rfl (.slice A4 n4 c4)) (by decide) (fun a x hx => PrmV.stay (Stay.set (P := fun t => t = 50) (k := 6) Y11.out rfl (.slice A4 n4 c4)) a x hx))
  have F3_11a := Lib.hid (F3_11.out.stay (Stay.set (P := fun t => t = 50) (k := 6) Y11.out rfl (.slice A4 n4 c4)) (by decide) (fun a x hx => PrmV.stay (Stay.set (P := fun t => t = 50) (k := 6) Y11.out rfl (.slice A4 n4 c4)) a x hx))
  have F4_11a := Lib.hid (F4_11.out.stay (Stay.set (P := fun t => t = 50) (k := 6) Y11.out rfl (.slice A4 n4 c4)) (by decide) (fun a x hx => EqnV.stay (Stay.set (P := fun t => t = 50) (k := 6) Y11.out rfl (.slice A4 n4 c4)) (by decide) a x hx))
  go_wp2_with fail
  refine (need_lit (s := wTel) rfl HG11a.out.rd (by decide) H13.out).mono ?_
  rintro e w12 ⟨rfl, hg12⟩
  have HG12 := Lib.hid (HG11a.out.trans hg12)
  have x12 := hg12.block X11a.out (by omega)
  have y12 := hg12.block Y11a.out (by omega)
  have X12 := Lib.hid x12
  have Y12 := Lib.hid y12
  have lx12 := lt_of_block x12
  have ly12 := lt_of_block y12
  have F1_12 := Lib.hid (F1_11a.out.stay ((GrTo.stay HG11a.out.rd hg12)) (by decide) (fun a x hx => PrmV.stay (GrTo.stay HG11a.out.rd hg12) a x hx))
  have F3_12 := Lib.hid (F3_11a.out.stay ((GrTo.stay HG11a.out.rd hg12)) (by decide) (fun a x hx => PrmV.stay (GrTo.stay HG11a.out.rd hg12) a x hx))
  have F4_12 := Lib.hid (F4_11a.out.stay ((GrTo.stay HG11a.out.rd hg12)) (by decide) (fun a x hx => EqnV.stay (GrTo.stay HG11a.out.rd hg12) (by decide) a x hx))
  clear hg12 x12 y12 
  clear q11_6 k11_6
  have p0 : w12.cell? ⟨w.heap.size, 0, none⟩ = some (.bool false) := (cell_at X12.out 0).trans rfl
  have g0 : w12.frozen? ⟨w.heap.size, 0, none⟩ = false := free_at X12.out 0
  have q0 : w12.cell? ⟨w1.heap.size, 0, none⟩ = some (.bool false) := (cell_at Y12.out 0).trans rfl
  have p1 : w12.cell? ⟨w.heap.size, 1, none⟩ = some (.string ⟨#[]⟩) := (cell_at X12.out 1).trans rfl
  have g1 : w12.frozen? ⟨w.heap.size, 1, none⟩ = false := free_at X12.out 1
  have q1 : w12.cell? ⟨w1.heap.size, 1, none⟩ = some (.string (str n)) := (cell_at Y12.out 1).trans rfl
  have p2 : w12.cell? ⟨w.heap.size, 2, none⟩ = some (.slice none 0 0) := (cell_at X12.out 2).trans rfl
  have g2 : w12.frozen? ⟨w.heap.size, 2, none⟩ = false := free_at X12.out 2
  have q2 : w12.cell? ⟨w1.heap.size, 2, none⟩ = some (.slice A1 n1 c1) := (cell_at Y12.out 2).trans rfl
  have p3 : w12.cell? ⟨w.heap.size, 3, none⟩ = some (.string ⟨#[]⟩) := (cell_at X12.out 3).trans rfl
  have g3 : w12.frozen? ⟨w.heap.size, 3, none⟩ = false := free_at X12.out 3
  have q3 : w12.cell? ⟨w1.heap.size, 3, none⟩ = some (.string (str on)) := (cell_at Y12.out 3).trans rfl
  have p4 : w12.cell? ⟨w.heap.size, 4, none⟩ = some (.int .i64 0) := (cell_at X12.out 4).trans rfl
  have g4 : w12.frozen? ⟨w.heap.size, 4, none⟩ = false := free_at X12.out 4
  have q4 : w12.cell? ⟨w1.heap.size, 4, none⟩ = some (.int .i64 ot) := (cell_at Y12.out 4).trans rfl
  have p5 : w12.cell? ⟨w.heap.size, 5, none⟩ = some (.slice none 0 0) := (cell_at X12.out 5).trans rfl
  have g5 : w12.frozen? ⟨w.heap.size, 5, none⟩ = false := free_at X12.out 5
  have q5 : w12.cell? ⟨w1.heap.size, 5, none⟩ = some (.slice A3 n3 c3) := (cell_at Y12.out 5).trans rfl
  have p6 : w12.cell? ⟨w.heap.size, 6, none⟩ = some (.slice none 0 0) := (cell_at X12.out 6).trans rfl
  have g6 : w12.frozen? ⟨w.heap.size, 6, none⟩ = false := free_at X12.out 6
  have q6 : w12.cell? ⟨w1.heap.size, 6, none⟩ = some (.slice A4 n4 c4) := (cell_at Y12.out 6).trans rfl
  have p7 : w12.cell? ⟨w.heap.size, 7, none⟩ = some (.slice none 0 0) := (cell_at X12.out 7).trans rfl
  have g7 : w12.frozen? ⟨w.heap.size, 7, none⟩ = false := free_at X12.out 7
  have q7 : w12.cell? ⟨w1.heap.size, 7, none⟩ = some (.slice none 0 0) := (cell_at Y12.out 7).trans rfl
  go_wp2
  have Z := blk8 X12.out (.bool false) (.string (str n)) (.slice A1 n1 c1) (.string (str on)) (.int .i64 ot) (.slice A3 n3 c3) (.slice A4 n4 c4) (.slice none 0 0)
  have hsz : w12.heap.size ≤ ((((((((w12.setCell ⟨w.heap.size, 0, none⟩ (.bool false)).setCell ⟨w.heap.size, 1, none⟩ (.string (str n))).setCell ⟨w.heap.size, 2, none⟩ (.slice A1 n1 c1)).setCell ⟨w.heap.size, 3, none⟩ (.string (str on))).setCell ⟨w.heap.size, 4, none⟩ (.int .i64 ot)).setCell ⟨w.heap.size, 5, none⟩ (.slice A3 n3 c3)).setCell ⟨w.heap.size, 6, none⟩ (.slice A4 n4 c4)).setCell ⟨w.heap.size, 7, none⟩ (.slice none 0 0)).heap.size := by simp [World.setCell]
  have hst : Stay (fun t => t = 50) w12 ((((((((w12.setCell ⟨w.heap.size, 0, none⟩ (.bool false)).setCell ⟨w.heap.size, 1, none⟩ (.string (str n))).setCell ⟨w.heap.size, 2, none⟩ (.slice A1 n1 c1)).setCell ⟨w.heap.size, 3, none⟩ (.string (str on))).setCell ⟨w.heap.size, 4, none⟩ (.int .i64 ot)).setCell ⟨w.heap.size, 5, none⟩ (.slice A3 n3 c3)).setCell ⟨w.heap.size, 6, none⟩ (.slice A4 n4 c4)).setCell ⟨w.heap.size, 7, none⟩ (.slice none 0 0)) := Stay.sets X12.out rfl hsz (fun g hg => by simp only [set_ne hg])
  have z0 := (cell_at Z 0).trans (show _ = some (.bool false) from rfl)
  have z1 := (cell_at Z 1).trans (show _ = some (.string (str n)) from rfl)
  have z2 := (cell_at Z 2).trans (show _ = some (.slice A1 n1 c1) from rfl)
  have z3 := (cell_at Z 3).trans (show _ = some (.string (str on)) from rfl)
  have z4 := (cell_at Z 4).trans (show _ = some (.int .i64 ot) from rfl)
  have z5 := (cell_at Z 5).trans (show _ = some (.slice A3 n3 c3) from rfl)
  have z6 := (cell_at Z 6).trans (show _ = some (.slice A4 n4 c4) from rfl)
  have z7 := (cell_at Z 7).trans (show _ = some (.slice none 0 0) from rfl)
  clear p0 g0 q0 p1 g1 q1 p2 g2 q2 p3 g3 q3 p4 g4 q4 p5 g5 q5 p6 g6 q6 p7 g7 q7
  exact bodyPost_ret (v := .agg #[.bool false, .string (str n), .slice A1 n1 c1, .string (str on), .int .i64 ot, .slice A3 n3 c3, .slice A4 n4 c4, .slice none 0 0]) (by simp [results, Tryz.results95, go_sem, z0, z1, z2, z3, z4, z5, z6, z7]) rfl (UntG.of HE.out (F1_12.out.stay hst (by decide) (fun a x hx => PrmV.stay hst a x hx)) (F3_12.out.stay hst (by decide) (fun a x hx => PrmV.stay hst a x hx)) (F4_12.out.stay hst (by decide) (fun a x hx => EqnV.stay hst (by decide) a x hx)) (RowR.nil _ _ _ _) ((((((((HG12.out.setLocal (by omega) hlt _).setLocal (by omega) hlt _).setLocal (by omega) hlt _).setLocal (by omega) hlt _).setLocal (by omega) hlt _).setLocal (by omega) hlt _).setLocal (by omega) hlt _).setLocal (by omega) hlt _))
end Go.Proofs.YtgohhnbdicdenaaGreatDoor.Pg

/- Contracts of layer prog's reader: a node. Conditions: a reader lies in memory. -/
namespace Go.Proofs.YtgohhnbdicdenaaGreatDoor.Pg
open Go.ChangeShapes Go.WideShapes Go.ChangeAt Go.RowKit
open Go.Proofs.YtgohhnbdicdenaaGreatDoor.Ex
open Go.Proofs.YtgohhnbdicdenaaGreatDoor.Tr (str ret_bool ret_int Bytes Nd)
set_option linter.unusedVariables false
set_option linter.unusedSimpArgs false

set_option maxRecDepth 100000 in
set_option maxHeartbeats 8000000 in
theorem node_10 (b : Nat) (r : Rd) (w : World) (hr : GrAt w b r) (n : Bytes) (i : List Prm) (on : Bytes) (ot : Int) (l : List Itm) (vs : List Prm) (q : List Eqn) (r1 r2 r3 r4 r5 r6 r7 r8 r9 r10 r11 r12 r13 : Rd) (X : Unt × Rd) (h1 : nameP r = (n, r1)) (h2 : encP sSemi paramP r1 = (i, r2)) (h3 : (needP wReturns r2).2 = r3) (h4 : (needP [40] r3).2 = r4) (h5 : paramP r4 = (⟨on, ot⟩, r5)) (h6 : (needP [41] r5).2 = r6) (h7 : takeP wContract r6 = (true, r7)) (h8 : (if true then itemsP else pPure []) r7 = (l, r8)) (h9 : takeP wVar r8 = (false, r9)) (h10 : (if false then streamsP else pPure []) r9 = (vs, r10)) (h11 : (needP wLet r10).2 = r11) (h12 : rowP atNameB eqnP r11 = (q, r12)) (h13 : (needP wTel r12).2 = r13) (he : ((⟨false, n, i, ⟨on, ot⟩, vs, q, l⟩ : Unt), r13) = X) : Calls Tryz.prog 95 #[.pointer (some ⟨b, 0, none⟩)] w (UntG w b X) := by
  have HR := Lib.hid hr
  have hlt := hr.lt
  have hmf : ∀ (fn : Fn) (first cap : Array Value) (w : World), (Instr.makeFunc fn first cap).run Tryz.prog w = .ok (.func fn first cap) w := fun _ _ _ _ => rfl
  have HE := Lib.hid he
  have H1 := Lib.hid h1
  have H3 := Lib.hid h3
  have H4 := Lib.hid h4
  have H6 := Lib.hid h6
  have H7 := Lib.hid h7
  have H9 := Lib.hid h9
  have H11 := Lib.hid h11
  have H13 := Lib.hid h13
  have HC2 : Hid (∀ w', GrAt w' b r1 → Calls Tryz.prog 108 #[.pointer (some ⟨b, 0, none⟩), .string ⟨#[59]⟩, .func (.func 109) #[.pointer (some ⟨b, 0, none⟩)] #[]] w' (RowG 46 2 PrmV w' b (i, r2))) := Lib.hid (fun w' h => by rw [← h2]; exact encS_any b r1 w' h)
  have HC5 : Hid (∀ w', GrAt w' b r4 → Calls Tryz.prog 109 #[.pointer (some ⟨b, 0, none⟩)] w' (PrmG w' b (⟨on, ot⟩, r5))) := Lib.hid (fun w' h => by rw [← h5]; exact param_any b r4 w' h)
  have HC12 : Hid (∀ w', GrAt w' b r11 → Calls Tryz.prog 112 #[.pointer (some ⟨b, 0, none⟩), .func (.func 96) #[.pointer (some ⟨b, 0, none⟩)] #[], .func (.func 113) #[.pointer (some ⟨b, 0, none⟩)] #[]] w' (RowG 78 2 EqnV w' b (q, r12))) := Lib.hid (fun w' h => by rw [← h12]; exact rowQ_any b r11 w' h)
  have HC8 : Hid (∀ w', GrAt w' b r7 → Calls Tryz.prog 110 #[.pointer (some ⟨b, 0, none⟩)] w' (RowG 72 6 ItmV w' b (l, r8))) := Lib.hid (fun w' h => by rw [← h8]; exact items_any b r7 w' h)
  obtain ⟨rfl, rfl⟩ : vs = [] ∧ r10 = r9 := by
    have z : (([] : List Prm), r9) = (vs, r10) := h10
    injection z with z1 z2; exact ⟨z1.symm, z2.symm⟩
  clear h1 h2 h3 h4 h5 h6 h7 h8 h9 h10 h11 h12 h13 he hr
  have hX0 := Lib.hid (heap_alloc_new w (.cells #[.bool false, .string ⟨#[]⟩, .slice none 0 0, .string ⟨#[]⟩, .int .i64 0, .slice none 0 0, .slice none 0 0, .slice none 0 0] 50))
  go_enter Tryz.func95, Tryz.ntmps95
  go_wp2_with fail
  refine (name_lit (HR.out.below (below_new w _)) H1.out).mono ?_
  rintro e w1 ⟨rfl, hg1⟩
  have HG1 := Lib.hid (GrTo.below (below_new w _) hlt hg1)
  have x1 := hg1.block hX0.out (by omega)
  have hs1 := hg1.grown.size
  simp at hs1
  have X1 := Lib.hid x1
  clear hg1 x1
  have HG1a := Lib.hid (HG1.out.then_below (below_new w1 (.cells #[.bool false, .string (str n), .slice none 0 0, .string ⟨#[]⟩, .int .i64 0, .slice none 0 0, .slice none 0 0, .slice none 0 0] 50)))
  have X1a := Lib.hid (((below_new w1 (.cells #[.bool false, .string (str n), .slice none 0 0, .string ⟨#[]⟩, .int .i64 0, .slice none 0 0, .slice none 0 0, .slice none 0 0] 50)).block _ (lt_of_block X1.out)).trans X1.out)
  have Y1a := Lib.hid (heap_alloc_new w1 (.cells #[.bool false, .string (str n), .slice none 0 0, .string ⟨#[]⟩, .int .i64 0, .slice none 0 0, .slice none 0 0, .slice none 0 0] 50))
  have hne : w.heap.size ≠ w1.heap.size := by omega
  go_wp2_with fail
  refine (HC2.out _ HG1a.out.rd).mono ?_
  rintro e w2 ⟨iv, rfl, hi2, hg2⟩
  have HG2 := Lib.hid (HG1a.out.trans hg2)
  have x2 := hg2.block X1a.out (by omega)
  have y2 := hg2.block Y1a.out (by omega)
  have X2 := Lib.hid x2
  have Y2 := Lib.hid y2
  have lx2 := lt_of_block x2
  have ly2 := lt_of_block y2
  obtain ⟨A1, n1, c1, rfl, u1, u2⟩ := row_form hi2
  have F1_2 := Lib.hid hi2
  clear hg2 x2 y2 hi2
  have q2_2 : w2.cell? ⟨w1.heap.size, 2, none⟩ = some (.slice none 0 0) := (cell_at Y2.out 2).trans rfl
  have k2_2 : w2.frozen? ⟨w1.heap.size, 2, none⟩ = false := free_at Y2.out 2
  have Y2a : Hid ((w2.setCell ⟨w1.heap.size, 2, none⟩ (.slice A1 n1 c1)).heap[w1.heap.size]? = some (.cells #[.bool false, .string (str n), .slice A1 n1 c1, .string ⟨#[]⟩, .int .i64 0, .slice none 0 0, .slice none 0 0, .slice none 0 0] 50 (0, 0))) := Lib.hid (by have z := setObj_heap (v := .slice A1 n1 c1) Y2.out (k := 2) (by simp); simpa using z)
  have X2a := Lib.hid (set_other (k := 2) (v := .slice A1 n1 c1) X2.out hne)
  have HG2a := Lib.hid (HG2.out.setLocal (k := 2) (B := w1.heap.size) (by omega) hlt (.slice A1 n1 c1))
  have F1_2a := Lib.hid (F1_2.out.stay (Stay.set (P := fun t => t = 50) (k := 2) Y2.out rfl (.slice A1 n1 c1)) (by decide) (fun a x hx => PrmV.stay (Stay.set (P := fun t => t = 50) (k := 2) Y2.out rfl (.slice A1 n1 c1)) a x hx))
  go_wp2_with fail
  refine (need_lit (s := wReturns) rfl HG2a.out.rd (by decide) H3.out).mono ?_
  rintro e w3 ⟨rfl, hg3⟩
  have HG3 := Lib.hid (HG2a.out.trans hg3)
  have x3 := hg3.block X2a.out (by omega)
  have y3 := hg3.block Y2a.out (by omega)
  have X3 := Lib.hid x3
  have Y3 := Lib.hid y3
  have lx3 := lt_of_block x3
  have ly3 := lt_of_block y3
  have F1_3 := Lib.hid (F1_2a.out.stay ((GrTo.stay HG2a.out.rd hg3)) (by decide) (fun a x hx => PrmV.stay (GrTo.stay HG2a.out.rd hg3) a x hx))
  clear hg3 x3 y3 
  clear q2_2 k2_2
  go_wp2_with fail
  refine (need_lit (s := [40]) rfl HG3.out.rd (by decide) H4.out).mono ?_
  rintro e w4 ⟨rfl, hg4⟩
  have HG4 := Lib.hid (HG3.out.trans hg4)
  have x4 := hg4.block X3.out (by omega)
  have y4 := hg4.block Y3.out (by omega)
  have X4 := Lib.hid x4
  have Y4 := Lib.hid y4
  have lx4 := lt_of_block x4
  have ly4 := lt_of_block y4
  have F1_4 := Lib.hid (F1_3.out.stay ((GrTo.stay HG3.out.rd hg4)) (by decide) (fun a x hx => PrmV.stay (GrTo.stay HG3.out.rd hg4) a x hx))
  clear hg4 x4 y4 
  go_wp2_with fail
  refine (HC5.out _ HG4.out.rd).mono ?_
  rintro e w5 ⟨rfl, hg5⟩
  have HG5 := Lib.hid (HG4.out.trans hg5)
  have x5 := hg5.block X4.out (by omega)
  have y5 := hg5.block Y4.out (by omega)
  have X5 := Lib.hid x5
  have Y5 := Lib.hid y5
  have lx5 := lt_of_block x5
  have ly5 := lt_of_block y5
  have F1_5 := Lib.hid (F1_4.out.stay ((GrTo.stay HG4.out.rd hg5)) (by decide) (fun a x hx => PrmV.stay (GrTo.stay HG4.out.rd hg5) a x hx))
  clear hg5 x5 y5 
  have q5_3 : w5.cell? ⟨w1.heap.size, 3, none⟩ = some (.string ⟨#[]⟩) := (cell_at Y5.out 3).trans rfl
  have k5_3 : w5.frozen? ⟨w1.heap.size, 3, none⟩ = false := free_at Y5.out 3
  have q5_4 : w5.cell? ⟨w1.heap.size, 4, none⟩ = some (.int .i64 0) := (cell_at Y5.out 4).trans rfl
  have k5_4 : w5.frozen? ⟨w1.heap.size, 4, none⟩ = false := free_at Y5.out 4
  have Y5a : Hid ((w5.setCell ⟨w1.heap.size, 3, none⟩ (.string (str on))).heap[w1.heap.size]? = some (.cells #[.bool false, .string (str n), .slice A1 n1 c1, .string (str on), .int .i64 0, .slice none 0 0, .slice none 0 0, .slice none 0 0] 50 (0, 0))) := Lib.hid (by have z := setObj_heap (v := .string (str on)) Y5.out (k := 3) (by simp); simpa using z)
  have X5a := Lib.hid (set_other (k := 3) (v := .string (str on)) X5.out hne)
  have HG5a := Lib.hid (HG5.out.setLocal (k := 3) (B := w1.heap.size) (by omega) hlt (.string (str on)))
  have F1_5a := Lib.hid (F1_5.out.stay (Stay.set (P := fun t => t = 50) (k := 3) Y5.out rfl (.string (str on))) (by decide) (fun a x hx => PrmV.stay (Stay.set (P := fun t => t = 50) (k := 3) Y5.out rfl (.string (str on))) a x hx))
  have Y5b : Hid (((w5.setCell ⟨w1.heap.size, 3, none⟩ (.string (str on))).setCell ⟨w1.heap.size, 4, none⟩ (.int .i64 ot)).heap[w1.heap.size]? = some (.cells #[.bool false, .string (str n), .slice A1 n1 c1, .string (str on), .int .i64 ot, .slice none 0 0, .slice none 0 0, .slice none 0 0] 50 (0, 0))) := Lib.hid (by have z := setObj_heap (v := .int .i64 ot) Y5a.out (k := 4) (by simp); simpa using z)
  have X5b := Lib.hid (set_other (k := 4) (v := .int .i64 ot) X5a.out hne)
  have HG5b := Lib.hid (HG5a.out.setLocal (k := 4) (B := w1.heap.size) (by omega) hlt (.int .i64 ot))
  have F1_5b := Lib.hid (F1_5a.out.stay (Stay.set (P := fun t => t = 50) (k := 4) Y5a.out rfl (.int .i64 ot)) (by decide) (fun a x hx => PrmV.stay (Stay.set (P := fun t => t = 50) (k := 4) Y5a.out rfl (.int .i64 ot)) a x hx))
  go_wp2_with fail
  refine (need_lit (s := [41]) rfl HG5b.out.rd (by decide) H6.out).mono ?_
  rintro e w6 ⟨rfl, hg6⟩
  have HG6 := Lib.hid (HG5b.out.trans hg6)
  have x6 := hg6.block X5b.out (by omega)
  have y6 := hg6.block Y5b.out (by omega)
  have X6 := Lib.hid x6
  have Y6 := Lib.hid y6
  have lx6 := lt_of_block x6
  have ly6 := lt_of_block y6
  have F1_6 := Lib.hid (F1_5b.out.stay ((GrTo.stay HG5b.out.rd hg6)) (by decide) (fun a x hx => PrmV.stay (GrTo.stay HG5b.out.rd hg6) a x hx))
  clear hg6 x6 y6 
  clear q5_3 k5_3 q5_4 k5_4
  go_wp2_with fail
  refine (take_lit (s := wContract) rfl HG6.out.rd (by decide) H7.out).mono ?_
  rintro e w7 ⟨rfl, hg7⟩
  have HG7 := Lib.hid (HG6.out.trans hg7)
  have x7 := hg7.block X6.out (by omega)
  have y7 := hg7.block Y6.out (by omega)
  have X7 := Lib.hid x7
  have Y7 := Lib.hid y7
  have lx7 := lt_of_block x7
  have ly7 := lt_of_block y7
  have F1_7 := Lib.hid (F1_6.out.stay ((GrTo.stay HG6.out.rd hg7)) (by decide) (fun a x hx => PrmV.stay (GrTo.stay HG6.out.rd hg7) a x hx))
  clear hg7 x7 y7 
  go_wp2_with fail
  refine (HC8.out _ HG7.out.rd).mono ?_
  rintro e w8 ⟨lv, rfl, hl8, hg8⟩
  have HG8 := Lib.hid (HG7.out.trans hg8)
  have x8 := hg8.block X7.out (by omega)
  have y8 := hg8.block Y7.out (by omega)
  have X8 := Lib.hid x8
  have Y8 := Lib.hid y8
  have lx8 := lt_of_block x8
  have ly8 := lt_of_block y8
  have F1_8 := Lib.hid (F1_7.out.stay ((GrTo.stay HG7.out.rd hg8)) (by decide) (fun a x hx => PrmV.stay (GrTo.stay HG7.out.rd hg8) a x hx))
  obtain ⟨A2, n2, c2, rfl, u3, u4⟩ := row_form hl8
  have F2_8 := Lib.hid hl8
  clear hg8 x8 y8 hl8
  have q8_7 : w8.cell? ⟨w1.heap.size, 7, none⟩ = some (.slice none 0 0) := (cell_at Y8.out 7).trans rfl
  have k8_7 : w8.frozen? ⟨w1.heap.size, 7, none⟩ = false := free_at Y8.out 7
  have Y8a : Hid ((w8.setCell ⟨w1.heap.size, 7, none⟩ (.slice A2 n2 c2)).heap[w1.heap.size]? = some (.cells #[.bool false, .string (str n), .slice A1 n1 c1, .string (str on), .int .i64 ot, .slice none 0 0, .slice none 0 0, .slice A2 n2 c2] 50 (0, 0))) := Lib.hid (by have z := setObj_heap (v := .slice A2 n2 c2) Y8.out (k := 7) (by simp); simpa using z)
  have X8a := Lib.hid (set_other (k := 7) (v := .slice A2 n2 c2) X8.out hne)
  have HG8a := Lib.hid (HG8.out.setLocal (k := 7) (B := w1.heap.size) (by omega) hlt (.slice A2 n2 c2))
  have F1_8a := Lib.hid (F1_8.out.stay (Stay.set (P := fun t => t = 50) (k := 7) Y8.out rfl (.slice A2 n2 c2)) (by decide) (fun a x hx => PrmV.stay (Stay.set (P := fun t => t = 50) (k := 7) Y8.out rfl (.slice A2 n2 c2)) a x hx))
  have F2_8a := Lib.hid (F2_8.out.stay (Stay.set (P := fun t => t = 50) (k := 7) Y8.out rfl (.slice A2 n2 c2)) (by decide) (fun a x hx => ItmV.stay (Stay.set (P := fun t => t = 50) (k := 7) Y8.out rfl (.slice A2 n2 c2)) (by decide) (by decide) a x hx))
  go_wp2_with fail
  refine (take_lit (s := wVar) rfl HG8a.out.rd (by decide) H9.out).mono ?_
  rintro e w9 ⟨rfl, hg9⟩
  have HG9 := Lib.hid (HG8a.out.trans hg9)
  have x9 := hg9.block X8a.out (by omega)
  have y9 := hg9.block Y8a.out (by omega)
  have X9 := Lib.hid x9
  have Y9 := Lib.hid y9
  have lx9 := lt_of_block x9
  have ly9 := lt_of_block y9
  have F1_9 := Lib.hid (F1_8a.out.stay ((GrTo.stay HG8a.out.rd hg9)) (by decide) (fun a x hx => PrmV.stay (GrTo.stay HG8a.out.rd hg9) a x hx))
  have F2_9 := Lib.hid (F2_8a.out.stay ((GrTo.stay HG8a.out.rd hg9)) (by decide) (fun a x hx => ItmV.stay (GrTo.stay HG8a.out.rd hg9) (by decide) (by decide) a x hx))
  clear hg9 x9 y9 
  clear q8_7 k8_7
  go_wp2_with fail
  refine (need_lit (s := wLet) rfl HG9.out.rd (by decide) H11.out).mono ?_
  rintro e w10 ⟨rfl, hg10⟩
  have HG10 := Lib.hid (HG9.out.trans hg10)
  have x10 := hg10.block X9.out (by omega)
  have y10 := hg10.block Y9.out (by omega)
  have X10 := Lib.hid x10
  have Y10 := Lib.hid y10
  have lx10 := lt_of_block x10
  have ly10 := lt_of_block y10
  have F1_10 := Lib.hid (F1_9.out.stay ((GrTo.stay HG9.out.rd hg10)) (by decide) (fun a x hx => PrmV.stay (GrTo.stay HG9.out.rd hg10) a x hx))
  have F2_10 := Lib.hid (F2_9.out.stay ((GrTo.stay HG9.out.rd hg10)) (by decide) (fun a x hx => ItmV.stay (GrTo.stay HG9.out.rd hg10) (by decide) (by decide) a x hx))
  clear hg10 x10 y10 
  go_wp2_with fail
  refine (HC12.out _ HG10.out.rd).mono ?_
  rintro e w11 ⟨qv, rfl, hq11, hg11⟩
  have HG11 := Lib.hid (HG10.out.trans hg11)
  have x11 := hg11.block X10.out (by omega)
  have y11 := hg11.block Y10.out (by omega)
  have X11 := Lib.hid x11
  have Y11 := Lib.hid y11
  have lx11 := lt_of_block x11
  have ly11 := lt_of_block y11
  have F1_11 := Lib.hid (F1_10.out.stay ((GrTo.stay HG10.out.rd hg11)) (by decide) (fun a x hx => PrmV.stay (GrTo.stay HG10.out.rd hg11) a x hx))
  have F2_11 := Lib.hid (F2_10.out.stay ((GrTo.stay HG10.out.rd hg11)) (by decide) (fun a x hx => ItmV.stay (GrTo.stay HG10.out.rd hg11) (by decide) (by decide) a x hx))
  obtain ⟨A4, n4, c4, rfl, u7, u8⟩ := row_form hq11
  have F4_11 := Lib.hid hq11
  clear hg11 x11 y11 hq11
  have q11_6 : w11.cell? ⟨w1.heap.size, 6, none⟩ = some (.slice none 0 0) := (cell_at Y11.out 6).trans rfl
  have k11_6 : w11.frozen? ⟨w1.heap.size, 6, none⟩ = false := free_at Y11.out 6
  have Y11a : Hid ((w11.setCell ⟨w1.heap.size, 6, none⟩ (.slice A4 n4 c4)).heap[w1.heap.size]? = some (.cells #[.bool false, .string (str n), .slice A1 n1 c1, .string (str on), .int .i64 ot, .slice none 0 0, .slice A4 n4 c4, .slice A2 n2 c2] 50 (0, 0))) := Lib.hid (by have z := setObj_heap (v := .slice A4 n4 c4) Y11.out (k := 6) (by simp); simpa using z)
  have X11a := Lib.hid (set_other (k := 6) (v := .slice A4 n4 c4) X11.out hne)
  have HG11a := Lib.hid (HG11.out.setLocal (k := 6) (B := w1.heap.size) (by omega) hlt (.slice A4 n4 c4))
  have F1_11a := Lib.hid (F1_11.out.stay (Stay.set (P := fun t => t = 50) (k := 6) Y11.out rfl (.slice A4 n4 c4)) (by decide) (fun a x hx => PrmV.stay (Stay.set (P := fun t => t = 50) (k := 6) Y11.out rfl (.slice A4 n4 c4)) a x hx))
  have F2_11a := Lib.hid (F2_11.out.stay (Stay.set (P := fun t => t = 50) (k := 6) Y11.out rfl (.slice A4 n4 c4)) (by decide) (fun a x hx => ItmV.stay (Stay.set (P := fun t => t = 50) (k := 6) Y11.out rfl (.slice A4 n4 c4)) (by decide) (by decide) a x hx))
  have F4_11a := Lib.hid (F4_11.out.stay (Stay.set (P := fun t => t = 50) (k := 6) Y11.out rfl (.slice A4 n4 c4)) (by decide) (fun a x hx => EqnV.stay (Stay.set (P := fun t => t = 50) (k := 6) Y11.out rfl (.slice A4 n4 c4)) (by decide) a x hx))
  go_wp2_with fail
  refine (need_lit (s := wTel) rfl HG11a.out.rd (by decide) H13.out).mono ?_
  rintro e w12 ⟨rfl, hg12⟩
  have HG12 := Lib.hid (HG11a.out.trans hg12)
  have x12 := hg12.block X11a.out (by omega)
  have y12 := hg12.block Y11a.out (by omega)
  have X12 := Lib.hid x12
  have Y12 := Lib.hid y12
  have lx12 := lt_of_block x12
  have ly12 := lt_of_block y12
  have F1_12 := Lib.hid (F1_11a.out.stay ((GrTo.stay HG11a.out.rd hg12)) (by decide) (fun a x hx => PrmV.stay (GrTo.stay HG11a.out.rd hg12) a x hx))
  have F2_12 := Lib.hid (F2_11a.out.stay ((GrTo.stay HG11a.out.rd hg12)) (by decide) (fun a x hx => ItmV.stay (GrTo.stay HG11a.out.rd hg12) (by decide) (by decide) a x hx))
  have F4_12 := Lib.hid (F4_11a.out.stay ((GrTo.stay HG11a.out.rd hg12)) (by decide) (fun a x hx => EqnV.stay (GrTo.stay HG11a.out.rd hg12) (by decide) a x hx))
  clear hg12 x12 y12 
  clear q11_6 k11_6
  have p0 : w12.cell? ⟨w.heap.size, 0, none⟩ = some (.bool false) := (cell_at X12.out 0).trans rfl
  have g0 : w12.frozen? ⟨w.heap.size, 0, none⟩ = false := free_at X12.out 0
  have q0 : w12.cell? ⟨w1.heap.size, 0, none⟩ = some (.bool false) := (cell_at Y12.out 0).trans rfl
  have p1 : w12.cell? ⟨w.heap.size, 1, none⟩ = some (.string ⟨#[]⟩) := (cell_at X12.out 1).trans rfl
  have g1 : w12.frozen? ⟨w.heap.size, 1, none⟩ = false := free_at X12.out 1
  have q1 : w12.cell? ⟨w1.heap.size, 1, none⟩ = some (.string (str n)) := (cell_at Y12.out 1).trans rfl
  have p2 : w12.cell? ⟨w.heap.size, 2, none⟩ = some (.slice none 0 0) := (cell_at X12.out 2).trans rfl
  have g2 : w12.frozen? ⟨w.heap.size, 2, none⟩ = false := free_at X12.out 2
  have q2 : w12.cell? ⟨w1.heap.size, 2, none⟩ = some (.slice A1 n1 c1) := (cell_at Y12.out 2).trans rfl
  have p3 : w12.cell? ⟨w.heap.size, 3, none⟩ = some (.string ⟨#[]⟩) := (cell_at X12.out 3).trans rfl
  have g3 : w12.frozen? ⟨w.heap.size, 3, none⟩ = false := free_at X12.out 3
  have q3 : w12.cell? ⟨w1.heap.size, 3, none⟩ = some (.string (str on)) := (cell_at Y12.out 3).trans rfl
  have p4 : w12.cell? ⟨w.heap.size, 4, none⟩ = some (.int .i64 0) := (cell_at X12.out 4).trans rfl
  have g4 : w12.frozen? ⟨w.heap.size, 4, none⟩ = false := free_at X12.out 4
  have q4 : w12.cell? ⟨w1.heap.size, 4, none⟩ = some (.int .i64 ot) := (cell_at Y12.out 4).trans rfl
  have p5 : w12.cell? ⟨w.heap.size, 5, none⟩ = some (.slice none 0 0) := (cell_at X12.out 5).trans rfl
  have g5 : w12.frozen? ⟨w.heap.size, 5, none⟩ = false := free_at X12.out 5
  have q5 : w12.cell? ⟨w1.heap.size, 5, none⟩ = some (.slice none 0 0) := (cell_at Y12.out 5).trans rfl
  have p6 : w12.cell? ⟨w.heap.size, 6, none⟩ = some (.slice none 0 0) := (cell_at X12.out 6).trans rfl
  have g6 : w12.frozen? ⟨w.heap.size, 6, none⟩ = false := free_at X12.out 6
  have q6 : w12.cell? ⟨w1.heap.size, 6, none⟩ = some (.slice A4 n4 c4) := (cell_at Y12.out 6).trans rfl
  have p7 : w12.cell? ⟨w.heap.size, 7, none⟩ = some (.slice none 0 0) := (cell_at X12.out 7).trans rfl
  have g7 : w12.frozen? ⟨w.heap.size, 7, none⟩ = false := free_at X12.out 7
  have q7 : w12.cell? ⟨w1.heap.size, 7, none⟩ = some (.slice A2 n2 c2) := (cell_at Y12.out 7).trans rfl
  go_wp2
  have Z := blk8 X12.out (.bool false) (.string (str n)) (.slice A1 n1 c1) (.string (str on)) (.int .i64 ot) (.slice none 0 0) (.slice A4 n4 c4) (.slice A2 n2 c2)
  have hsz : w12.heap.size ≤ ((((((((w12.setCell ⟨w.heap.size, 0, none⟩ (.bool false)).setCell ⟨w.heap.size, 1, none⟩ (.string (str n))).setCell ⟨w.heap.size, 2, none⟩ (.slice A1 n1 c1)).setCell ⟨w.heap.size, 3, none⟩ (.string (str on))).setCell ⟨w.heap.size, 4, none⟩ (.int .i64 ot)).setCell ⟨w.heap.size, 5, none⟩ (.slice none 0 0)).setCell ⟨w.heap.size, 6, none⟩ (.slice A4 n4 c4)).setCell ⟨w.heap.size, 7, none⟩ (.slice A2 n2 c2)).heap.size := by simp [World.setCell]
  have hst : Stay (fun t => t = 50) w12 ((((((((w12.setCell ⟨w.heap.size, 0, none⟩ (.bool false)).setCell ⟨w.heap.size, 1, none⟩ (.string (str n))).setCell ⟨w.heap.size, 2, none⟩ (.slice A1 n1 c1)).setCell ⟨w.heap.size, 3, none⟩ (.string (str on))).setCell ⟨w.heap.size, 4, none⟩ (.int .i64 ot)).setCell ⟨w.heap.size, 5, none⟩ (.slice none 0 0)).setCell ⟨w.heap.size, 6, none⟩ (.slice A4 n4 c4)).setCell ⟨w.heap.size, 7, none⟩ (.slice A2 n2 c2)) := Stay.sets X12.out rfl hsz (fun g hg => by simp only [set_ne hg])
  have z0 := (cell_at Z 0).trans (show _ = some (.bool false) from rfl)
  have z1 := (cell_at Z 1).trans (show _ = some (.string (str n)) from rfl)
  have z2 := (cell_at Z 2).trans (show _ = some (.slice A1 n1 c1) from rfl)
  have z3 := (cell_at Z 3).trans (show _ = some (.string (str on)) from rfl)
  have z4 := (cell_at Z 4).trans (show _ = some (.int .i64 ot) from rfl)
  have z5 := (cell_at Z 5).trans (show _ = some (.slice none 0 0) from rfl)
  have z6 := (cell_at Z 6).trans (show _ = some (.slice A4 n4 c4) from rfl)
  have z7 := (cell_at Z 7).trans (show _ = some (.slice A2 n2 c2) from rfl)
  clear p0 g0 q0 p1 g1 q1 p2 g2 q2 p3 g3 q3 p4 g4 q4 p5 g5 q5 p6 g6 q6 p7 g7 q7
  exact bodyPost_ret (v := .agg #[.bool false, .string (str n), .slice A1 n1 c1, .string (str on), .int .i64 ot, .slice none 0 0, .slice A4 n4 c4, .slice A2 n2 c2]) (by simp [results, Tryz.results95, go_sem, z0, z1, z2, z3, z4, z5, z6, z7]) rfl (UntG.of HE.out (F1_12.out.stay hst (by decide) (fun a x hx => PrmV.stay hst a x hx)) (RowR.nil _ _ _ _) (F4_12.out.stay hst (by decide) (fun a x hx => EqnV.stay hst (by decide) a x hx)) (F2_12.out.stay hst (by decide) (fun a x hx => ItmV.stay hst (by decide) (by decide) a x hx)) ((((((((HG12.out.setLocal (by omega) hlt _).setLocal (by omega) hlt _).setLocal (by omega) hlt _).setLocal (by omega) hlt _).setLocal (by omega) hlt _).setLocal (by omega) hlt _).setLocal (by omega) hlt _).setLocal (by omega) hlt _))
end Go.Proofs.YtgohhnbdicdenaaGreatDoor.Pg

/- Contracts of layer prog's reader: a node. Conditions: a reader lies in memory. -/
namespace Go.Proofs.YtgohhnbdicdenaaGreatDoor.Pg
open Go.ChangeShapes Go.WideShapes Go.ChangeAt Go.RowKit
open Go.Proofs.YtgohhnbdicdenaaGreatDoor.Ex
open Go.Proofs.YtgohhnbdicdenaaGreatDoor.Tr (str ret_bool ret_int Bytes Nd)
set_option linter.unusedVariables false
set_option linter.unusedSimpArgs false

set_option maxRecDepth 100000 in
set_option maxHeartbeats 8000000 in
theorem node_11 (b : Nat) (r : Rd) (w : World) (hr : GrAt w b r) (n : Bytes) (i : List Prm) (on : Bytes) (ot : Int) (l : List Itm) (vs : List Prm) (q : List Eqn) (r1 r2 r3 r4 r5 r6 r7 r8 r9 r10 r11 r12 r13 : Rd) (X : Unt × Rd) (h1 : nameP r = (n, r1)) (h2 : encP sSemi paramP r1 = (i, r2)) (h3 : (needP wReturns r2).2 = r3) (h4 : (needP [40] r3).2 = r4) (h5 : paramP r4 = (⟨on, ot⟩, r5)) (h6 : (needP [41] r5).2 = r6) (h7 : takeP wContract r6 = (true, r7)) (h8 : (if true then itemsP else pPure []) r7 = (l, r8)) (h9 : takeP wVar r8 = (true, r9)) (h10 : (if true then streamsP else pPure []) r9 = (vs, r10)) (h11 : (needP wLet r10).2 = r11) (h12 : rowP atNameB eqnP r11 = (q, r12)) (h13 : (needP wTel r12).2 = r13) (he : ((⟨false, n, i, ⟨on, ot⟩, vs, q, l⟩ : Unt), r13) = X) : Calls Tryz.prog 95 #[.pointer (some ⟨b, 0, none⟩)] w (UntG w b X) := by
  have HR := Lib.hid hr
  have hlt := hr.lt
  have hmf : ∀ (fn : Fn) (first cap : Array Value) (w : World), (Instr.makeFunc fn first cap).run Tryz.prog w = .ok (.func fn first cap) w := fun _ _ _ _ => rfl
  have HE := Lib.hid he
  have H1 := Lib.hid h1
  have H3 := Lib.hid h3
  have H4 := Lib.hid h4
  have H6 := Lib.hid h6
  have H7 := Lib.hid h7
  have H9 := Lib.hid h9
  have H11 := Lib.hid h11
  have H13 := Lib.hid h13
  have HC2 : Hid (∀ w', GrAt w' b r1 → Calls Tryz.prog 108 #[.pointer (some ⟨b, 0, none⟩), .string ⟨#[59]⟩, .func (.func 109) #[.pointer (some ⟨b, 0, none⟩)] #[]] w' (RowG 46 2 PrmV w' b (i, r2))) := Lib.hid (fun w' h => by rw [← h2]; exact encS_any b r1 w' h)
  have HC5 : Hid (∀ w', GrAt w' b r4 → Calls Tryz.prog 109 #[.pointer (some ⟨b, 0, none⟩)] w' (PrmG w' b (⟨on, ot⟩, r5))) := Lib.hid (fun w' h => by rw [← h5]; exact param_any b r4 w' h)
  have HC12 : Hid (∀ w', GrAt w' b r11 → Calls Tryz.prog 112 #[.pointer (some ⟨b, 0, none⟩), .func (.func 96) #[.pointer (some ⟨b, 0, none⟩)] #[], .func (.func 113) #[.pointer (some ⟨b, 0, none⟩)] #[]] w' (RowG 78 2 EqnV w' b (q, r12))) := Lib.hid (fun w' h => by rw [← h12]; exact rowQ_any b r11 w' h)
  have HC8 : Hid (∀ w', GrAt w' b r7 → Calls Tryz.prog 110 #[.pointer (some ⟨b, 0, none⟩)] w' (RowG 72 6 ItmV w' b (l, r8))) := Lib.hid (fun w' h => by rw [← h8]; exact items_any b r7 w' h)
  have HC10 : Hid (∀ w', GrAt w' b r9 → Calls Tryz.prog 111 #[.pointer (some ⟨b, 0, none⟩)] w' (RowG 46 2 PrmV w' b (vs, r10))) := Lib.hid (fun w' h => by rw [← h10]; exact streams_any b r9 w' h)
  clear h1 h2 h3 h4 h5 h6 h7 h8 h9 h10 h11 h12 h13 he hr
  have hX0 := Lib.hid (heap_alloc_new w (.cells #[.bool false, .string ⟨#[]⟩, .slice none 0 0, .string ⟨#[]⟩, .int .i64 0, .slice none 0 0, .slice none 0 0, .slice none 0 0] 50))
  go_enter Tryz.func95, Tryz.ntmps95
  go_wp2_with fail
  refine (name_lit (HR.out.below (below_new w _)) H1.out).mono ?_
  rintro e w1 ⟨rfl, hg1⟩
  have HG1 := Lib.hid (GrTo.below (below_new w _) hlt hg1)
  have x1 := hg1.block hX0.out (by omega)
  have hs1 := hg1.grown.size
  simp at hs1
  have X1 := Lib.hid x1
  clear hg1 x1
  have HG1a := Lib.hid (HG1.out.then_below (below_new w1 (.cells #[.bool false, .string (str n), .slice none 0 0, .string ⟨#[]⟩, .int .i64 0, .slice none 0 0, .slice none 0 0, .slice none 0 0] 50)))
  have X1a := Lib.hid (((below_new w1 (.cells #[.bool false, .string (str n), .slice none 0 0, .string ⟨#[]⟩, .int .i64 0, .slice none 0 0, .slice none 0 0, .slice none 0 0] 50)).block _ (lt_of_block X1.out)).trans X1.out)
  have Y1a := Lib.hid (heap_alloc_new w1 (.cells #[.bool false, .string (str n), .slice none 0 0, .string ⟨#[]⟩, .int .i64 0, .slice none 0 0, .slice none 0 0, .slice none 0 0] 50))
  have hne : w.heap.size ≠ w1.heap.size := by omega
  go_wp2_with fail
  refine (HC2.out _ HG1a.out.rd).mono ?_
  rintro e w2 ⟨iv, rfl, hi2, hg2⟩
  have HG2 := Lib.hid (HG1a.out.trans hg2)
  have x2 := hg2.block X1a.out (by omega)
  have y2 := hg2.block Y1a.out (by omega)
  have X2 := Lib.hid x2
  have Y2 := Lib.hid y2
  have lx2 := lt_of_block x2
  have ly2 := lt_of_block y2
  obtain ⟨A1, n1, c1, rfl, u1, u2⟩ := row_form hi2
  have F1_2 := Lib.hid hi2
  clear hg2 x2 y2 hi2
  have q2_2 : w2.cell? ⟨w1.heap.size, 2, none⟩ = some (.slice none 0 0) := (cell_at Y2.out 2).trans rfl
  have k2_2 : w2.frozen? ⟨w1.heap.size, 2, none⟩ = false := free_at Y2.out 2
  have Y2a : Hid ((w2.setCell ⟨w1.heap.size, 2, none⟩ (.slice A1 n1 c1)).heap[w1.heap.size]? = some (.cells #[.bool false, .string (str n), .slice A1 n1 c1, .string ⟨#[]⟩, .int .i64 0, .slice none 0 0, .slice none 0 0, .slice none 0 0] 50 (0, 0))) := Lib.hid (by have z := setObj_heap (v := .slice A1 n1 c1) Y2.out (k := 2) (by simp); simpa using z)
  have X2a := Lib.hid (set_other (k := 2) (v := .slice A1 n1 c1) X2.out hne)
  have HG2a := Lib.hid (HG2.out.setLocal (k := 2) (B := w1.heap.size) (by omega) hlt (.slice A1 n1 c1))
  have F1_2a := Lib.hid (F1_2.out.stay (Stay.set (P := fun t => t = 50) (k := 2) Y2.out rfl (.slice A1 n1 c1)) (by decide) (fun a x hx => PrmV.stay (Stay.set (P := fun t => t = 50) (k := 2) Y2.out rfl (.slice A1 n1 c1)) a x hx))
  go_wp2_with fail
  refine (need_lit (s := wReturns) rfl HG2a.out.rd (by decide) H3.out).mono ?_
  rintro e w3 ⟨rfl, hg3⟩
  have HG3 := Lib.hid (HG2a.out.trans hg3)
  have x3 := hg3.block X2a.out (by omega)
  have y3 := hg3.block Y2a.out (by omega)
  have X3 := Lib.hid x3
  have Y3 := Lib.hid y3
  have lx3 := lt_of_block x3
  have ly3 := lt_of_block y3
  have F1_3 := Lib.hid (F1_2a.out.stay ((GrTo.stay HG2a.out.rd hg3)) (by decide) (fun a x hx => PrmV.stay (GrTo.stay HG2a.out.rd hg3) a x hx))
  clear hg3 x3 y3 
  clear q2_2 k2_2
  go_wp2_with fail
  refine (need_lit (s := [40]) rfl HG3.out.rd (by decide) H4.out).mono ?_
  rintro e w4 ⟨rfl, hg4⟩
  have HG4 := Lib.hid (HG3.out.trans hg4)
  have x4 := hg4.block X3.out (by omega)
  have y4 := hg4.block Y3.out (by omega)
  have X4 := Lib.hid x4
  have Y4 := Lib.hid y4
  have lx4 := lt_of_block x4
  have ly4 := lt_of_block y4
  have F1_4 := Lib.hid (F1_3.out.stay ((GrTo.stay HG3.out.rd hg4)) (by decide) (fun a x hx => PrmV.stay (GrTo.stay HG3.out.rd hg4) a x hx))
  clear hg4 x4 y4 
  go_wp2_with fail
  refine (HC5.out _ HG4.out.rd).mono ?_
  rintro e w5 ⟨rfl, hg5⟩
  have HG5 := Lib.hid (HG4.out.trans hg5)
  have x5 := hg5.block X4.out (by omega)
  have y5 := hg5.block Y4.out (by omega)
  have X5 := Lib.hid x5
  have Y5 := Lib.hid y5
  have lx5 := lt_of_block x5
  have ly5 := lt_of_block y5
  have F1_5 := Lib.hid (F1_4.out.stay ((GrTo.stay HG4.out.rd hg5)) (by decide) (fun a x hx => PrmV.stay (GrTo.stay HG4.out.rd hg5) a x hx))
  clear hg5 x5 y5 
  have q5_3 : w5.cell? ⟨w1.heap.size, 3, none⟩ = some (.string ⟨#[]⟩) := (cell_at Y5.out 3).trans rfl
  have k5_3 : w5.frozen? ⟨w1.heap.size, 3, none⟩ = false := free_at Y5.out 3
  have q5_4 : w5.cell? ⟨w1.heap.size, 4, none⟩ = some (.int .i64 0) := (cell_at Y5.out 4).trans rfl
  have k5_4 : w5.frozen? ⟨w1.heap.size, 4, none⟩ = false := free_at Y5.out 4
  have Y5a : Hid ((w5.setCell ⟨w1.heap.size, 3, none⟩ (.string (str on))).heap[w1.heap.size]? = some (.cells #[.bool false, .string (str n), .slice A1 n1 c1, .string (str on), .int .i64 0, .slice none 0 0, .slice none 0 0, .slice none 0 0] 50 (0, 0))) := Lib.hid (by have z := setObj_heap (v := .string (str on)) Y5.out (k := 3) (by simp); simpa using z)
  have X5a := Lib.hid (set_other (k := 3) (v := .string (str on)) X5.out hne)
  have HG5a := Lib.hid (HG5.out.setLocal (k := 3) (B := w1.heap.size) (by omega) hlt (.string (str on)))
  have F1_5a := Lib.hid (F1_5.out.stay (Stay.set (P := fun t => t = 50) (k := 3) Y5.out rfl (.string (str on))) (by decide) (fun a x hx => PrmV.stay (Stay.set (P := fun t => t = 50) (k := 3) Y5.out rfl (.string (str on))) a x hx))
  have Y5b : Hid (((w5.setCell ⟨w1.heap.size, 3, none⟩ (.string (str on))).setCell ⟨w1.heap.size, 4, none⟩ (.int .i64 ot)).heap[w1.heap.size]? = some (.cells #[.bool false, .string (str n), .slice A1 n1 c1, .string (str on), .int .i64 ot, .slice none 0 0, .slice none 0 0, .slice none 0 0] 50 (0, 0))) := Lib.hid (by have z := setObj_heap (v := .int .i64 ot) Y5a.out (k := 4) (by simp); simpa using z)
  have X5b := Lib.hid (set_other (k := 4) (v := .int .i64 ot) X5a.out hne)
  have HG5b := Lib.hid (HG5a.out.setLocal (k := 4) (B := w1.heap.size) (by omega) hlt (.int .i64 ot))
  have F1_5b := Lib.hid (F1_5a.out.stay (Stay.set (P := fun t => t = 50) (k := 4) Y5a.out rfl (.int .i64 ot)) (by decide) (fun a x hx => PrmV.stay (Stay.set (P := fun t => t = 50) (k := 4) Y5a.out rfl (.int .i64 ot)) a x hx))
  go_wp2_with fail
  refine (need_lit (s := [41]) rfl HG5b.out.rd (by decide) H6.out).mono ?_
  rintro e w6 ⟨rfl, hg6⟩
  have HG6 := Lib.hid (HG5b.out.trans hg6)
  have x6 := hg6.block X5b.out (by omega)
  have y6 := hg6.block Y5b.out (by omega)
  have X6 := Lib.hid x6
  have Y6 := Lib.hid y6
  have lx6 := lt_of_block x6
  have ly6 := lt_of_block y6
  have F1_6 := Lib.hid (F1_5b.out.stay ((GrTo.stay HG5b.out.rd hg6)) (by decide) (fun a x hx => PrmV.stay (GrTo.stay HG5b.out.rd hg6) a x hx))
  clear hg6 x6 y6 
  clear q5_3 k5_3 q5_4 k5_4
  go_wp2_with fail
  refine (take_lit (s := wContract) rfl HG6.out.rd (by decide) H7.out).mono ?_
  rintro e w7 ⟨rfl, hg7⟩
  have HG7 := Lib.hid (HG6.out.trans hg7)
  have x7 := hg7.block X6.out (by omega)
  have y7 := hg7.block Y6.out (by omega)
  have X7 := Lib.hid x7
  have Y7 := Lib.hid y7
  have lx7 := lt_of_block x7
  have ly7 := lt_of_block y7
  have F1_7 := Lib.hid (F1_6.out.stay ((GrTo.stay HG6.out.rd hg7)) (by decide) (fun a x hx => PrmV.stay (GrTo.stay HG6.out.rd hg7) a x hx))
  clear hg7 x7 y7 
  go_wp2_with fail
  refine (HC8.out _ HG7.out.rd).mono ?_
  rintro e w8 ⟨lv, rfl, hl8, hg8⟩
  have HG8 := Lib.hid (HG7.out.trans hg8)
  have x8 := hg8.block X7.out (by omega)
  have y8 := hg8.block Y7.out (by omega)
  have X8 := Lib.hid x8
  have Y8 := Lib.hid y8
  have lx8 := lt_of_block x8
  have ly8 := lt_of_block y8
  have F1_8 := Lib.hid (F1_7.out.stay ((GrTo.stay HG7.out.rd hg8)) (by decide) (fun a x hx => PrmV.stay (GrTo.stay HG7.out.rd hg8) a x hx))
  obtain ⟨A2, n2, c2, rfl, u3, u4⟩ := row_form hl8
  have F2_8 := Lib.hid hl8
  clear hg8 x8 y8 hl8
  have q8_7 : w8.cell? ⟨w1.heap.size, 7, none⟩ = some (.slice none 0 0) := (cell_at Y8.out 7).trans rfl
  have k8_7 : w8.frozen? ⟨w1.heap.size, 7, none⟩ = false := free_at Y8.out 7
  have Y8a : Hid ((w8.setCell ⟨w1.heap.size, 7, none⟩ (.slice A2 n2 c2)).heap[w1.heap.size]? = some (.cells #[.bool false, .string (str n), .slice A1 n1 c1, .string (str on), .int .i64 ot, .slice none 0 0, .slice none 0 0, .slice A2 n2 c2] 50 (0, 0))) := Lib.hid (by have z := setObj_heap (v := .slice A2 n2 c2) Y8.out (k := 7) (by simp); simpa using z)
  have X8a := Lib.hid (set_other (k := 7) (v := .slice A2 n2 c2) X8.out hne)
  have HG8a := Lib.hid (HG8.out.setLocal (k := 7) (B := w1.heap.size) (by omega) hlt (.slice A2 n2 c2))
  have F1_8a := Lib.hid (F1_8.out.stay (Stay.set (P := fun t => t = 50) (k := 7) Y8.out rfl (.slice A2 n2 c2)) (by decide) (fun a x hx => PrmV.stay (Stay.set (P := fun t => t = 50) (k := 7) Y8.out rfl (.slice A2 n2 c2)) a x hx))
  have F2_8a := Lib.hid (F2_8.out.stay (Stay.set (P := fun t => t = 50) (k := 7) Y8.out rfl (.slice A2 n2 c2)) (by decide) (fun a x hx => ItmV.stay (Stay.set (P := fun t => t = 50) (k := 7) Y8.out rfl (.slice A2 n2 c2)) (by decide) (by decide) a x hx))
  go_wp2_with fail
  refine (take_lit (s := wVar) rfl HG8a.out.rd (by decide) H9.out).mono ?_
  rintro e w9 ⟨rfl, hg9⟩
  have HG9 := Lib.hid (HG8a.out.trans hg9)
  have x9 := hg9.block X8a.out (by omega)
  have y9 := hg9.block Y8a.out (by omega)
  have X9 := Lib.hid x9
  have Y9 := Lib.hid y9
  have lx9 := lt_of_block x9
  have ly9 := lt_of_block y9
  have F1_9 := Lib.hid (F1_8a.out.stay ((GrTo.stay HG8a.out.rd hg9)) (by decide) (fun a x hx => PrmV.stay (GrTo.stay HG8a.out.rd hg9) a x hx))
  have F2_9 := Lib.hid (F2_8a.out.stay ((GrTo.stay HG8a.out.rd hg9)) (by decide) (fun a x hx => ItmV.stay (GrTo.stay HG8a.out.rd hg9) (by decide) (by decide) a x hx))
  clear hg9 x9 y9 
  clear q8_7 k8_7
  go_wp2_with fail
  refine (HC10.out _ HG9.out.rd).mono ?_
  rintro e w10 ⟨vv, rfl, hv10, hg10⟩
  have HG10 := Lib.hid (HG9.out.trans hg10)
  have x10 := hg10.block X9.out (by omega)
  have y10 := hg10.block Y9.out (by omega)
  have X10 := Lib.hid x10
  have Y10 := Lib.hid y10
  have lx10 := lt_of_block x10
  have ly10 := lt_of_block y10
  have F1_10 := Lib.hid (F1_9.out.stay ((GrTo.stay HG9.out.rd hg10)) (by decide) (fun a x hx => PrmV.stay (GrTo.stay HG9.out.rd hg10) a x hx))
  have F2_10 := Lib.hid (F2_9.out.stay ((GrTo.stay HG9.out.rd hg10)) (by decide) (fun a x hx => ItmV.stay (GrTo.stay HG9.out.rd hg10) (by decide) (by decide) a x hx))
  obtain ⟨A3, n3, c3, rfl, u5, u6⟩ := row_form hv10
  have F3_10 := Lib.hid hv10
  clear hg10 x10 y10 hv10
  have q10_5 : w10.cell? ⟨w1.heap.size, 5, none⟩ = some (.slice none 0 0) := (cell_at Y10.out 5).trans rfl
  have k10_5 : w10.frozen? ⟨w1.heap.size, 5, none⟩ = false := free_at Y10.out 5
  have Y10a : Hid ((w10.setCell ⟨w1.heap.size, 5, none⟩ (.slice A3 n3 c3)).heap[w1.heap.size]? = some (.cells #[.bool false, .string (str n), .slice A1 n1 c1, .string (str on), .int .i64 ot, .slice A3 n3 c3, .slice none 0 0, .slice A2 n2 c2] 50 (0, 0))) := Lib.hid (by have z := setObj_heap (v := .slice A3 n3 c3) Y10.out (k := 5) (by simp); simpa using z)
  have X10a := Lib.hid (set_other (k := 5) (v := .slice A3 n3 c3) X10.out hne)
  have HG10a := Lib.hid (HG10.out.setLocal (k := 5) (B := w1.heap.size) (by omega) hlt (.slice A3 n3 c3))
  have F1_10a := Lib.hid (F1_10.out.stay (Stay.set (P := fun t => t = 50) (k := 5) Y10.out rfl (.slice A3 n3 c3)) (by decide) (fun a x hx => PrmV.stay (Stay.set (P := fun t => t = 50) (k := 5) Y10.out rfl (.slice A3 n3 c3)) a x hx))
  have F2_10a := Lib.hid (F2_10.out.stay (Stay.set (P := fun t => t = 50) (k := 5) Y10.out rfl (.slice A3 n3 c3)) (by decide) (fun a x hx => ItmV.stay (Stay.set (P := fun t => t = 50) (k := 5) Y10.out rfl (.slice A3 n3 c3)) (by decide) (by decide) a x hx))
  have F3_10a := Lib.hid (F3_10.out.stay (Stay.set (P := fun t => t = 50) (k := 5) Y10.out rfl (.slice A3 n3 c3)) (by decide) (fun a x hx => PrmV.stay (Stay.set (P := fun t => t = 50) (k := 5) Y10.out rfl (.slice A3 n3 c3)) a x hx))
  go_wp2_with fail
  refine (need_lit (s := wLet) rfl HG10a.out.rd (by decide) H11.out).mono ?_
  rintro e w11 ⟨rfl, hg11⟩
  have HG11 := Lib.hid (HG10a.out.trans hg11)
  have x11 := hg11.block X10a.out (by omega)
  have y11 := hg11.block Y10a.out (by omega)
  have X11 := Lib.hid x11
  have Y11 := Lib.hid y11
  have lx11 := lt_of_block x11
  have ly11 := lt_of_block y11
  have F1_11 := Lib.hid (F1_10a.out.stay ((GrTo.stay HG10a.out.rd hg11)) (by decide) (fun a x hx => PrmV.stay (GrTo.stay HG10a.out.rd hg11) a x hx))
  have F2_11 := Lib.hid (F2_10a.out.stay ((GrTo.stay HG10a.out.rd hg11)) (by decide) (fun a x hx => ItmV.stay (GrTo.stay HG10a.out.rd hg11) (by decide) (by decide) a x hx))
  have F3_11 := Lib.hid (F3_10a.out.stay ((GrTo.stay HG10a.out.rd hg11)) (by decide) (fun a x hx => PrmV.stay (GrTo.stay HG10a.out.rd hg11) a x hx))
  clear hg11 x11 y11 
  clear q10_5 k10_5
  go_wp2_with fail
  refine (HC12.out _ HG11.out.rd).mono ?_
  rintro e w12 ⟨qv, rfl, hq12, hg12⟩
  have HG12 := Lib.hid (HG11.out.trans hg12)
  have x12 := hg12.block X11.out (by omega)
  have y12 := hg12.block Y11.out (by omega)
  have X12 := Lib.hid x12
  have Y12 := Lib.hid y12
  have lx12 := lt_of_block x12
  have ly12 := lt_of_block y12
  have F1_12 := Lib.hid (F1_11.out.stay ((GrTo.stay HG11.out.rd hg12)) (by decide) (fun a x hx => PrmV.stay (GrTo.stay HG11.out.rd hg12) a x hx))
  have F2_12 := Lib.hid (F2_11.out.stay ((GrTo.stay HG11.out.rd hg12)) (by decide) (fun a x hx => ItmV.stay (GrTo.stay HG11.out.rd hg12) (by decide) (by decide) a x hx))
  have F3_12 := Lib.hid (F3_11.out.stay ((GrTo.stay HG11.out.rd hg12)) (by decide) (fun a x hx => PrmV.stay (GrTo.stay HG11.out.rd hg12) a x hx))
  obtain ⟨A4, n4, c4, rfl, u7, u8⟩ := row_form hq12
  have F4_12 := Lib.hid hq12
  clear hg12 x12 y12 hq12
  have q12_6 : w12.cell? ⟨w1.heap.size, 6, none⟩ = some (.slice none 0 0) := (cell_at Y12.out 6).trans rfl
  have k12_6 : w12.frozen? ⟨w1.heap.size, 6, none⟩ = false := free_at Y12.out 6
  have Y12a : Hid ((w12.setCell ⟨w1.heap.size, 6, none⟩ (.slice A4 n4 c4)).heap[w1.heap.size]? = some (.cells #[.bool false, .string (str n), .slice A1 n1 c1, .string (str on), .int .i64 ot, .slice A3 n3 c3, .slice A4 n4 c4, .slice A2 n2 c2] 50 (0, 0))) := Lib.hid (by have z := setObj_heap (v := .slice A4 n4 c4) Y12.out (k := 6) (by simp); simpa using z)
  have X12a := Lib.hid (set_other (k := 6) (v := .slice A4 n4 c4) X12.out hne)
  have HG12a := Lib.hid (HG12.out.setLocal (k := 6) (B := w1.heap.size) (by omega) hlt (.slice A4 n4 c4))
  have F1_12a := Lib.hid (F1_12.out.stay (Stay.set (P := fun t => t = 50) (k := 6) Y12.out rfl (.slice A4 n4 c4)) (by decide) (fun a x hx => PrmV.stay (Stay.set (P := fun t => t = 50) (k := 6) Y12.out rfl (.slice A4 n4 c4)) a x hx))
  have F2_12a := Lib.hid (F2_12.out.stay (Stay.set (P := fun t => t = 50) (k := 6) Y12.out rfl (.slice A4 n4 c4)) (by decide) (fun a x hx => ItmV.stay (Stay.set (P := fun t => t = 50) (k := 6) Y12.out rfl (.slice A4 n4 c4)) (by decide) (by decide) a x hx))
  have F3_12a := Lib.hid (F3_12.out.stay (Stay.set (P := fun t => t = 50) (k := 6) Y12.out rfl (.slice A4 n4 c4)) (by decide) (fun a x hx => PrmV.stay (Stay.set (P := fun t => t = 50) (k := 6) Y12.out rfl (.slice A4 n4 c4)) a x hx))
  have F4_12a := Lib.hid (F4_12.out.stay (Stay.set (P := fun t => t = 50) (k := 6) Y12.out rfl (.slice A4 n4 c4)) (by decide) (fun a x hx => EqnV.stay (Stay.set (P := fun t => t = 50) (k := 6) Y12.out rfl (.slice A4 n4 c4)) (by decide) a x hx))
  go_wp2_with fail
  refine (need_lit (s := wTel) rfl HG12a.out.rd (by decide) H13.out).mono ?_
  rintro e w13 ⟨rfl, hg13⟩
  have HG13 := Lib.hid (HG12a.out.trans hg13)
  have x13 := hg13.block X12a.out (by omega)
  have y13 := hg13.block Y12a.out (by omega)
  have X13 := Lib.hid x13
  have Y13 := Lib.hid y13
  have lx13 := lt_of_block x13
  have ly13 := lt_of_block y13
  have F1_13 := Lib.hid (F1_12a.out.stay ((GrTo.stay HG12a.out.rd hg13)) (by decide) (fun a x hx => PrmV.stay (GrTo.stay HG12a.out.rd hg13) a x hx))
  have F2_13 := Lib.hid (F2_12a.out.stay ((GrTo.stay HG12a.out.rd hg13)) (by decide) (fun a x hx => ItmV.stay (GrTo.stay HG12a.out.rd hg13) (by decide) (by decide) a x hx))
  have F3_13 := Lib.hid (F3_12a.out.stay ((GrTo.stay HG12a.out.rd hg13)) (by decide) (fun a x hx => PrmV.stay (GrTo.stay HG12a.out.rd hg13) a x hx))
  have F4_13 := Lib.hid (F4_12a.out.stay ((GrTo.stay HG12a.out.rd hg13)) (by decide) (fun a x hx => EqnV.stay (GrTo.stay HG12a.out.rd hg13) (by decide) a x hx))
  clear hg13 x13 y13 
  clear q12_6 k12_6
  have p0 : w13.cell? ⟨w.heap.size, 0, none⟩ = some (.bool false) := (cell_at X13.out 0).trans rfl
  have g0 : w13.frozen? ⟨w.heap.size, 0, none⟩ = false := free_at X13.out 0
  have q0 : w13.cell? ⟨w1.heap.size, 0, none⟩ = some (.bool false) := (cell_at Y13.out 0).trans rfl
  have p1 : w13.cell? ⟨w.heap.size, 1, none⟩ = some (.string ⟨#[]⟩) := (cell_at X13.out 1).trans rfl
  have g1 : w13.frozen? ⟨w.heap.size, 1, none⟩ = false := free_at X13.out 1
  have q1 : w13.cell? ⟨w1.heap.size, 1, none⟩ = some (.string (str n)) := (cell_at Y13.out 1).trans rfl
  have p2 : w13.cell? ⟨w.heap.size, 2, none⟩ = some (.slice none 0 0) := (cell_at X13.out 2).trans rfl
  have g2 : w13.frozen? ⟨w.heap.size, 2, none⟩ = false := free_at X13.out 2
  have q2 : w13.cell? ⟨w1.heap.size, 2, none⟩ = some (.slice A1 n1 c1) := (cell_at Y13.out 2).trans rfl
  have p3 : w13.cell? ⟨w.heap.size, 3, none⟩ = some (.string ⟨#[]⟩) := (cell_at X13.out 3).trans rfl
  have g3 : w13.frozen? ⟨w.heap.size, 3, none⟩ = false := free_at X13.out 3
  have q3 : w13.cell? ⟨w1.heap.size, 3, none⟩ = some (.string (str on)) := (cell_at Y13.out 3).trans rfl
  have p4 : w13.cell? ⟨w.heap.size, 4, none⟩ = some (.int .i64 0) := (cell_at X13.out 4).trans rfl
  have g4 : w13.frozen? ⟨w.heap.size, 4, none⟩ = false := free_at X13.out 4
  have q4 : w13.cell? ⟨w1.heap.size, 4, none⟩ = some (.int .i64 ot) := (cell_at Y13.out 4).trans rfl
  have p5 : w13.cell? ⟨w.heap.size, 5, none⟩ = some (.slice none 0 0) := (cell_at X13.out 5).trans rfl
  have g5 : w13.frozen? ⟨w.heap.size, 5, none⟩ = false := free_at X13.out 5
  have q5 : w13.cell? ⟨w1.heap.size, 5, none⟩ = some (.slice A3 n3 c3) := (cell_at Y13.out 5).trans rfl
  have p6 : w13.cell? ⟨w.heap.size, 6, none⟩ = some (.slice none 0 0) := (cell_at X13.out 6).trans rfl
  have g6 : w13.frozen? ⟨w.heap.size, 6, none⟩ = false := free_at X13.out 6
  have q6 : w13.cell? ⟨w1.heap.size, 6, none⟩ = some (.slice A4 n4 c4) := (cell_at Y13.out 6).trans rfl
  have p7 : w13.cell? ⟨w.heap.size, 7, none⟩ = some (.slice none 0 0) := (cell_at X13.out 7).trans rfl
  have g7 : w13.frozen? ⟨w.heap.size, 7, none⟩ = false := free_at X13.out 7
  have q7 : w13.cell? ⟨w1.heap.size, 7, none⟩ = some (.slice A2 n2 c2) := (cell_at Y13.out 7).trans rfl
  go_wp2
  have Z := blk8 X13.out (.bool false) (.string (str n)) (.slice A1 n1 c1) (.string (str on)) (.int .i64 ot) (.slice A3 n3 c3) (.slice A4 n4 c4) (.slice A2 n2 c2)
  have hsz : w13.heap.size ≤ ((((((((w13.setCell ⟨w.heap.size, 0, none⟩ (.bool false)).setCell ⟨w.heap.size, 1, none⟩ (.string (str n))).setCell ⟨w.heap.size, 2, none⟩ (.slice A1 n1 c1)).setCell ⟨w.heap.size, 3, none⟩ (.string (str on))).setCell ⟨w.heap.size, 4, none⟩ (.int .i64 ot)).setCell ⟨w.heap.size, 5, none⟩ (.slice A3 n3 c3)).setCell ⟨w.heap.size, 6, none⟩ (.slice A4 n4 c4)).setCell ⟨w.heap.size, 7, none⟩ (.slice A2 n2 c2)).heap.size := by simp [World.setCell]
  have hst : Stay (fun t => t = 50) w13 ((((((((w13.setCell ⟨w.heap.size, 0, none⟩ (.bool false)).setCell ⟨w.heap.size, 1, none⟩ (.string (str n))).setCell ⟨w.heap.size, 2, none⟩ (.slice A1 n1 c1)).setCell ⟨w.heap.size, 3, none⟩ (.string (str on))).setCell ⟨w.heap.size, 4, none⟩ (.int .i64 ot)).setCell ⟨w.heap.size, 5, none⟩ (.slice A3 n3 c3)).setCell ⟨w.heap.size, 6, none⟩ (.slice A4 n4 c4)).setCell ⟨w.heap.size, 7, none⟩ (.slice A2 n2 c2)) := Stay.sets X13.out rfl hsz (fun g hg => by simp only [set_ne hg])
  have z0 := (cell_at Z 0).trans (show _ = some (.bool false) from rfl)
  have z1 := (cell_at Z 1).trans (show _ = some (.string (str n)) from rfl)
  have z2 := (cell_at Z 2).trans (show _ = some (.slice A1 n1 c1) from rfl)
  have z3 := (cell_at Z 3).trans (show _ = some (.string (str on)) from rfl)
  have z4 := (cell_at Z 4).trans (show _ = some (.int .i64 ot) from rfl)
  have z5 := (cell_at Z 5).trans (show _ = some (.slice A3 n3 c3) from rfl)
  have z6 := (cell_at Z 6).trans (show _ = some (.slice A4 n4 c4) from rfl)
  have z7 := (cell_at Z 7).trans (show _ = some (.slice A2 n2 c2) from rfl)
  clear p0 g0 q0 p1 g1 q1 p2 g2 q2 p3 g3 q3 p4 g4 q4 p5 g5 q5 p6 g6 q6 p7 g7 q7
  exact bodyPost_ret (v := .agg #[.bool false, .string (str n), .slice A1 n1 c1, .string (str on), .int .i64 ot, .slice A3 n3 c3, .slice A4 n4 c4, .slice A2 n2 c2]) (by simp [results, Tryz.results95, go_sem, z0, z1, z2, z3, z4, z5, z6, z7]) rfl (UntG.of HE.out (F1_13.out.stay hst (by decide) (fun a x hx => PrmV.stay hst a x hx)) (F3_13.out.stay hst (by decide) (fun a x hx => PrmV.stay hst a x hx)) (F4_13.out.stay hst (by decide) (fun a x hx => EqnV.stay hst (by decide) a x hx)) (F2_13.out.stay hst (by decide) (fun a x hx => ItmV.stay hst (by decide) (by decide) a x hx)) ((((((((HG13.out.setLocal (by omega) hlt _).setLocal (by omega) hlt _).setLocal (by omega) hlt _).setLocal (by omega) hlt _).setLocal (by omega) hlt _).setLocal (by omega) hlt _).setLocal (by omega) hlt _).setLocal (by omega) hlt _))
end Go.Proofs.YtgohhnbdicdenaaGreatDoor.Pg

/- Contracts of layer prog's reader: a node. Conditions: a reader lies in memory. -/
namespace Go.Proofs.YtgohhnbdicdenaaGreatDoor.Pg
open Go.ChangeShapes Go.WideShapes Go.ChangeAt Go.RowKit
open Go.Proofs.YtgohhnbdicdenaaGreatDoor.Ex
open Go.Proofs.YtgohhnbdicdenaaGreatDoor.Tr (str ret_bool ret_int Bytes Nd)
set_option linter.unusedVariables false
set_option linter.unusedSimpArgs false

theorem node_any (b : Nat) (r : Rd) (w : World) (hr : GrAt w b r) : Calls Tryz.prog 95 #[.pointer (some ⟨b, 0, none⟩)] w (UntG w b (nodeP r)) := by
  obtain ⟨⟨n, r1⟩, h1⟩ : ∃ x, nameP r = x := ⟨_, rfl⟩
  obtain ⟨⟨i, r2⟩, h2⟩ : ∃ x, encP sSemi paramP r1 = x := ⟨_, rfl⟩
  obtain ⟨r3, h3⟩ : ∃ x, (needP wReturns r2).2 = x := ⟨_, rfl⟩
  obtain ⟨r4, h4⟩ : ∃ x, (needP [40] r3).2 = x := ⟨_, rfl⟩
  obtain ⟨⟨⟨on, ot⟩, r5⟩, h5⟩ : ∃ x, paramP r4 = x := ⟨_, rfl⟩
  obtain ⟨r6, h6⟩ : ∃ x, (needP [41] r5).2 = x := ⟨_, rfl⟩
  obtain ⟨⟨c, r7⟩, h7⟩ : ∃ x, takeP wContract r6 = x := ⟨_, rfl⟩
  obtain ⟨⟨l, r8⟩, h8⟩ : ∃ x, (if c then itemsP else pPure []) r7 = x := ⟨_, rfl⟩
  obtain ⟨⟨v, r9⟩, h9⟩ : ∃ x, takeP wVar r8 = x := ⟨_, rfl⟩
  obtain ⟨⟨vs, r10⟩, h10⟩ : ∃ x, (if v then streamsP else pPure []) r9 = x := ⟨_, rfl⟩
  obtain ⟨r11, h11⟩ : ∃ x, (needP wLet r10).2 = x := ⟨_, rfl⟩
  obtain ⟨⟨q, r12⟩, h12⟩ : ∃ x, rowP atNameB eqnP r11 = x := ⟨_, rfl⟩
  obtain ⟨r13, h13⟩ : ∃ x, (needP wTel r12).2 = x := ⟨_, rfl⟩
  have he : ((⟨false, n, i, ⟨on, ot⟩, vs, q, l⟩ : Unt), r13) = nodeP r := by
    refine Eq.symm ?_; refine (pb h1).trans ?_; refine (pb h2).trans ?_; refine (pu h3).trans ?_; refine (pu h4).trans ?_; refine (pb h5).trans ?_; refine (pu h6).trans ?_; refine (pb h7).trans ?_; refine (pb h8).trans ?_; refine (pb h9).trans ?_; refine (pb h10).trans ?_; refine (pu h11).trans ?_; refine (pb h12).trans ?_; refine (pu h13).trans ?_; rfl
  cases c <;> cases v
  · exact node_00 b r w hr n i on ot l vs q r1 r2 r3 r4 r5 r6 r7 r8 r9 r10 r11 r12 r13 _ h1 h2 h3 h4 h5 h6 h7 h8 h9 h10 h11 h12 h13 he
  · exact node_01 b r w hr n i on ot l vs q r1 r2 r3 r4 r5 r6 r7 r8 r9 r10 r11 r12 r13 _ h1 h2 h3 h4 h5 h6 h7 h8 h9 h10 h11 h12 h13 he
  · exact node_10 b r w hr n i on ot l vs q r1 r2 r3 r4 r5 r6 r7 r8 r9 r10 r11 r12 r13 _ h1 h2 h3 h4 h5 h6 h7 h8 h9 h10 h11 h12 h13 he
  · exact node_11 b r w hr n i on ot l vs q r1 r2 r3 r4 r5 r6 r7 r8 r9 r10 r11 r12 r13 _ h1 h2 h3 h4 h5 h6 h7 h8 h9 h10 h11 h12 h13 he
end Go.Proofs.YtgohhnbdicdenaaGreatDoor.Pg

