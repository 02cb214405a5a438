/- Contracts of the document's reader of programs: whether an item begins. Conditions: a reader lies in memory. -/
import Derived.Test.YtndmhbocfmnhgaaQa02
namespace Go.Proofs.Ytndmhbocfmnhgaa.Rp
open Go.ChangeShapes Go.WideShapes Go.ChangeAt Go.RowKit
open Go.Proofs.Ytndmhbocfmnhgaa.Ex
open Go.Proofs.Ytndmhbocfmnhgaa.Tr (str ret_bool ret_int Bytes Nd)
open Go.Proofs.Ytndmhbocfmnhgaa.Pg
set_option linter.unusedVariables false
set_option linter.unusedSimpArgs false

theorem kind_in {r : Rd} (h : kindQ r ≠ 0) : r.next < r.l.length := by
  unfold kindQ at h
  split at h
  · exact isB_in (by assumption)
  split at h
  · exact isB_in (by assumption)
  split at h
  · exact isB_in (by assumption)
  split at h
  · exact isB_in (by assumption)
  split at h
  · exact isB_in (by assumption)
  · exact absurd rfl h
theorem stick_in {α : Type} {sep : Bytes} {one : PM α} (h : Stick one) : ∀ (k : Nat) (acc : List α), Stick (inF sep one k acc)
  | 0, acc => stick_pure []
  | k + 1, acc => fun r hr => by rw [inF_dead hr]; exact hr
theorem stick_inQ {α : Type} {sep : Bytes} {one : PM α} (h : Stick one) : Stick (inQ sep one) := (stick_need _).bind fun _ => (stick_take _).bind fun b => stick_if (stick_pure _) (stick_in h _ _)
theorem stick_itemOf (k : Int) : Stick (itemOfQ k) := by
  unfold itemOfQ
  refine stick_if ?_ (stick_if ?_ (stick_if ?_ ?_))
  · exact stick_param.bind fun _ => (stick_need _).bind fun _ => stick_expr.bind fun _ => (stick_need _).bind fun _ => stick_pure _
  · exact stick_name.bind fun _ => (stick_need _).bind fun _ => stick_expr.bind fun _ => (stick_need _).bind fun _ => stick_expr.bind fun _ => (stick_need _).bind fun _ => stick_pure _
  · exact stick_name.bind fun _ => (stick_inQ stick_expr).bind fun _ => (stick_need _).bind fun _ => stick_pure _
  · exact stick_expr.bind fun _ => (stick_need _).bind fun _ => stick_pure _
theorem stick_item : Stick itemQ := fun r h => by
  unfold itemQ
  split
  · exact h
  · exact ((stick_itemOf _).bind fun _ => stick_pure _) r.adv h
theorem room_in {w : World} {b n : Nat} {r r1 : Rd} (h : RdIn w b r) (k : (roomQ n r).2 = r1) : r1.code ≠ 0 → r1.l = [] := by
  subst k
  unfold roomQ
  simp only
  split
  · intro _; unfold Rd.fail; split <;> rfl
  · exact h.fine
theorem item_dead {r : Rd} (h : r.code ≠ 0 → r.l = []) (hc : r.code ≠ 0) : (itemQ r).1 = none := by
  have : kindQ r = 0 := Classical.byContradiction fun hk => by
    have := kind_in hk; rw [h hc] at this; simp at this
  unfold itemQ; rw [if_pos this]
set_option maxHeartbeats 4000000 in
theorem begins_any (b : Nat) (r : Rd) (w : World) (hr : RdIn w b r) : Calls Try.prog 71 #[.pointer (some ⟨b, 0, none⟩)] w (fun e w' => e = .returned (.bool (decide (kindQ r ≠ 0))) ∧ Below w.heap.size w w') := by
  have HR := Lib.hid hr
  clear hr
  have HA : ∀ (s : Bytes) (S : ByteArray) (B : Bool), S = str s → r.isB s = B → ∀ w', Below w.heap.size w w' → Calls Try.prog 38 #[.pointer (some ⟨b, 0, none⟩), .string S] w' (fun e w'' => e = .returned (.bool B) ∧ Below w.heap.size w w'') := fun s S B hS hB w' hb =>
    (is_lit hS (HR.out.below hb) hB).mono fun e w'' h => ⟨h.1, hb.trans (h.2.mono hb.size)⟩
  have HAA := Lib.hid HA
  clear HA
  rcases Bool.eq_false_or_eq_true (r.isB wAssume) with a1 | a1
  · have HT : Hid (decide (kindQ r ≠ 0) = true) := Lib.hid (by unfold kindQ; rw [a1]; rfl)
    rw [HT.out]
    have A1 := Lib.hid a1
    clear a1 HT
    go_enter Try.func71, Try.ntmps71
    go_wp2_with fail
    refine (HAA.out wAssume _ true rfl A1.out _ (Below.refl _ _)).mono ?_
    rintro e w1 ⟨rfl, hb1⟩
    have HB1 := Lib.hid hb1
    clear hb1
    go_wp2
    go_ret
    exact ⟨rfl, HB1.out⟩
  rcases Bool.eq_false_or_eq_true (r.isB wGuarantee) with a2 | a2
  · have HT : Hid (decide (kindQ r ≠ 0) = true) := Lib.hid (by unfold kindQ; rw [a1, a2]; rfl)
    rw [HT.out]
    have A1 := Lib.hid a1
    have A2 := Lib.hid a2
    clear a1 a2 HT
    go_enter Try.func71, Try.ntmps71
    go_wp2_with fail
    refine (HAA.out wAssume _ false rfl A1.out _ (Below.refl _ _)).mono ?_
    rintro e w1 ⟨rfl, hb1⟩
    have HB1 := Lib.hid hb1
    clear hb1
    go_wp2_with fail
    refine (HAA.out wGuarantee _ true rfl A2.out _ HB1.out).mono ?_
    rintro e w2 ⟨rfl, hb2⟩
    have HB2 := Lib.hid hb2
    clear hb2
    go_wp2
    go_ret
    exact ⟨rfl, HB2.out⟩
  rcases Bool.eq_false_or_eq_true (r.isB wGhost) with a3 | a3
  · have HT : Hid (decide (kindQ r ≠ 0) = true) := Lib.hid (by unfold kindQ; rw [a1, a2, a3]; rfl)
    rw [HT.out]
    have A1 := Lib.hid a1
    have A2 := Lib.hid a2
    have A3 := Lib.hid a3
    clear a1 a2 a3 HT
    go_enter Try.func71, Try.ntmps71
    go_wp2_with fail
    refine (HAA.out wAssume _ false rfl A1.out _ (Below.refl _ _)).mono ?_
    rintro e w1 ⟨rfl, hb1⟩
    have HB1 := Lib.hid hb1
    clear hb1
    go_wp2_with fail
    refine (HAA.out wGuarantee _ false rfl A2.out _ HB1.out).mono ?_
    rintro e w2 ⟨rfl, hb2⟩
    have HB2 := Lib.hid hb2
    clear hb2
    go_wp2_with fail
    refine (HAA.out wGhost _ true rfl A3.out _ HB2.out).mono ?_
    rintro e w3 ⟨rfl, hb3⟩
    have HB3 := Lib.hid hb3
    clear hb3
    go_wp2
    go_ret
    exact ⟨rfl, HB3.out⟩
  rcases Bool.eq_false_or_eq_true (r.isB wMode) with a4 | a4
  · have HT : Hid (decide (kindQ r ≠ 0) = true) := Lib.hid (by unfold kindQ; rw [a1, a2, a3, a4]; rfl)
    rw [HT.out]
    have A1 := Lib.hid a1
    have A2 := Lib.hid a2
    have A3 := Lib.hid a3
    have A4 := Lib.hid a4
    clear a1 a2 a3 a4 HT
    go_enter Try.func71, Try.ntmps71
    go_wp2_with fail
    refine (HAA.out wAssume _ false rfl A1.out _ (Below.refl _ _)).mono ?_
    rintro e w1 ⟨rfl, hb1⟩
    have HB1 := Lib.hid hb1
    clear hb1
    go_wp2_with fail
    refine (HAA.out wGuarantee _ false rfl A2.out _ HB1.out).mono ?_
    rintro e w2 ⟨rfl, hb2⟩
    have HB2 := Lib.hid hb2
    clear hb2
    go_wp2_with fail
    refine (HAA.out wGhost _ false rfl A3.out _ HB2.out).mono ?_
    rintro e w3 ⟨rfl, hb3⟩
    have HB3 := Lib.hid hb3
    clear hb3
    go_wp2_with fail
    refine (HAA.out wMode _ true rfl A4.out _ HB3.out).mono ?_
    rintro e w4 ⟨rfl, hb4⟩
    have HB4 := Lib.hid hb4
    clear hb4
    go_wp2
    go_ret
    exact ⟨rfl, HB4.out⟩
  rcases Bool.eq_false_or_eq_true (r.isB wImport) with a5 | a5
  · have HT : Hid (decide (kindQ r ≠ 0) = true) := Lib.hid (by unfold kindQ; rw [a1, a2, a3, a4, a5]; rfl)
    rw [HT.out]
    have A1 := Lib.hid a1
    have A2 := Lib.hid a2
    have A3 := Lib.hid a3
    have A4 := Lib.hid a4
    have A5 := Lib.hid a5
    clear a1 a2 a3 a4 a5 HT
    go_enter Try.func71, Try.ntmps71
    go_wp2_with fail
    refine (HAA.out wAssume _ false rfl A1.out _ (Below.refl _ _)).mono ?_
    rintro e w1 ⟨rfl, hb1⟩
    have HB1 := Lib.hid hb1
    clear hb1
    go_wp2_with fail
    refine (HAA.out wGuarantee _ false rfl A2.out _ HB1.out).mono ?_
    rintro e w2 ⟨rfl, hb2⟩
    have HB2 := Lib.hid hb2
    clear hb2
    go_wp2_with fail
    refine (HAA.out wGhost _ false rfl A3.out _ HB2.out).mono ?_
    rintro e w3 ⟨rfl, hb3⟩
    have HB3 := Lib.hid hb3
    clear hb3
    go_wp2_with fail
    refine (HAA.out wMode _ false rfl A4.out _ HB3.out).mono ?_
    rintro e w4 ⟨rfl, hb4⟩
    have HB4 := Lib.hid hb4
    clear hb4
    go_wp2_with fail
    refine (HAA.out wImport _ true rfl A5.out _ HB4.out).mono ?_
    rintro e w5 ⟨rfl, hb5⟩
    have HB5 := Lib.hid hb5
    clear hb5
    go_wp2
    go_ret
    exact ⟨rfl, HB5.out⟩
  have HT : Hid (decide (kindQ r ≠ 0) = false) := Lib.hid (by unfold kindQ; rw [a1, a2, a3, a4, a5]; rfl)
  rw [HT.out]
  have A1 := Lib.hid a1
  have A2 := Lib.hid a2
  have A3 := Lib.hid a3
  have A4 := Lib.hid a4
  have A5 := Lib.hid a5
  clear a1 a2 a3 a4 a5 HT
  go_enter Try.func71, Try.ntmps71
  go_wp2_with fail
  refine (HAA.out wAssume _ false rfl A1.out _ (Below.refl _ _)).mono ?_
  rintro e w1 ⟨rfl, hb1⟩
  have HB1 := Lib.hid hb1
  clear hb1
  go_wp2_with fail
  refine (HAA.out wGuarantee _ false rfl A2.out _ HB1.out).mono ?_
  rintro e w2 ⟨rfl, hb2⟩
  have HB2 := Lib.hid hb2
  clear hb2
  go_wp2_with fail
  refine (HAA.out wGhost _ false rfl A3.out _ HB2.out).mono ?_
  rintro e w3 ⟨rfl, hb3⟩
  have HB3 := Lib.hid hb3
  clear hb3
  go_wp2_with fail
  refine (HAA.out wMode _ false rfl A4.out _ HB3.out).mono ?_
  rintro e w4 ⟨rfl, hb4⟩
  have HB4 := Lib.hid hb4
  clear hb4
  go_wp2_with fail
  refine (HAA.out wImport _ false rfl A5.out _ HB4.out).mono ?_
  rintro e w5 ⟨rfl, hb5⟩
  have HB5 := Lib.hid hb5
  clear hb5
  go_wp2
  go_ret
  exact ⟨rfl, HB5.out⟩
theorem begins_lit {b : Nat} {r : Rd} {w : World} {B : Bool} (hr : RdIn w b r) (h : decide (kindQ r ≠ 0) = B) : Calls Try.prog 71 #[.pointer (some ⟨b, 0, none⟩)] w (fun e w' => e = .returned (.bool B) ∧ Below w.heap.size w w') := by
  subst h; exact begins_any b r w hr
end Go.Proofs.Ytndmhbocfmnhgaa.Rp

/- Contracts of the document's reader of programs: inputs. Conditions: a reader lies in memory. -/
namespace Go.Proofs.Ytndmhbocfmnhgaa.Rp
open Go.ChangeShapes Go.WideShapes Go.ChangeAt Go.RowKit
open Go.Proofs.Ytndmhbocfmnhgaa.Ex
open Go.Proofs.Ytndmhbocfmnhgaa.Tr (str ret_bool ret_int Bytes Nd)
open Go.Proofs.Ytndmhbocfmnhgaa.Pg
set_option linter.unusedVariables false
set_option linter.unusedSimpArgs false

theorem info54_inputs : (Try.prog.info? 54).map (fun i => (i.zero, i.size, i.bytes)) = some (some (.agg #[.string ⟨#[]⟩, .int .i64 0]), 2, 24) := by kernel_rfl
set_option maxRecDepth 100000 in
set_option maxHeartbeats 8000000 in
theorem inputs_any (b : Nat) (r : Rd) (w : World) (hr : RdIn w b r) : Calls Try.prog 56 #[.pointer (some ⟨b, 0, none⟩)] w (RowG 54 2 PrmV w b (inQ sSemi paramQ r)) := by
  have HR := Lib.hid hr
  have hlt := hr.lt
  obtain ⟨i0, hi, hz0, hz1, hz2⟩ := info_parts info54_inputs
  obtain ⟨r1, h1⟩ : ∃ x, (needQ [40] r).2 = x := ⟨_, rfl⟩
  obtain ⟨⟨B, r2⟩, h2⟩ : ∃ x, takeQ [41] r1 = x := ⟨_, rfl⟩
  obtain ⟨X, hX⟩ : ∃ X, inQ sSemi paramQ r = X := ⟨_, rfl⟩
  have HX : Hid ((if B then ([], r2) else inF sSemi paramQ rowMax [] r2) = X) := Lib.hid ((inQ_eq h1 h2).symm.trans hX)
  have H1 := Lib.hid h1
  have H2 := Lib.hid h2
  rw [hX]
  clear h1 h2 hX hr
  go_enter Try.func56, Try.ntmps56
  go_wp2_with fail
  refine (need_lit (s := [40]) rfl HR.out H1.out).mono ?_
  rintro e wa ⟨rfl, hga⟩
  have HGA := Lib.hid hga
  clear hga
  go_wp2_with fail
  refine (take_lit (s := [41]) rfl HGA.out.rd H2.out).mono ?_
  rintro e wb ⟨rfl, hgb⟩
  have HGB := Lib.hid (HGA.out.trans hgb)
  clear hgb
  cases B with
  | true =>
    have HE : Hid (([], r2) = X) := Lib.hid HX.out
    go_wp2
    go_ret
    exact RowG.of HE.out (RowR.nil _ _ _ _) HGB.out
  | false =>
  have HE0 : Hid (inF sSemi paramQ rowMax [] r2 = X) := Lib.hid HX.out
  go_wp2
  go_loopg [3] rowMax (fun g s3 wr => ∃ (rr : Rd) (ov : Value) (acc : List (Prm)) (xs : List (List Value)), ov = s3 ∧ acc.length ≤ 201 ∧ 1 ≤ g ∧ (rr.code = 0 → acc.length ≤ 200 ∧ 202 ≤ acc.length + g) ∧ OList 54 2 PrmV wr w.heap.size ov acc xs ∧ RdBy w wr b rr ∧ inF sSemi paramQ g acc rr = X)
  case atStart => exact ⟨r2, _, [], [], rfl, by simp, by simp [rowMax], fun _ => by simp [rowMax], OList.nil _ _, HGB.out, HE0.out⟩
  case round =>
    obtain ⟨rr, ov, acc, xs, hov, ha, hg1, hag, hol, hgr, hrow⟩ := hrel
    subst hov
    have HOL := Lib.hid hol
    have HGR := Lib.hid hgr
    have HROW := Lib.hid hrow
    obtain ⟨A0, c0, hv0, hn1, hn2⟩ := own_form hol.own
    subst hv0
    have hs0 := hgr.grown.size
    clear hol hgr hrow
    cases gk with
    | zero => omega
    | succ gk =>
    by_cases hc : rr.code = 0
    rotate_left
    · have HE : Hid (([], rr) = X) := Lib.hid ((inF_dead hc).symm.trans HROW.out)
      have HOK := Lib.hid (ok_lit (B := false) HGR.out.rd (by simpa using hc))
      clear hc
      go_wp2_with fail
      refine HOK.out.mono ?_
      rintro e w1 ⟨rfl, rfl⟩
      go_wp2
      go_ret
      exact RowG.of HE.out (RowR.nil _ _ _ _) HGR.out
    have hag' := hag hc
    have HOK := Lib.hid (ok_lit (B := true) HGR.out.rd (by rw [hc]; rfl))
    clear hag
    obtain ⟨r1, k1⟩ : ∃ x, (roomQ acc.length rr).2 = x := ⟨_, rfl⟩
    have HK1 := Lib.hid (room_lit (n := acc.length) (by omega) HGR.out.rd k1)
    obtain ⟨⟨a, r2⟩, k2⟩ : ∃ x, paramQ r1 = x := ⟨_, rfl⟩
    have HO : Hid (∀ w', RdIn w' b r1 → Calls Try.prog 58 #[.pointer (some ⟨b, 0, none⟩)] w' (PrmG w' b (a, r2))) := Lib.hid (fun w' h => by rw [← k2]; exact param_any b r1 w' h)
    obtain ⟨⟨B, r3⟩, k3⟩ : ∃ x, takeQ [41] r2 = x := ⟨_, rfl⟩
    obtain ⟨r4, k4⟩ : ∃ x, (needQ sSemi r3).2 = x := ⟨_, rfl⟩
    have HST : Hid (r4.code = 0 → acc.length < 200) := Lib.hid (fun h => room_code k1 (Classical.byContradiction fun hn => by
      have s1 := stick_param r1 hn
      rw [k2] at s1
      have s2 := stick_take [41] r2 s1
      rw [k3] at s2
      have s3 := stick_need sSemi r3 s2
      rw [k4] at s3
      exact s3 h))
    have HE : Hid ((if B then (acc ++ [a], r3) else inF sSemi paramQ gk (acc ++ [a]) r4) = X) := Lib.hid (by
      rw [← HROW.out]
      cases B with
      | true => exact (inF_end hc k1 k2 k3).symm
      | false => exact (inF_step hc k1 k2 k3 k4).symm)
    have K3 := Lib.hid k3
    have K4 := Lib.hid k4
    clear k1 k2 k3 k4 hc
    go_wp2_with fail
    refine HOK.out.mono ?_
    rintro e w0 ⟨rfl, rfl⟩
    go_wp2_with fail
    refine HK1.out.mono ?_
    rintro e w1 ⟨rfl, hg1⟩
    have HG1 := Lib.hid hg1
    have hs1 := hg1.grown.size
    have HOL1 := Lib.hid (HOL.out.stay (RdBy.stay HGR.out.rd hg1) (by decide) (fun a x hx => PrmV.stay (RdBy.stay HGR.out.rd hg1) a x hx))
    clear hg1
    go_wp2_with fail
    refine (HO.out w1 HG1.out.rd).mono ?_
    rintro e w2 ⟨rfl, hg2⟩
    have HG2 := Lib.hid hg2
    have hs2 := hg2.grown.size
    have HOL2 := Lib.hid (HOL1.out.stay (RdBy.stay HG1.out.rd hg2) (by decide) (fun a x hx => PrmV.stay (RdBy.stay HG1.out.rd hg2) a x hx))
    clear hg2
    have HXV : Hid (PrmV w2 a [.string (str a.name), .int .i64 a.ty]) := Lib.hid rfl
    go_wp2_with (at_builtin; refine wpList_append_own _ rfl (.tmp 14) (.tmp 17) 52 rfl w.heap.size 54 i0 _ 2 24 Try.underlying52 hi hz0 hz1 hz2 rfl (by decide) _ acc.length xs.flatten rfl (HOL2.out.own.alloc _) ⟨w2.heap.size, 0, none⟩ 1 1 [.string (str a.name), .int .i64 a.ty] rfl rfl ?a1 ?b1 ?c1 ?d1 ?e1 ?_)
    case a1 => first | exact (fun j u h => h) | exact news_new _ #[.string (str a.name), .int .i64 a.ty] _ [.string (str a.name), .int .i64 a.ty] rfl rfl
    case b1 => simp [Value.oneCell']
    case c1 => unfold maxLen; omega
    case d1 => omega
    case e1 => simp; omega
    intro v3 w3 hown3 hg3 _
    have HOL3 := Lib.hid (HOL2.out.snoc HXV.out rfl (below_new w2 _) hown3 hg3 (fun st => PrmV.stay st))
    have HGR3 := Lib.hid (RdBy.row ((HGR.out.trans HG1.out).trans HG2.out) hlt (below_new w2 _) hg3 (fun g hg => (HOL2.out.own.lt g hg).1))
    obtain ⟨A3, c3, hv3, y3, y4⟩ := own_form hown3
    subst hv3
    clear hown3 hg3
    go_wp2_with fail
    refine (take_lit (s := [41]) rfl HGR3.out.rd K3.out).mono ?_
    rintro e w4 ⟨rfl, hg4⟩
    have HGR4 := Lib.hid (HGR3.out.trans hg4)
    have HOL4 := Lib.hid (HOL3.out.stay (RdBy.stay HGR3.out.rd hg4) (by decide) (fun a x hx => PrmV.stay (RdBy.stay HGR3.out.rd hg4) a x hx))
    clear hg4
    cases B with
    | true =>
      have HE1 : Hid ((acc ++ [a], r3) = X) := Lib.hid HE.out
      go_wp2
      go_ret
      have hol := HOL4.out.row
      exact RowG.of HE1.out hol HGR4.out
    | false =>
      have HE1 : Hid (inF sSemi paramQ gk (acc ++ [a]) r4 = X) := Lib.hid HE.out
      go_wp2_with fail
      refine (need_lit (s := sSemi) rfl HGR4.out.rd K4.out).mono ?_
      rintro e w5 ⟨rfl, hg5⟩
      have HGR5 := Lib.hid (HGR4.out.trans hg5)
      have HOL5 := Lib.hid (HOL4.out.stay (RdBy.stay HGR4.out.rd hg5) (by decide) (fun a x hx => PrmV.stay (RdBy.stay HGR4.out.rd hg5) a x hx))
      clear hg5
      go_wp2
      go_roundg gk
      case measure => omega
      case rel => exact ⟨r4, _, acc ++ [a], xs ++ [[.string (str a.name), .int .i64 a.ty]], rfl, by simp; omega, by omega, fun h => by have := HST.out h; simp; omega, HOL5.out, HGR5.out, HE1.out⟩
end Go.Proofs.Ytndmhbocfmnhgaa.Rp

/- Contracts of the document's reader of programs: streams behind var. Conditions: a reader lies in memory. -/
namespace Go.Proofs.Ytndmhbocfmnhgaa.Rp
open Go.ChangeShapes Go.WideShapes Go.ChangeAt Go.RowKit
open Go.Proofs.Ytndmhbocfmnhgaa.Ex
open Go.Proofs.Ytndmhbocfmnhgaa.Tr (str ret_bool ret_int Bytes Nd)
open Go.Proofs.Ytndmhbocfmnhgaa.Pg
set_option linter.unusedVariables false
set_option linter.unusedSimpArgs false

theorem info54_vars : (Try.prog.info? 54).map (fun i => (i.zero, i.size, i.bytes)) = some (some (.agg #[.string ⟨#[]⟩, .int .i64 0]), 2, 24) := by kernel_rfl
set_option maxRecDepth 100000 in
set_option maxHeartbeats 8000000 in
theorem vars_any (b : Nat) (r : Rd) (w : World) (hr : RdIn w b r) : Calls Try.prog 59 #[.pointer (some ⟨b, 0, none⟩)] w (RowG 54 2 PrmV w b (varQ r)) := by
  have HR := Lib.hid hr
  have hlt := hr.lt
  obtain ⟨i0, hi, hz0, hz1, hz2⟩ := info_parts info54_vars
  obtain ⟨X, hX⟩ : ∃ X, varQ r = X := ⟨_, rfl⟩
  have HE0 : Hid (varF rowMax [] r = X) := Lib.hid hX
  rw [hX]
  clear hX hr
  go_enter Try.func59, Try.ntmps59
  go_wp2
  go_loopg [3] rowMax (fun g s3 wr => ∃ (rr : Rd) (ov : Value) (acc : List (Prm)) (xs : List (List Value)), ov = s3 ∧ acc.length ≤ 201 ∧ 1 ≤ g ∧ (rr.code = 0 → acc.length ≤ 200 ∧ 202 ≤ acc.length + g) ∧ OList 54 2 PrmV wr w.heap.size ov acc xs ∧ RdBy w wr b rr ∧ varF g acc rr = X)
  case atStart => exact ⟨r, _, [], [], rfl, by simp, by simp [rowMax], fun _ => by simp [rowMax], OList.nil _ _, (RdBy.refl HR.out), HE0.out⟩
  case round =>
    obtain ⟨rr, ov, acc, xs, hov, ha, hg1, hag, hol, hgr, hrow⟩ := hrel
    subst hov
    have HOL := Lib.hid hol
    have HGR := Lib.hid hgr
    have HROW := Lib.hid hrow
    obtain ⟨A0, c0, hv0, hn1, hn2⟩ := own_form hol.own
    subst hv0
    have hs0 := hgr.grown.size
    clear hol hgr hrow
    cases gk with
    | zero => omega
    | succ gk =>
    by_cases hc : rr.code = 0
    rotate_left
    · have HE : Hid (([], rr) = X) := Lib.hid ((varF_dead hc).symm.trans HROW.out)
      have HOK := Lib.hid (ok_lit (B := false) HGR.out.rd (by simpa using hc))
      clear hc
      go_wp2_with fail
      refine HOK.out.mono ?_
      rintro e w1 ⟨rfl, rfl⟩
      go_wp2
      go_ret
      exact RowG.of HE.out (RowR.nil _ _ _ _) HGR.out
    have hag' := hag hc
    have HOK := Lib.hid (ok_lit (B := true) HGR.out.rd (by rw [hc]; rfl))
    clear hag
    obtain ⟨r1, k1⟩ : ∃ x, (roomQ acc.length rr).2 = x := ⟨_, rfl⟩
    have HK1 := Lib.hid (room_lit (n := acc.length) (by omega) HGR.out.rd k1)
    obtain ⟨⟨a, r2⟩, k2⟩ : ∃ x, paramQ r1 = x := ⟨_, rfl⟩
    have HO : Hid (∀ w', RdIn w' b r1 → Calls Try.prog 58 #[.pointer (some ⟨b, 0, none⟩)] w' (PrmG w' b (a, r2))) := Lib.hid (fun w' h => by rw [← k2]; exact param_any b r1 w' h)
    obtain ⟨r3, k3⟩ : ∃ x, (needQ sSemi r2).2 = x := ⟨_, rfl⟩
    obtain ⟨B, k4⟩ : ∃ x, atNameB r3 = x := ⟨_, rfl⟩
    have HST : Hid (r3.code = 0 → acc.length < 200) := Lib.hid (fun h => room_code k1 (Classical.byContradiction fun hn => by
      have s1 := stick_param r1 hn
      rw [k2] at s1
      have s3 := stick_need sSemi r2 s1
      rw [k3] at s3
      exact s3 h))
    have HE : Hid ((if B then varF gk (acc ++ [a]) r3 else (acc ++ [a], r3)) = X) := Lib.hid ((varF_step hc k1 k2 k3 k4).symm.trans HROW.out)
    have K3 := Lib.hid k3
    have K4 := Lib.hid k4
    clear k1 k2 k3 k4 hc
    go_wp2_with fail
    refine HOK.out.mono ?_
    rintro e w0 ⟨rfl, rfl⟩
    go_wp2_with fail
    refine HK1.out.mono ?_
    rintro e w1 ⟨rfl, hg1⟩
    have HG1 := Lib.hid hg1
    have hs1 := hg1.grown.size
    have HOL1 := Lib.hid (HOL.out.stay (RdBy.stay HGR.out.rd hg1) (by decide) (fun a x hx => PrmV.stay (RdBy.stay HGR.out.rd hg1) a x hx))
    clear hg1
    go_wp2_with fail
    refine (HO.out w1 HG1.out.rd).mono ?_
    rintro e w2 ⟨rfl, hg2⟩
    have HG2 := Lib.hid hg2
    have hs2 := hg2.grown.size
    have HOL2 := Lib.hid (HOL1.out.stay (RdBy.stay HG1.out.rd hg2) (by decide) (fun a x hx => PrmV.stay (RdBy.stay HG1.out.rd hg2) a x hx))
    clear hg2
    have HXV : Hid (PrmV w2 a [.string (str a.name), .int .i64 a.ty]) := Lib.hid rfl
    go_wp2_with (at_builtin; refine wpList_append_own _ rfl (.tmp 10) (.tmp 13) 52 rfl w.heap.size 54 i0 _ 2 24 Try.underlying52 hi hz0 hz1 hz2 rfl (by decide) _ acc.length xs.flatten rfl (HOL2.out.own.alloc _) ⟨w2.heap.size, 0, none⟩ 1 1 [.string (str a.name), .int .i64 a.ty] rfl rfl ?a1 ?b1 ?c1 ?d1 ?e1 ?_)
    case a1 => first | exact (fun j u h => h) | exact news_new _ #[.string (str a.name), .int .i64 a.ty] _ [.string (str a.name), .int .i64 a.ty] rfl rfl
    case b1 => simp [Value.oneCell']
    case c1 => unfold maxLen; omega
    case d1 => omega
    case e1 => simp; omega
    intro v3 w3 hown3 hg3 _
    have HOL3 := Lib.hid (HOL2.out.snoc HXV.out rfl (below_new w2 _) hown3 hg3 (fun st => PrmV.stay st))
    have HGR3 := Lib.hid (RdBy.row ((HGR.out.trans HG1.out).trans HG2.out) hlt (below_new w2 _) hg3 (fun g hg => (HOL2.out.own.lt g hg).1))
    obtain ⟨A3, c3, hv3, y3, y4⟩ := own_form hown3
    subst hv3
    clear hown3 hg3
    go_wp2_with fail
    refine (need_lit (s := sSemi) rfl HGR3.out.rd K3.out).mono ?_
    rintro e w4 ⟨rfl, hg4⟩
    have HGR4 := Lib.hid (HGR3.out.trans hg4)
    have HOL4 := Lib.hid (HOL3.out.stay (RdBy.stay HGR3.out.rd hg4) (by decide) (fun a x hx => PrmV.stay (RdBy.stay HGR3.out.rd hg4) a x hx))
    clear hg4
    go_wp2_with fail
    refine (named_lit HGR4.out.rd K4.out).mono ?_
    rintro e w5 ⟨rfl, hb5⟩
    have HGR5 := Lib.hid (HGR4.out.then_below hb5)
    have HOL5 := Lib.hid (HOL4.out.stay (Stay.below (P := fun t => t = 80) hb5) (by decide) (fun a x hx => PrmV.stay (Stay.below (P := fun t => t = 80) hb5) a x hx))
    clear hb5
    cases B with
    | false =>
      have HE1 : Hid ((acc ++ [a], r3) = X) := Lib.hid HE.out
      go_wp2
      go_ret
      exact RowG.of HE1.out HOL5.out.row HGR5.out
    | true =>
      have HE1 : Hid (varF gk (acc ++ [a]) r3 = X) := Lib.hid HE.out
      go_wp2
      go_roundg gk
      case measure => omega
      case rel => exact ⟨r3, _, acc ++ [a], xs ++ [[.string (str a.name), .int .i64 a.ty]], rfl, by simp; omega, by omega, fun h => by have := HST.out h; simp; omega, HOL5.out, HGR5.out, HE1.out⟩
end Go.Proofs.Ytndmhbocfmnhgaa.Rp

/- Contracts of the document's reader of programs: what an item is told as. Conditions: a reader lies in memory. -/
namespace Go.Proofs.Ytndmhbocfmnhgaa.Rp
open Go.ChangeShapes Go.WideShapes Go.ChangeAt Go.RowKit
open Go.Proofs.Ytndmhbocfmnhgaa.Ex
open Go.Proofs.Ytndmhbocfmnhgaa.Tr (str ret_bool ret_int Bytes Nd)
open Go.Proofs.Ytndmhbocfmnhgaa.Pg
set_option linter.unusedVariables false
set_option linter.unusedSimpArgs false

/-- What tells an item, if one stands here, and turns a reader. -/
def ItmO (w : World) (b : Nat) (x : Option Itm × Rd) (e : Ending) (w' : World) : Prop := ∃ (i : Itm) (ev fv av : Value), (∀ j, x.1 = some j → j = i) ∧ e = .returned (.tuple #[.agg #[.int .i64 i.kind, .string (str i.name), .int .i64 i.ty, ev, fv, av], .bool x.1.isSome]) ∧ PtW w' (ev, ⟨i.e, 0, 0⟩) ∧ PtW w' (fv, ⟨i.f, 0, 0⟩) ∧ RowR 23 1 ExpV w' i.args av ∧ RdBy w w' b x.2
theorem ItmO.none {w w' : World} {b : Nat} {r : Rd} {X : Option Itm × Rd} (hX : ((none : Option Itm), r) = X) (g : RdBy w w' b r) : ItmO w b X (.returned (.tuple #[.agg #[.int .i64 0, .string ⟨#[]⟩, .int .i64 0, .slice none 0 0, .slice none 0 0, .slice none 0 0], .bool false])) w' := by
  subst hX; exact ⟨⟨0, [], 0, [], [], []⟩, _, _, _, fun j h => by simp at h, rfl, PtW.nil _ _ rfl, PtW.nil _ _ rfl, RowR.nil _ _ _ _, g⟩
theorem ItmO.of {w w' : World} {b : Nat} {k t : Int} {n : Bytes} {e f : List Nd} {a : List (List Nd)} {ev fv av : Value} {r : Rd} {X : Option Itm × Rd} (hX : (some (⟨k, n, t, e, f, a⟩ : Itm), r) = X) (h1 : PtW w' (ev, ⟨e, 0, 0⟩)) (h2 : PtW w' (fv, ⟨f, 0, 0⟩)) (h3 : RowR 23 1 ExpV w' a av) (g : RdBy w w' b r) :
    ItmO w b X (.returned (.tuple #[.agg #[.int .i64 k, .string (str n), .int .i64 t, ev, fv, av], .bool true])) w' := by
  subst hX; exact ⟨⟨k, n, t, e, f, a⟩, ev, fv, av, fun j h => by simpa using h.symm, rfl, h1, h2, h3, g⟩
end Go.Proofs.Ytndmhbocfmnhgaa.Rp

